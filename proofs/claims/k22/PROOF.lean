import PyProof.Rows.All
import Wide.All
import OpenK.AllK
import Wide.FinOn
import Lean
import PyProof.EqAt
import PyProof.EqKinds
import PyProof.TupleCall
import PySem.Challenge.RW_turnarrows_k22_whole_the_least_leavings
set_option Elab.async false
set_option linter.all false
set_option maxRecDepth 100000
open PySem.W (nsIn mg_of keepIn fnOf codeIn findIn mg_none_of)
abbrev Fg9:=PySem.W.Frag
abbrev LL9:=List (List Int)
section
open PySem PySem.Spec PyProof.Rows
namespace L2
abbrev Key:=Sum Int Str
def azu:Key->Value->Bool
 | .inl k,v=>Value.isInt k v
 | .inr x,v=>Value.isStrOf x v
def keyH(w:World):Key->Int
 | .inl k=>hashInt k
 | .inr x=>hashStr w x
theorem lg:∀{k:Key} {v:Value},azu k v=true->(∃i t,k=Sum.inl i/\v=Value.int i t)∨(∃x t,k=Sum.inr x/\v=Value.str x t)
 | .inl i,v,h=>by
  obtain⟨t,e⟩:=Value.isInt_shape (k:=i) (v:=v) h;exact .inl ⟨i,t,rfl,e⟩
 | .inr x,v,h=>by
  obtain⟨t,e⟩:=Value.isStrOf_shape (x:=x) (v:=v) h;exact .inr ⟨x,t,rfl,e⟩
theorem azt(a b:Int):decide ((Sum.inl a:Key)=Sum.inl b)=(a==b):=by
 by_cases e:a=b
 ·subst e;simp
 ·have h:¬(Sum.inl a:Key)=Sum.inl b:=fun q=>e (Sum.inl.inj q)
  rw[decide_eq_false h];exact(beq_eq_false_iff_ne.mpr e).symm
theorem azq(a b:Str):decide ((Sum.inr a:Key)=Sum.inr b)=decide (a=b):=by
 by_cases e:a=b
 ·subst e;simp
 ·have h:¬(Sum.inr a:Key)=Sum.inr b:=fun q=>e (Sum.inr.inj q)
  rw[decide_eq_false h,decide_eq_false e]
theorem azs(a:Int)(b:Str):decide ((Sum.inl a:Key)=Sum.inr b)=false:=decide_eq_false (fun q=>nomatch q)
theorem azr(a:Str)(b:Int):decide ((Sum.inr a:Key)=Sum.inl b)=false:=decide_eq_false (fun q=>nomatch q)
def ao5(prog:Program)(w:World):PySem.KeyKind prog w Key where
 is:=azu
 hash:=keyH w
 inj:=fun v a b ha hb=>by
  rcases lg ha with⟨i,t,rfl,rfl⟩ | ⟨x,t,rfl,rfl⟩
  ·rcases lg hb with⟨j,u,rfl,e⟩ | ⟨y,u,rfl,e⟩
   ·injection e with e1 _;rw[e1]
   ·exact nomatch e
  ·rcases lg hb with⟨j,u,rfl,e⟩ | ⟨y,u,rfl,e⟩
   ·exact nomatch e
   ·injection e with e1 _;rw[e1]
 byValue:=fun k v h=>by
  rcases lg h with⟨i,t,rfl,rfl⟩ | ⟨x,t,rfl,rfl⟩ <;> rfl
 pyHash:=fun hv h=>by
  rcases lg hv with⟨i,t,rfl,rfl⟩ | ⟨x,t,rfl,rfl⟩
  ·exact wpAny_pyHash_int h
  ·exact wpAny_pyHash_str h
 eqBool:=fun hu hv h=>by
  rcases lg hu with⟨i,t,rfl,rfl⟩ | ⟨x,t,rfl,rfl⟩
  ·rcases lg hv with⟨j,u,rfl,rfl⟩ | ⟨y,u,rfl,rfl⟩
   ·rw[azt] at h;exact wpAny_eqBool_int h
   ·rw[azs] at h;exact SeqAt.EqAt.int_str i t y u _ _ _ _ h
  ·rcases lg hv with⟨j,u,rfl,rfl⟩ | ⟨y,u,rfl,rfl⟩
   ·rw[azr] at h;exact SeqAt.EqAt.str_int x t j u _ _ _ _ h
   ·rw[azq] at h;exact wpAny_eqBool_str h
 «strs» := fun k x t v h=>by
  rcases lg h with⟨i,u,rfl,e⟩ | ⟨y,u,rfl,e⟩
  ·exact nomatch e
  ·injection e with e1 _
   subst e1;cases v <;> rfl
def IsTp(h:Heap)(a:Addr)(items:Array Value):Prop:=∃o,h.get? a=some o/\o.cls=.type "tuple" /\ o.dict=none/\∃n,o.data=.seq items n
theorem IsTp.tup{h:Heap}{a:Addr}{items:Array Value}(x:IsTp h a items):IsTup h a items:=let ⟨o,e,c,_,n,d⟩:=x;⟨o,e,c,n,d⟩
theorem IsTp.new(h:Heap)(items:Array Value):IsTp (h.push { cls:=.type "tuple", data:=.seq items }) h.objs.size items:=⟨_,Heap.get?_push_size _ rfl,rfl,rfl,_,rfl⟩
inductive V where
 | non | bl (b:Bool) | int (i:Int) | str (x:Str) | byt (b:Array UInt8) | flt (b:UInt64) | ref (a:Addr) | ty (n:String)
 deriving DecidableEq
def RelV:V->Value->Prop
 | .non,u=>u=Value.none
 | .bl b,u=>u=Value.bool b
 | .int i,u=>∃t,u=Value.int i t
 | .str x,u=>∃t,u=Value.str x t
 | .byt b,u=>∃t,u=Value.bytes b t
 | .flt b,u=>∃t,u=Value.float b t
 | .ref a,u=>u=Value.ref a
 | .ty n,u=>u=Value.type n
abbrev Vals:List V->List Value->Prop:=Paired RelV
theorem Vals.length{xs:List V}{us:List Value}(r:Vals xs us):xs.length=us.length:=Paired.length r
theorem Vals.get:∀{xs:List V} {us:List Value} {i:Nat} {x:V},Vals xs us->xs[i]? = some x->∃u,us[i]? = some u/\RelV x u
 | _,_,_,_,.nil,e=>by simp at e
 | _,_,0,_,.cons r _,e=>by simp at e;subst e;exact⟨_,rfl,r⟩
 | _,_,i+1,x,.cons _ t,e=>by
  obtain⟨u,h1,h2⟩:=Vals.get (i:=i) (x:=x) t (by simpa using e)
  exact⟨u,by simpa using h1,h2⟩
theorem Vals.set{x:V}{u:Value}(r:RelV x u):∀{xs:List V} {us:List Value} (i:Nat),Vals xs us->Vals (xs.set i x) (us.set i u)
 | _,_,_,.nil=>.nil
 | _,_,0,.cons _ t=>.cons r t
 | _,_,i+1,.cons q t=>.cons q (Vals.set r i t)
theorem Vals.append:∀{xs ys:List V} {us ws:List Value},Vals xs us->Vals ys ws->Vals (xs++ys) (us++ws)
 | _,_,_,_,.nil,s=>s
 | _,_,_,_,.cons r t,s=>.cons r (Vals.append t s)
theorem Vals.take:∀{xs:List V} {us:List Value} (n:Nat),Vals xs us->Vals (xs.take n) (us.take n)
 | _,_,0,_=>.nil
 | _,_,_+1,.nil=>.nil
 | _,_,n+1,.cons r t=>.cons r (Vals.take n t)
theorem Vals.drop:∀{xs:List V} {us:List Value} (n:Nat),Vals xs us->Vals (xs.drop n) (us.drop n)
 | _,_,0,r=>r
 | _,_,_+1,.nil=>.nil
 | _,_,n+1,.cons _ t=>Vals.drop n t
theorem Vals.none_of:∀{xs:List V} {us:List Value} {i:Nat},Vals xs us->xs[i]? = none->us[i]? = none:=fun{xs us i} r e=>by
 have h1:=r.length;have h2:xs.length<=i:=List.getElem?_eq_none_iff.mp e;exact List.getElem?_eq_none_iff.mpr (by omega)
def RelO:Option V->Option Value->Prop
 | some v,some u=>RelV v u
 | none,none=>True
 | _,_=>False
def KV{κ:Type}:List (κ×V)->List (κ×Value)->Prop:=Paired fun(p:κ×V) (q:κ×Value)=>p.1=q.1/\RelV p.2 q.2
def kV:Key->V
 | .inl i=>.int i
 | .inr x=>.str x
inductive HO where
 | lst (xs:List V)
 | tup (xs:List V)
 | dK (kvs:List (Key×V)) | dT (kvs:List (List Key×V))
 | set (S:Int->Bool) (n:Nat)
 | ins (C dx:Addr) (fs:List (Str×V))
 | own (x:Addr)
 | xd (fs:List (Str×V))
 | met (f x:Addr)
 | rng (lo hi:Int)
 | frz (o:Obj) (u:HO)
 | tbl (ps:Array Value)
 | ext (φ:Heap->Prop)
abbrev Hp:=Addr->Option HO
def upd(H:Hp)(a:Addr)(o:HO):Hp:=fun b=>if b=a then some o else H b
theorem ir{H:Hp}{a:Addr}{o:HO}:upd H a o a=some o:=by unfold upd;rw[if_pos rfl]
theorem cu{H:Hp}{a b:Addr}{o:HO}(h:b≠a):upd H a o b=H b:=by unfold upd;rw[if_neg h]
theorem gr{H:Hp}{a b:Addr}{o:HO}(h:H a=some o)(h':H b=none):a≠b:=by
 intro e;subst e;rw[h] at h';cases h'
section
variable(P:Program)(w:World)
def xj(H:Hp)(h:Heap)(a:Addr):HO->Prop
 | .lst xs=>xs.length<=sizeLine/\∃(its:List Value) (n:Nat),Vals xs its/\h.get? a=some { cls:=.type "list", data:=.seq its.toArray n }
 | .tup xs=>xs.length<=sizeLine/\∃its:List Value,Vals xs its/\IsTp h a its.toArray
 | .dK kvs=>kvs.length<=sizeLine/\(a==sysModules)=false/\∃vs,KV kvs vs/\h.DictOf (ao5 P w) a vs
 | .dT kvs=>kvs.length<=sizeLine/\(a==sysModules)=false/\∃xs:List (List Key×Addr×Value),
   Paired (fun(p:List Key×V) (q:List Key×Addr×Value)=>p.1=q.1/\H q.2.1=some (.tup (p.1.map kV))/\RelV p.2 q.2.2) kvs xs /\
   ∃o es ep,h.get? a=some o/\o.ExactDict/\o.data=.dict es ep/\es.toList=xs.map (entryOfKey (tupleKind (ao5 P w)))/\(xs.map (·.1)).Nodup
 | .set S n=>h.SetOf (intKind P w) a S n
 | .ins C dx fs=>H dx=some (.own a)/\fs.length<=1000/\dx≠a/\h.get? a=some (PySem.W.instObj C dx) /\
   ∃mA,h.Ns1 dx mA/\(∀f,RelO (fs.lookup f) (mA f))/\PySem.Within mA (fs.map (·.1))
 | .own _=>∃o,h.get? a=some o
 | .xd fs=>∃mA,h.Ns1 a mA/\∀f,RelO (fs.lookup f) (mA f)
 | .rng lo hi=>∃t u v,h.get? a=some { cls:=.type "range", data:=.fields #[.int lo t,.int hi u,.int 1 v] }
 | .frz o u=>h.get? a=some o/\xj H h a u
 | .tbl ps=>h.get? a=some { cls:=.none,data:=.fields ps }
 | .met f x=>h.get? a=some (PySem.W.methodObj (.ref f) (.ref x))
 | .ext φ=>φ h/\(∃o,h.get? a=some o)/\∀h1 h2:Heap,φ h1->(∀o,h1.get? a=some o->h2.get? a=some o)->φ h2
def HOk(H:Hp)(h:Heap):Prop:=∀a o,H a=some o->xj P w H h a o
end
section
variable{P:Program}{w:World}{H H':Hp}{h h':Heap}{a:Addr}{o:HO}
theorem xj.lt(x:xj P w H h a o):a < h.objs.size:=by
 cases o with
 | lst xs=>obtain⟨_,_,_,_,e⟩:=x;exact Heap.lt_size e
 | tup xs=>obtain⟨_,_,_,p⟩:=x;exact p.tup.lt
 | dK kvs=>obtain⟨_,_,_,_,o,_,_,e,_⟩:=x;exact Heap.lt_size e
 | dT kvs=>obtain⟨_,_,_,_,o,_,_,e,_⟩:=x;exact Heap.lt_size e
 | set S n=>obtain⟨o,_,_,_,e,_⟩:=x;exact Heap.lt_size e
 | ins C dx fs=>obtain⟨_,_,_,e,_⟩:=x;exact Heap.lt_size e
 | own y=>obtain⟨_,e⟩:=x;exact Heap.lt_size e
 | xd fs=>obtain⟨_,⟨_,_,_,e,_⟩,_⟩:=x;exact Heap.lt_size e
 | rng lo hi=>obtain⟨_,_,_,e⟩:=x;exact Heap.lt_size e
 | frz ob u=>obtain⟨e,_⟩:=x;exact Heap.lt_size e
 | tbl ps=>exact Heap.lt_size (show h.get? a=some _ from x)
 | met f y=>exact Heap.lt_size (show h.get? a=some _ from x)
 | ext φ=>obtain⟨_,⟨_,e⟩,_⟩:=x;exact Heap.lt_size e
theorem Paired.mapP{α β:Type}{F G:α->β->Prop}:∀{l₁:List α} {l₂:List β},Paired F l₁ l₂->(∀a b,F a b->G a b)->Paired G l₁ l₂
 | _,_,.nil,_=>.nil
 | _,_,.cons r t,f=>.cons (f _ _ r) (Paired.mapP t f)
theorem xj.stay(x:xj P w H h a o)(k:∀b u,(b=a∨H b=some (.own a))->h.get? b=some u->h'.get? b=some u)
  (ho:∀b,H b=some (.own a)->H' b=some (.own a)) (ht:∀b xs,H b=some (.tup xs)->H' b=some (.tup xs)):xj P w H' h' a o:=by
 induction o with
 | lst xs=>obtain⟨z,its,n,r,e⟩:=x;exact⟨z,its,n,r,k _ _ (.inl rfl) e⟩
 | tup xs=>obtain⟨z,its,r,ob,e,c⟩:=x;exact⟨z,its,r,ob,k _ _ (.inl rfl) e,c⟩
 | dK kvs=>obtain⟨z,y,vs,r,ob,es,ep,e,c⟩:=x;exact⟨z,y,vs,r,ob,es,ep,k _ _ (.inl rfl) e,c⟩
 | dT kvs =>
  obtain⟨z,y,xs,r,ob,es,ep,e,c⟩:=x;exact⟨z,y,xs,Paired.mapP r fun p q z=>⟨z.1,ht _ _ z.2.1,z.2.2⟩,ob,es,ep,k _ _ (.inl rfl) e,c⟩
 | set S n=>obtain⟨ob,es,ep,t,e,c⟩:=x;exact⟨ob,es,ep,t,k _ _ (.inl rfl) e,c⟩
 | ins C dx fs =>
  obtain⟨d,z,ne,e,mA,⟨od,es,ep,e2,c⟩,r⟩:=x;exact⟨ho _ d,z,ne,k _ _ (.inl rfl) e,mA,⟨od,es,ep,k _ _ (.inr d) e2,c⟩,r⟩
 | own y=>obtain⟨ob,e⟩:=x;exact⟨ob,k _ _ (.inl rfl) e⟩
 | xd fs=>obtain⟨mA,⟨od,es,ep,e,c⟩,r⟩:=x;exact⟨mA,⟨od,es,ep,k _ _ (.inl rfl) e,c⟩,r⟩
 | rng lo hi=>obtain⟨t,u,v,e⟩:=x;exact⟨t,u,v,k _ _ (.inl rfl) e⟩
 | frz ob u ih=>obtain⟨e,q⟩:=x;exact⟨k _ _ (.inl rfl) e,ih q⟩
 | tbl ps =>
  have e:h.get? a=some { cls:=.none,data:=.fields ps }:=x;show h'.get? a=some { cls:=.none,data:=.fields ps };exact k a _ (.inl rfl) e
 | met f y =>
  have e:h.get? a=some (PySem.W.methodObj (.ref f) (.ref y)):=x;show h'.get? a=some (PySem.W.methodObj (.ref f) (.ref y));exact k a _ (.inl rfl) e
 | ext φ=>obtain⟨p,⟨o,e⟩,st⟩:=x;exact⟨st _ _ p fun o q=>k _ _ (.inl rfl) q,⟨o,k _ _ (.inl rfl) e⟩,st⟩
theorem HOk.lt(x:HOk P w H h)(e:H a=some o):a < h.objs.size:=(x a o e).lt
theorem HOk.fresh(x:HOk P w H h)(e:h.objs.size<=a):H a=none:=by
 cases q:H a with
 | none=>rfl
 | some u=>exact absurd (Nat.lt_of_lt_of_le (x.lt q) e) (Nat.lt_irrefl _)
theorem HOk.kept(x:HOk P w H h)(k:∀b u,h.get? b=some u->h'.get? b=some u):HOk P w H h':=fun a o e =>
 (x a o e).stay (fun b u _ q=>k b u q) (fun _ q=>q) fun _ _ q=>q
theorem HOk.laid(x:HOk P w H h)(k:∀b u,h.get? b=some u->h'.get? b=some u)(hp:h.objs.size<=a)(new:xj P w (upd H a o) h' a o):HOk P w (upd H a o) h':=fun b u e=>by
 have hn:=x.fresh hp
 by_cases hb:b=a
 ·subst hb;rw[ir] at e;cases e;exact new
 ·rw[cu hb] at e;exact(x b u e).stay (fun c v _ q=>k c v q) (fun c q=>by rw[cu (gr q hn)];exact q) fun c xs q=>by rw[cu (gr q hn)];exact q
end
def Rd(H:Hp)(a:Addr)(u:HO):Prop:=H a=some u∨∃o,H a=some (.frz o u)
theorem Rd.of{H:Hp}{a:Addr}{u:HO}(h:H a=some u):Rd H a u:=.inl h
theorem Rd.ok{P:Program}{w:World}{H:Hp}{h:Heap}{a:Addr}{u:HO}(r:Rd H a u)(x:HOk P w H h):xj P w H h a u:=by
 rcases r with r | ⟨o,r⟩
 ·exact x a u r
 ·obtain⟨_,q⟩:=x a _ r;exact q
def Mut:Option HO->Prop
 | some (.lst _)=>True
 | some (.dK _)=>True
 | some (.dT _)=>True
 | some (.set _ _)=>True
 | some (.ins _ _ _)=>True
 | some (.ext _)=>True
 | _=>False
section
variable{P:Program}{w:World}{H:Hp}{h h':Heap}{x e:Addr}{o':HO}
theorem HOk.write(ok:HOk P w H h)(mu:Mut (H x))(he:e=x∨H e=some (.own x))(k:∀b u,b≠e->h.get? b=some u->h'.get? b=some u)(heo:∃u,h'.get? e=some u)
  (new:xj P w (upd H x o') h' x o'):HOk P w (upd H x o') h':=fun b u q=>by
 have nown:∀c y,H c=some (.own y)->c≠x:=fun c y r z=>by subst z;rw[r] at mu;exact mu
 have ntup:∀c xs,H c=some (.tup xs)->c≠x:=fun c xs r z=>by subst z;rw[r] at mu;exact mu
 by_cases hb:b=x
 ·subst hb;rw[ir] at q;cases q;exact new
 ·rw[cu hb] at q
  by_cases hbe:b=e
  ·have q':H b=some (.own x):=by
    rcases he with z | z
    ·exact absurd (hbe.trans z) hb
    ·rw[hbe];exact z
   rw[q] at q';cases q';obtain⟨v,hv⟩:=heo;exact⟨v,by rw[hbe];exact hv⟩
  ·refine(ok b u q).stay (fun c v hc r=>k c v ?_ r) (fun c r=>by rw[cu (nown c b r)];exact r) fun c xs r=>by rw[cu (ntup c xs r)];exact r
   rcases hc with rfl | hc
   ·exact hbe
   ·rintro rfl
    rcases he with z | z
    ·exact nown c b hc z
    ·rw[hc] at z;cases z;exact hb rfl
end
structure Un (fs ex:List Addr) (H H':Hp) (h h':Heap):Prop where
 keep:∀b o,h.get? b=some o->H b=none->b∉fs->b∉ex->h'.get? b=some o
 slot:∀b o,h.get? b=some o->H b=none->b∈fs->b∉ex->∃sl,h'.get? b=some { o with slots:=sl }
 free:∀b o,h.get? b=some o->H b=none->b∉ex->H' b=none
 there:∀b o,h.get? b=some o->b∉ex->∃o',h'.get? b=some o'
 tups:∀b xs,H b=some (.tup xs)->H' b=some (.tup xs)
 frzs:∀b o u,H b=some (.frz o u)->H' b=some (.frz o u)
 tbls:∀b ps,H b=some (.tbl ps)->∃more,H' b=some (.tbl (ps++more))
section
variable{fs fs' ex ex':List Addr}{H H1 H2:Hp}{h h1 h2 h':Heap}{a x e:Addr}{o:HO}
theorem Un.any(u:Un fs ex H H1 h h1){b:Addr}{ob:Obj}(q:h.get? b=some ob)(n:H b=none)(hx:b∉ex):∃sl,h1.get? b=some { ob with slots:=sl }:=by
 by_cases hb:b∈fs
 ·exact u.slot b ob q n hb hx
 ·exact⟨ob.slots,u.keep b ob q n hb hx⟩
theorem Un.trans(a:Un fs ex H H1 h h1)(b:Un fs ex H1 H2 h1 h2):Un fs ex H H2 h h2 where
 keep:=fun c ob q n hc hx=>b.keep c ob (a.keep c ob q n hc hx) (a.free c ob q n hx) hc hx
 slot:=fun c ob q n hc hx=>by
  obtain⟨sl,e1⟩:=a.slot c ob q n hc hx;obtain⟨sl',e2⟩:=b.slot c _ e1 (a.free c ob q n hx) hc hx;exact⟨sl',e2⟩
 free:=fun c ob q n hx=>by
  obtain⟨o',e1⟩:=a.there c ob q hx;exact b.free c o' e1 (a.free c ob q n hx) hx
 there:=fun c ob q hx=>by
  obtain⟨o',e1⟩:=a.there c ob q hx;exact b.there c o' e1 hx
 tups:=fun c xs q=>b.tups c xs (a.tups c xs q)
 frzs:=fun c ob xs q=>b.frzs c ob xs (a.frzs c ob xs q)
 tbls:=fun c ps q=>by
  obtain⟨m1,e1⟩:=a.tbls c ps q;obtain⟨m2,e2⟩:=b.tbls c _ e1;exact⟨m1++m2,by rw[e2,Array.append_assoc]⟩
theorem Un.kept(k:∀b u,h.get? b=some u->h'.get? b=some u):Un fs ex H H h h' :=
 ⟨fun b ob q _ _ _=>k b ob q,fun b ob q _ _ _=>⟨ob.slots,k b ob q⟩,fun _ _ _ n _=>n,fun b ob q _=>⟨ob,k b ob q⟩,fun _ _ q=>q,fun _ _ _ q=>q,fun _ ps q=>⟨#[],by rw[q];simp⟩⟩
theorem Un.refl:Un fs ex H H h h:=Un.kept fun _ _ q=>q
theorem Un.laid(k:∀b u,h.get? b=some u->h'.get? b=some u)(hp:h.objs.size<=a)(hn:H a=none):Un fs ex H (upd H a o) h h' where
 keep:=fun b u q _ _ _=>k b u q
 slot:=fun b u q _ _ _=>⟨u.slots,k b u q⟩
 free:=fun b u q n _=>by rw[cu (Nat.ne_of_lt (Nat.lt_of_lt_of_le (Heap.lt_size q) hp))];exact n
 there:=fun b u q _=>⟨u,k b u q⟩
 tups:=fun b xs q=>by rw[cu (gr q hn)];exact q
 frzs:=fun b u xs q=>by rw[cu (gr q hn)];exact q
 tbls:=fun b ps q=>⟨#[],by rw[cu (gr q hn),q];simp⟩
theorem Un.write(mu:Mut (H x))(he:e=x∨H e=some (.own x))(k:∀b u,b≠e->h.get? b=some u->h'.get? b=some u)(heo:∃u,h'.get? e=some u):Un fs ex H (upd H x o) h h':=by
 have hx:∀b,H b=none->b≠x:=fun b n z=>by subst z;rw[n] at mu;exact mu
 have hb:∀b,H b=none->b≠e:=fun b n z=>by
  subst z;rcases he with r | r
  ·exact hx b n r
  ·rw[n] at r;cases r
 have hm:∀b u,H b=some u->¬Mut (some u)->b≠x:=fun b u q nm z=>by subst z;rw[q] at mu;exact nm mu
 refine⟨fun b u q n _ _=>k b u (hb b n) q,fun b u q n _ _=>⟨u.slots,k b u (hb b n) q⟩,fun b u q n _=>by rw[cu (hx b n)];exact n,fun b u q _ =>?_,
  fun b xs q=>by rw[cu (hm b _ q fun z=>z)];exact q,fun b u xs q=>by rw[cu (hm b _ q fun z=>z)];exact q,fun b ps q=>⟨#[],by rw[cu (hm b _ q fun z=>z),q];simp⟩⟩
 by_cases hbe:b=e
 ·subst hbe;exact heo
 ·exact⟨u,k b u hbe q⟩
theorem Un.mono(u:Un fs ex H H1 h h1)(hs:∀b∈fs,b∈fs')(hx:∀b∈ex,b∈ex'):Un fs' ex' H H1 h h1 :=
 ⟨fun b ob q n hb he=>u.keep b ob q n (fun z=>hb (hs b z)) fun z=>he (hx b z),fun _ _ q n _ he=>u.any q n fun z=>he (hx _ z),fun b ob q n he=>u.free b ob q n fun z=>he (hx b z),fun b ob q he=>u.there b ob q fun z=>he (hx b z),u.tups,u.frzs,u.tbls⟩
end
def trk(h:Heap)(H:Hp):List Addr:=(List.range h.objs.size).filter fun a=>(H a).isSome
def hidT(h:Heap)(H:Hp):Heap:=PySem.W.hideAll h (trk h H)
theorem apf(h:Heap)(H:Hp):(hidT h H).objs.size=h.objs.size:=PySem.W.hideAll_size _ _
theorem asv{h:Heap}{H:Hp}{b:Addr}{o:Obj}(e:h.get? b=some o)(n:H b=none):(hidT h H).get? b=some o :=
 PySem.W.hideAll_get _ e fun hm=>by
  have q:(H b).isSome=true:=(List.mem_filter.mp hm).2;rw[n] at q;simp at q
theorem av0{h:Heap}{H:Hp}{b:Addr}{o:Obj}(e:(hidT h H).get? b=some o):h.get? b=some o/\H b=none:=by
 have e':h.get? b=some o:=PySem.W.of_hideAll (trk h H) e;refine⟨e',?_⟩;cases q:H b with
 | none=>rfl
 | some x =>
  have hm:b∈trk h H:=List.mem_filter.mpr ⟨List.mem_range.mpr (Heap.lt_size e'),by simp[q]⟩
  have z:(hidT h H).get? b=none:=PySem.W.hideAll_none (trk h H) hm;rw[z] at e;cases e
def axk(g h:Heap)(L:Addr):List (Addr×Obj):=(List.range h.objs.size).filterMap fun a=>if a=L∨(g.get? a).isSome=true then none else (h.get? a).map fun o=>(a,o)
def rest(g h:Heap)(L d:Addr):List (Addr×Obj):=(axk g h L).filter fun p=>decide (p.1≠d)
structure Mod (K:Fg9) (mg:Str->Option Value) (base:Heap):Prop where
 kin:K.In base
 glob:base.Ns mainGlobals mg
 blt:∃mb,base.Ns builtinsNs mb/\∀x:Str,x ≠ "__name__" -> mb x=bootBuiltins x
 nolimit:base.NoLimit
structure Cx where
 prog:Program
 w:World
 K:Fg9
 mg:Str->Option Value
 base:Heap
 A:Around
 N:List Str
 s₀:Shared
 H₀:Hp
 env:Env
 outer:List Env
 stack:List Env
 ex:List Addr
 fn:Str->Bool
 calm:Bool
 pn:List (Addr×Obj)
 xe:Value->Shared->Prop
def frs(l:List Env):List Addr:=l.filterMap (·.frame)
abbrev Cx.fs(X:Cx):List Addr:=frs X.outer
def Vis(sc:Scope)(x:Str):Prop:=sc.names.lookup x=some .local∨sc.names.lookup x=some .cell∨sc.names.lookup x=some .free
def Loc(sc:Scope)(x:Str):Prop:=sc.names.lookup x=some .local∨sc.names.lookup x=some .cell
def Look(env:Env)(h:Heap)(m:Str->Option Value)(x:Str)(u:Value):Prop :=
 (env.kindOf x=some .local/\m x=some u)∨((env.kindOf x=some .cell∨env.kindOf x=some .free)/\∃c,env.cells.lookup x=some c/\h.IsCell c (some u))
structure Cx.Ok (X:Cx):Prop where
 mod:Mod X.K X.mg X.base
 kind:X.env.scope.kind=.function
 glob:X.env.globals=mainGlobals
 blt:X.env.builtins=builtinsNs
 above:X.s₀.heap.objs.size<=X.env.locals
 inj:∀x y c,X.env.cells.lookup x=some c->X.env.cells.lookup y=some c->x=y
 has:∀x,(X.env.kindOf x=some .cell∨X.env.kindOf x=some .free)->∃c,X.env.cells.lookup x=some c
 cab:∀x c,X.fn x=true->X.env.cells.lookup x=some c->X.s₀.heap.objs.size<=c
 hd:X.calm=true->X.A.handled=none
 frames:X.A.frames=some X.stack
 stk:X.stack=X.outer∨(X.stack=X.env::X.outer/\X.env.frame=some X.env.locals)
 exf:∀b∈X.ex,b≠X.env.locals/\∀x c,X.env.cells.lookup x=some c->c≠b
 bs:∀b o,X.base.get? b=some o->X.s₀.heap.get? b=some o/\X.H₀ b=none
 bsz:X.base.objs.size<=X.s₀.heap.objs.size
 noex:∀b o,X.base.get? b=some o->b∉X.ex
 exfs:∀b∈X.ex,b∉X.fs
 funs:X.s₀.heap.FunFrames X.base X.outer
 frf:∀b∈X.fs,X.H₀ b=none
structure Inv (X:Cx) (zv:List (Addr×Obj)) (σ:List (Option V)) (H:Hp) (s:Shared):Prop where
 ok:X.Ok
 os:s.os=X.s₀.os
 bare:AllBare s.gens
 base:Un X.fs X.ex X.H₀ H X.s₀.heap s.heap
 loc:∃m,s.heap.Ns X.env.locals m/\∀(i:Nat) (x:Str) (v:V),X.N[i]? = some x->σ[i]? = some (some v)->Vis X.env.scope x->∃u,RelV v u/\Look X.env s.heap m x u
 cell:∀x c,X.env.cells.lookup x=some c->∃v,s.heap.IsCell c v
 free:H X.env.locals=none
 freeC:∀x c,X.env.cells.lookup x=some c->H c=none
 pin:∀p∈X.pn++zv,s.heap.get? p.1=some p.2/\H p.1=none/\p.1≠X.env.locals/\p.1∉X.fs/\∀v,p.2.data≠.cell v
 hok:HOk X.prog X.w H s.heap
 len:σ.length=X.N.length
section
variable{X:Cx}{zv:List (Addr×Obj)}{σ:List (Option V)}{H H':Hp}{s:Shared}{h':Heap}
theorem Cx.Ok.nofr(ok:X.Ok){b:Addr}{o:Obj}(e:X.base.get? b=some o):b∉X.fs:=fun hb=>by
 have:=(ok.funs.mem hb).1;rw[e] at this;cases this
theorem Inv.bs(I:Inv X zv σ H s):∀b o,X.base.get? b=some o->s.heap.get? b=some o/\H b=none:=fun b o e =>
 ⟨I.base.keep b o (I.ok.bs b o e).1 (I.ok.bs b o e).2 (I.ok.nofr e) (I.ok.noex b o e),I.base.free b o (I.ok.bs b o e).1 (I.ok.bs b o e).2 (I.ok.noex b o e)⟩
theorem Inv.bk(I:Inv X zv σ H s):∀b o,X.base.get? b=some o->s.heap.get? b=some o:=fun b o e=>(I.bs b o e).1
theorem Inv.mod(I:Inv X zv σ H s):Mod X.K X.mg X.base:=I.ok.mod
theorem Inv.kIn(I:Inv X zv σ H s):X.K.In s.heap:=I.ok.mod.kin.keeps I.bk
theorem Inv.nolimit(I:Inv X zv σ H s):s.heap.NoLimit:=I.ok.mod.nolimit.keeps I.bk
theorem Inv.fr(I:Inv X zv σ H s):∃m,Fr X.base X.env.locals s.heap m :=
 let ⟨m,hn,_⟩:=I.loc
 ⟨m,hn,I.bk,Nat.le_trans I.ok.bsz I.ok.above⟩
theorem Inv.lt(I:Inv X zv σ H s):X.env.locals < s.heap.objs.size:=let ⟨_,hn,_⟩:=I.loc;hn.lt
theorem Inv.sz(I:Inv X zv σ H s):X.s₀.heap.objs.size<=s.heap.objs.size:=Nat.le_trans I.ok.above (Nat.le_of_lt I.lt)
theorem Inv.nofs(I:Inv X zv σ H s){a:Addr}(h:s.heap.objs.size<=a):a∉X.fs:=fun hb=>by
 obtain⟨_,o,ho,_⟩:=I.ok.funs.mem hb;exact absurd (Nat.lt_of_lt_of_le (Heap.lt_size ho) (Nat.le_trans I.sz h)) (Nat.lt_irrefl _)
theorem Inv.cne(I:Inv X zv σ H s):∀x c,X.env.cells.lookup x=some c->c≠X.env.locals:=fun x c e z=>by
 obtain⟨v,o,ho,hd⟩:=I.cell x c e;obtain⟨m,⟨o',es,ep,ho',hd',_⟩,_⟩:=I.loc;rw[z,ho'] at ho;cases ho;rw[hd'] at hd;cases hd
theorem Inv.funs(I:Inv X zv σ H s):s.heap.FunFrames X.base X.outer:=by
 have all:∀(l:List Env),(∀b∈frs l,b∈X.fs)->X.s₀.heap.FunFrames X.base l->s.heap.FunFrames X.base l:=by
  intro l
  induction l with
  | nil=>intro _ _;trivial
  | cons env r ih =>
   intro hs hl;obtain⟨hk,⟨L,o,hf,hn,ho,hd⟩,hr⟩:=hl;have hL:L∈X.fs:=hs L (by unfold frs;rw[List.filterMap_cons,hf];exact List.mem_cons_self)
   obtain⟨sl,e⟩:=I.base.slot L o ho (I.ok.frf L hL) hL fun z=>I.ok.exfs L z hL
   exact⟨hk,⟨L,_,hf,hn,e,hd⟩,ih (fun b hb=>hs b (by unfold frs;rw[List.filterMap_cons,hf];exact List.mem_cons_of_mem _ hb)) hr⟩
 exact all X.outer (fun _ hb=>hb) I.ok.funs
theorem Inv.stack(I:Inv X zv σ H s):s.heap.FunFrames X.base X.stack:=by
 rcases I.ok.stk with e | ⟨e,hf⟩
 ·rw[e];exact I.funs
 ·rw[e];obtain⟨m,hn,_⟩:=I.loc;refine .cons (by rw[I.ok.kind];decide) hf hn ?_ I.funs
  exact Heap.get?_none_of_le (Nat.le_trans I.ok.bsz I.ok.above)
theorem Inv.stkSub(I:Inv X zv σ H s):∀b∈frs X.stack,b∈X.env.locals::X.fs:=fun b hb=>by
 rcases I.ok.stk with e | ⟨e,hf⟩
 ·rw[e] at hb;exact List.mem_cons_of_mem _ hb
 ·rw[e] at hb;unfold frs at hb;rw[List.filterMap_cons,hf] at hb;exact hb
theorem Inv.stkFree(I:Inv X zv σ H s):∀b∈frs X.stack,H b=none:=fun b hb=>by
 rcases List.mem_cons.mp (I.stkSub b hb) with e | hb
 ·rw[e];exact I.free
 ·obtain⟨_,o,ho,_⟩:=I.ok.funs.mem hb;exact I.base.free b o ho (I.ok.frf b hb) fun z=>I.ok.exfs b z hb
theorem Inv.step{g':Array GenState}{t':Nat}{d':Drawn}{ch:List Addr}(I:Inv X zv σ H s)
  (hch:∀b∈ch,(b∈X.ex∨X.s₀.heap.objs.size<=b)/\b≠X.env.locals/\(∀x c,X.env.cells.lookup x=some c->c≠b)/\∀p∈X.pn++zv,p.1≠b)
  (keep:∀b o,b≠X.env.locals->b∉X.fs->b∉ch->s.heap.get? b=some o->H b=none->h'.get? b=some o)
  (slot:∀b o,b≠X.env.locals->b∈X.fs->b∉ch->s.heap.get? b=some o->H b=none->∃sl,h'.get? b=some { o with slots:=sl }) (free:∀b o,b∉ch->s.heap.get? b=some o->H b=none->H' b=none)
  (there:∀b o,b∉ch->s.heap.get? b=some o->∃o',h'.get? b=some o')
  (tups:∀b xs,H b=some (.tup xs)->H' b=some (.tup xs)) (frzs:∀b o u,H b=some (.frz o u)->H' b=some (.frz o u)) (tbls:∀b ps,H b=some (.tbl ps)->∃more,H' b=some (.tbl (ps++more)))
  (ns:∀m,s.heap.Ns X.env.locals m->h'.Ns X.env.locals m) (hok:HOk X.prog X.w H' h') (hg:AllBare g') :
  Inv X zv σ H' { s with heap:=h',gens:=g',drawn:=d',toks:=t' }:=by
 have neL:∀b o,X.s₀.heap.get? b=some o->b≠X.env.locals:=fun b o e=>Nat.ne_of_lt (Nat.lt_of_lt_of_le (Heap.lt_size e) I.ok.above)
 have neC:∀b o,X.s₀.heap.get? b=some o->b∉X.ex->b∉ch:=fun b o e hx hb=>by
  rcases(hch b hb).1 with z | z
  ·exact hx z
  ·exact absurd (Nat.lt_of_lt_of_le (Heap.lt_size e) z) (Nat.lt_irrefl _)
 have cellK:∀x c,X.env.cells.lookup x=some c->∀v,s.heap.IsCell c v->h'.IsCell c v:=fun x c e v hq0=>by
  obtain⟨o,ho,hd⟩:=hq0;have nch:c∉ch:=fun z=>(hch c z).2.2.1 x c e rfl
  by_cases hc:c∈X.fs
  ·obtain⟨sl,q⟩:=slot c o (I.cne x c e) hc nch ho (I.freeC x c e);exact⟨_,q,hd⟩
  ·exact⟨o,keep c o (I.cne x c e) hc nch ho (I.freeC x c e),hd⟩
 refine⟨I.ok,I.os,hg,⟨fun b o e n hb hx =>?_,fun b o e n hb hx =>?_,fun b o e n hx =>?_,fun b o e hx =>?_,fun b xs e=>tups b xs (I.base.tups b xs e),fun b o xs e=>frzs b o xs (I.base.frzs b o xs e),fun b ps e =>?_⟩,?_,fun x c e =>?_,?_,fun x c e =>?_,fun p hp =>?_,hok,I.len⟩
 ·exact keep b o (neL b o e) hb (neC b o e hx) (I.base.keep b o e n hb hx) (I.base.free b o e n hx)
 ·obtain⟨sl,e1⟩:=I.base.slot b o e n hb hx;obtain⟨sl',e2⟩:=slot b _ (neL b o e) hb (neC b o e hx) e1 (I.base.free b o e n hx);exact⟨sl',e2⟩
 ·obtain⟨o',e1⟩:=I.base.there b o e hx;exact free b o' (neC b o e hx) e1 (I.base.free b o e n hx)
 ·obtain⟨o',e1⟩:=I.base.there b o e hx;exact there b o' (neC b o e hx) e1
 ·obtain⟨m1,e1⟩:=I.base.tbls b ps e;obtain⟨m2,e2⟩:=tbls b _ e1;exact⟨m1++m2,by rw[e2,Array.append_assoc]⟩
 ·obtain⟨m,hn,hl⟩:=I.loc;refine⟨m,ns m hn,fun i x v e1 e2 e3 =>?_⟩
  obtain⟨u,r,l⟩:=hl i x v e1 e2 e3;refine⟨u,r,?_⟩;rcases l with l | ⟨k,c,e,z⟩
  ·exact .inl l
  ·exact .inr ⟨k,c,e,cellK x c e _ z⟩
 ·obtain⟨v,z⟩:=I.cell x c e;exact⟨v,cellK x c e v z⟩
 ·obtain⟨m,⟨o,_,_,ho,_⟩,_⟩:=I.loc;exact free _ o (fun z=>(hch _ z).2.1 rfl) ho I.free
 ·obtain⟨v,o,ho,hd⟩:=I.cell x c e;exact free c o (fun z=>(hch c z).2.2.1 x c e rfl) ho (I.freeC x c e)
 ·obtain⟨e,n,ne,nf,d⟩:=I.pin p hp;have nch:p.1∉ch:=fun z=>(hch p.1 z).2.2.2 p hp rfl
  exact⟨keep p.1 p.2 ne nf nch e n,free p.1 p.2 nch e n,ne,nf,d⟩
theorem Inv.un{t':Nat}(I:Inv X zv σ H s)(u:Un X.fs [] H H' s.heap h')(hok:HOk X.prog X.w H' h'):Inv X zv σ H' { s with heap:=h',toks:=t' }:=by
 obtain⟨m,⟨o,es,ep,ho,r⟩,_⟩:=id I.loc;obtain⟨sl,hL⟩:=u.any ho I.free (by simp)
 exact I.step (g':=s.gens) (d':=s.drawn) (ch:=[]) (fun _ z=>nomatch z) (fun b o _ hb _ e n=>u.keep b o e n hb (by simp)) (fun b o _ hb _ e n=>u.slot b o e n hb (by simp)) (fun b o _ e n=>u.free b o e n (by simp)) (fun b o _ e=>u.there b o e (by simp)) u.tups u.frzs u.tbls (fun m' hm=>by
  obtain⟨o',es',ep',ho',r'⟩:=hm;rw[ho] at ho';cases ho';exact⟨_,es',ep',hL,r'⟩) hok I.bare
theorem Inv.call{g':Array GenState}{t':Nat}{d':Drawn}{ch:List Addr}(I:Inv X zv σ H s)(u:Un (frs X.stack) ch H H' s.heap h')(hok:HOk X.prog X.w H' h')(hg:AllBare g')
  (hch:∀b∈ch,(b∈X.ex∨X.s₀.heap.objs.size<=b)/\b≠X.env.locals/\(∀x c,X.env.cells.lookup x=some c->c≠b)/\∀p∈X.pn++zv,p.1≠b) :
  Inv X zv σ H' { s with heap:=h',gens:=g',drawn:=d',toks:=t' }:=by
 obtain⟨m,⟨o,es,ep,ho,r⟩,_⟩:=id I.loc;obtain⟨sl,hL⟩:=u.any ho I.free fun z=>(hch _ z).2.1 rfl
 exact I.step (ch:=ch) hch (fun b o hL hb hc e n=>u.keep b o e n (fun z=>(List.mem_cons.mp (I.stkSub b z)).elim hL hb) hc) (fun b o _ _ hc e n=>u.any e n hc) (fun b o hc e n=>u.free b o e n hc) (fun b o hc e=>u.there b o e hc) u.tups u.frzs u.tbls (fun m' hm=>by
  obtain⟨o',es',ep',ho',r'⟩:=hm;rw[ho] at ho';cases ho';exact⟨_,es',ep',hL,r'⟩) hok hg
theorem Inv.turned{t':Nat}{it:Addr}(I:Inv X zv σ H s)(k:∀b o,b≠it->s.heap.get? b=some o->h'.get? b=some o)(hn:H it=none)(hL:it≠X.env.locals)
  (h1:it∈X.ex∨X.s₀.heap.objs.size<=it) (h2:∀x c,X.env.cells.lookup x=some c->c≠it) (h3:∀p∈X.pn++zv,p.1≠it):Inv X zv σ H { s with heap:=h',toks:=t' }:=by
 have nit:∀b u,H b=some u->b≠it:=fun b u e z=>by rw[z,hn] at e;cases e
 refine I.step (g':=s.gens) (d':=s.drawn) (ch:=[it]) (fun b hb =>?_) (fun b o _ _ hc e _=>k b o (fun z=>hc (by simp[z])) e) (fun b o _ _ hc e _=>⟨o.slots,k b o (fun z=>hc (by simp[z])) e⟩) (fun _ _ _ _ n=>n)
  (fun b o hc e=>⟨o,k b o (fun z=>hc (by simp[z])) e⟩) (fun _ _ e=>e) (fun _ _ _ e=>e) (fun b ps e=>⟨#[],by rw[e];simp⟩) (fun m hm =>?_) (fun b u e =>?_) I.bare
 ·have e:b=it:=by simpa using hb
  subst e;exact⟨h1,hL,h2,h3⟩
 ·obtain⟨o,es,ep,ho,r⟩:=hm;exact⟨o,es,ep,k _ o (Ne.symm hL) ho,r⟩
 ·refine(I.hok b u e).stay (fun c v hc q=>k c v ?_ q) (fun _ q=>q) fun _ _ q=>q
  rcases hc with z | z
  ·rw[z];exact nit b u e
  ·exact nit c _ z
theorem Inv.tok(I:Inv X zv σ H s)(t:Nat):Inv X zv σ H { s with toks:=t }:=I.un (h':=s.heap) (t':=t) Un.refl I.hok
theorem Inv.kept{t':Nat}(I:Inv X zv σ H s)(k:∀b u,s.heap.get? b=some u->h'.get? b=some u):Inv X zv σ H { s with heap:=h',toks:=t' }:=I.un (Un.kept k) (I.hok.kept k)
theorem Inv.laid{a:Addr}{o:HO}{t':Nat}(I:Inv X zv σ H s)(k:∀b u,s.heap.get? b=some u->h'.get? b=some u)(hp:s.heap.objs.size<=a)(new:xj X.prog X.w (upd H a o) h' a o) :
  Inv X zv σ (upd H a o) { s with heap:=h',toks:=t' }:=I.un (Un.laid k hp (I.hok.fresh hp)) (I.hok.laid k hp new)
theorem Inv.write{x e:Addr}{o:HO}{t':Nat}(I:Inv X zv σ H s)(mu:Mut (H x))(he:e=x∨H e=some (.own x))(k:∀b u,b≠e->s.heap.get? b=some u->h'.get? b=some u)(heo:∃u,h'.get? e=some u)
  (new:xj X.prog X.w (upd H x o) h' x o):Inv X zv σ (upd H x o) { s with heap:=h',toks:=t' }:=I.un (Un.write mu he k heo) (I.hok.write mu he k heo new)
theorem Inv.pins_of{pins':List (Addr×Obj)}(I:Inv X zv σ H s)(h:∀p∈pins',s.heap.get? p.1=some p.2/\H p.1=none/\p.1≠X.env.locals/\p.1∉X.fs/\∀v,p.2.data≠.cell v):Inv X pins' σ H s :=
 ⟨I.ok,I.os,I.bare,I.base,I.loc,I.cell,I.free,I.freeC,fun p hp=>(List.mem_append.mp hp).elim (fun z=>I.pin p (List.mem_append_left _ z)) (h p),I.hok,I.len⟩
theorem ald{N:List Str}(hN:N.Nodup){i j:Nat}{x:Str}(a:N[i]? = some x)(b:N[j]? = some x):i=j:=by
 obtain⟨h1,e1⟩:=List.getElem?_eq_some_iff.mp a;obtain⟨h2,e2⟩:=List.getElem?_eq_some_iff.mp b;exact(List.getElem_inj hN).mp (e1.trans e2.symm)
theorem anx{M:Model}{A:Around}{E:Value->Shared->Prop}{i:Nat}{x:Str}{v:V}{u:Value}{Q:Unit->Shared->Prop}(I:Inv X zv σ H s)(hN:X.N.Nodup)(hi:X.N[i]? = some x)(hx:Loc X.env.scope x)(r:RelV v u)
  (h:∀s',Inv X zv (σ.set i (some v)) H s'->(∃a,Heap.SameBut a s.heap s'.heap/\(a=X.env.locals∨X.env.cells.lookup x=some a))->Q () s') (hf:X.fn x=true∨X.env.scope.names.lookup x=some .local:=by first | exact .inl rfl | exact .inr rfl | assumption):wpAny M A (storeName X.env x u) Q E s:=by
 obtain⟨m,hn,hl⟩:=id I.loc;have hcls:(X.env.scope.kind==.class||(X.env.scope.kind==.module&&X.env.locals != X.env.globals))=false:=by rw[I.ok.kind];rfl
 have hiσ:i < σ.length:=by rw[I.len];exact(List.getElem?_eq_some_iff.mp hi).1
 have cne:=I.cne;have tracked:∀{a:Addr} {h':Heap},(∃o,s.heap.get? a=some o/\H a=none)->Heap.SameBut a s.heap h'->HOk X.prog X.w H h':=fun{a h'} ha hs b ob e=>by
  obtain⟨_,_,hfree⟩:=ha;refine(I.hok b ob e).stay (fun c w' hc q=>(hs.2 c ?_).trans q) (fun _ q=>q) fun _ _ q=>q
  rintro rfl
  rcases hc with rfl | hc
  ·rw[hfree] at e;cases e
  ·rw[hfree] at hc;cases hc
 rcases hx with hk | hk
 ·refine wpAny_storeName_local hk hn (fun h' hn' hs =>?_) hcls
  obtain⟨oL,_,_,hoL,_⟩:=id hn;refine h _ ⟨I.ok,I.os,I.bare,⟨fun b o e n hb hx =>?_,fun b o e n hb hx =>?_,I.base.free,fun b o e hx =>?_,I.base.tups,I.base.frzs,I.base.tbls⟩,⟨_,hn',fun j y v' e1 e2 e3 =>?_⟩,fun y c e =>?_,I.free,I.freeC,fun p hp =>?_,tracked ⟨oL,hoL,I.free⟩ hs,by simpa using I.len⟩ ⟨_,hs,.inl rfl⟩
  ·exact(hs.2 b (Nat.ne_of_lt (Nat.lt_of_lt_of_le (Heap.lt_size e) I.ok.above))).trans (I.base.keep b o e n hb hx)
  ·obtain⟨sl,e1⟩:=I.base.slot b o e n hb hx;exact⟨sl,(hs.2 b (Nat.ne_of_lt (Nat.lt_of_lt_of_le (Heap.lt_size e) I.ok.above))).trans e1⟩
  ·obtain⟨o',e1⟩:=I.base.there b o e hx;exact⟨o',(hs.2 b (Nat.ne_of_lt (Nat.lt_of_lt_of_le (Heap.lt_size e) I.ok.above))).trans e1⟩
  ·by_cases hj:j=i
   ·subst hj;rw[hi] at e1;cases e1;rw[List.getElem?_set_self hiσ] at e2;cases e2;exact⟨u,r,.inl ⟨hk,by simp⟩⟩
   ·rw[List.getElem?_set_ne (Ne.symm hj)] at e2;obtain⟨u',r',q⟩:=hl j y v' e1 e2 e3;refine⟨u',r',?_⟩;rcases q with⟨k,e⟩ | ⟨k,c,e,z⟩
    ·refine .inl ⟨k,?_⟩;have:y≠x:=fun e=>hj (ald hN e1 (e▸hi))
     simp[this,e]
    ·exact .inr ⟨k,c,e,z.sameBut hs (cne y c e)⟩
  ·obtain⟨w',z⟩:=I.cell y c e;exact⟨w',z.sameBut hs (cne y c e)⟩
  ·obtain⟨e,n,ne,nf,d⟩:=I.pin p hp;exact⟨(hs.2 p.1 ne).trans e,n,ne,nf,d⟩
 ·have hfn:X.fn x=true:=by
   rcases hf with z | z
   ·exact z
   ·rw[z] at hk;cases hk
  obtain⟨c,hc⟩:=I.ok.has x (.inl hk);obtain⟨w',z⟩:=I.cell x c hc;refine wpAny_storeName_cell I.ok.kind hk hc z (fun h' hc' hs =>?_)
  obtain⟨oc,hoc,hocd⟩:=id z;refine h { s with heap:=h' } ⟨I.ok,I.os,I.bare,⟨fun b o e n hb hx =>?_,fun b o e n hb hx =>?_,I.base.free,fun b o e hx =>?_,I.base.tups,I.base.frzs,I.base.tbls⟩,⟨m,hn.sameBut hs (Ne.symm (cne x c hc)),fun j y v' e1 e2 e3 =>?_⟩,fun y c' e =>?_,I.free,I.freeC,fun p hp =>?_,tracked ⟨oc,hoc,I.freeC x c hc⟩ hs,by simpa using I.len⟩ ⟨c,hs,.inr hc⟩
  ·exact(hs.2 b (Nat.ne_of_lt (Nat.lt_of_lt_of_le (Heap.lt_size e) (I.ok.cab x c hfn hc)))).trans (I.base.keep b o e n hb hx)
  ·obtain⟨sl,e1⟩:=I.base.slot b o e n hb hx;exact⟨sl,(hs.2 b (Nat.ne_of_lt (Nat.lt_of_lt_of_le (Heap.lt_size e) (I.ok.cab x c hfn hc)))).trans e1⟩
  ·obtain⟨o',e1⟩:=I.base.there b o e hx;exact⟨o',(hs.2 b (Nat.ne_of_lt (Nat.lt_of_lt_of_le (Heap.lt_size e) (I.ok.cab x c hfn hc)))).trans e1⟩
  ·by_cases hj:j=i
   ·subst hj;rw[hi] at e1;cases e1;rw[List.getElem?_set_self hiσ] at e2;cases e2;exact⟨u,r,.inr ⟨.inl hk,c,hc,hc'⟩⟩
   ·rw[List.getElem?_set_ne (Ne.symm hj)] at e2;obtain⟨u',r',q⟩:=hl j y v' e1 e2 e3;refine⟨u',r',?_⟩;rcases q with q | ⟨k,c',e,z'⟩
    ·exact .inl q
    ·refine .inr ⟨k,c',e,z'.sameBut hs ?_⟩
     rintro rfl
     exact hj (ald hN e1 (I.ok.inj _ _ _ e hc▸hi))
  ·by_cases hcc:c'=c
   ·subst hcc;exact⟨_,hc'⟩
   ·obtain⟨w2,z2⟩:=I.cell y c' e;exact⟨w2,z2.sameBut hs hcc⟩
  ·obtain⟨e,n,ne,nf,d⟩:=I.pin p hp;refine⟨(hs.2 p.1 ?_).trans e,n,ne,nf,d⟩;intro q;rw[q,hoc] at e;have q':oc=p.2:=Option.some.inj e;exact d w' (by rw[<-q'];exact hocd)
theorem aec{M:Model}{A:Around}{E:Value->Shared->Prop}{i:Nat}{x:Str}{v:V}{u:Value}{Q:Unit->Shared->Prop}(I:Inv X zv σ H s)(hN:X.N.Nodup)(hi:X.N[i]? = some x)(hx:Loc X.env.scope x)(r:RelV v u)
  (h:∀s',Inv X zv (σ.set i (some v)) H s'->Q () s') (hf:X.fn x=true∨X.env.scope.names.lookup x=some .local:=by first | exact .inl rfl | exact .inr rfl | assumption):wpAny M A (storeName X.env x u) Q E s :=
 anx I hN hi hx r (fun s' I' _=>h s' I') hf
theorem Inv.call'{s':Shared}{ch:List Addr}(I:Inv X zv σ H s)(ho:s'.os=s.os)(u:Un (frs X.stack) ch H H' s.heap s'.heap)(hok:HOk X.prog X.w H' s'.heap)(hg:AllBare s'.gens)
  (hch:∀b∈ch,(b∈X.ex∨X.s₀.heap.objs.size<=b)/\b≠X.env.locals/\(∀x c,X.env.cells.lookup x=some c->c≠b)/\∀p∈X.pn++zv,p.1≠b):Inv X zv σ H' s':=by
 obtain⟨h',g',d',t',o'⟩:=s';have e:o'=s.os:=ho;subst e;exact I.call (g':=g') (t':=t') (d':=d') u hok hg hch
end
abbrev XK:=Value->Option Addr->Hp->Prop
abbrev St:=List (Option V)
abbrev VK:=V->Hp->Prop
abbrev TE:=St->Hp->VK->Prop
abbrev TT:=St->Hp->(Bool->Hp->Prop)->Prop
abbrev TA:=St->Hp->(List V->Hp->Prop)->Prop
structure Ends where
 nx:St->Hp->Prop
 rt:VK
 bk:St->Hp->Prop:=fun _ _=>False
 ct:St->Hp->Prop:=fun _ _=>False
abbrev TS:=Ends->St->Hp->Prop
def EP(X:Cx)(zv:List (Addr×Obj))(σ:St)(Q:VK)(u:Value)(s':Shared):Prop:=∃v H',Inv X zv σ H' s'/\RelV v u/\Q v H'
def TP(X:Cx)(zv:List (Addr×Obj))(σ:St)(Q:Bool->Hp->Prop)(b:Bool)(s':Shared):Prop:=∃H',Inv X zv σ H' s'/\Q b H'
def AP(X:Cx)(zv:List (Addr×Obj))(σ:St)(Q:List V->Hp->Prop)(us:List Value)(s':Shared):Prop:=∃vs H',Inv X zv σ H' s'/\Vals vs us/\Q vs H'
def SP(X:Cx)(zv:List (Addr×Obj))(D:Ends)(f:Flow)(s':Shared):Prop :=
 match f with
 | .next=>∃σ' H',Inv X zv σ' H' s'/\D.nx σ' H'
 | .brk=>∃σ' H',Inv X zv σ' H' s'/\D.bk σ' H'
 | .cont=>∃σ' H',Inv X zv σ' H' s'/\D.ct σ' H'
 | .ret u=>∃v σ' H',Inv X zv σ' H' s'/\RelV v u/\D.rt v H'
def PE(X:Cx)(e:Expr)(t:TE):Prop :=
 ∀(zv:List (Addr×Obj)) (s:Shared) (σ:St) (H:Hp) (Q:VK),Inv X zv σ H s->t σ H Q->wpAny (model X.prog X.w) X.A (eval e X.env) (EP X zv σ Q) X.xe s
def PT(X:Cx)(e:Expr)(t:TT):Prop :=
 ∀(zv:List (Addr×Obj)) (s:Shared) (σ:St) (H:Hp) (Q:Bool->Hp->Prop),Inv X zv σ H s->t σ H Q->wpAny (model X.prog X.w) X.A (isTrue e X.env (eval e X.env)) (TP X zv σ Q) X.xe s
def PW(X:Cx)(e:Expr)(t:TT):Prop :=
 ∀(whole:Sem Value) (zv:List (Addr×Obj)) (s:Shared) (σ:St) (H:Hp) (Q:Bool->Hp->Prop),Inv X zv σ H s->t σ H Q->wpAny (model X.prog X.w) X.A (isTrue e X.env whole) (TP X zv σ Q) X.xe s
theorem PW.pt{X:Cx}{e:Expr}{t:TT}(h:PW X e t):PT X e t:=h _
def PA(X:Cx)(es:List Expr)(t:TA):Prop :=
 ∀(pos:Pos) (zv:List (Addr×Obj)) (s:Shared) (σ:St) (H:Hp) (Q:List V->Hp->Prop),Inv X zv σ H s->t σ H Q->wpAny (model X.prog X.w) X.A (spliced (backTo pos (starEach es X.env))) (AP X zv σ Q) X.xe s
def PS(X:Cx)(st:Stmt)(t:TS):Prop :=
 ∀(zv:List (Addr×Obj)) (s:Shared) (σ:St) (H:Hp) (D:Ends),Inv X zv σ H s->t D σ H->wpAny (model X.prog X.w) X.A (exec st X.env) (SP X zv D) X.xe s
def PSs(X:Cx)(st:List Stmt)(t:TS):Prop :=
 ∀(zv:List (Addr×Obj)) (s:Shared) (σ:St) (H:Hp) (D:Ends),Inv X zv σ H s->t D σ H->wpAny (model X.prog X.w) X.A (execs st X.env) (SP X zv D) X.xe s
theorem thn{α:Type}{t:Sem α}{Q Q':α->Shared->Prop}{M:Model}{A:Around}{E:Value->Shared->Prop}{s:Shared}(h:wpAny M A t Q E s)(hQ:∀a s,Q a s->Q' a s):wpAny M A t Q' E s:=wpAny_mono h hQ fun _ _ x=>x
section
variable{X:Cx}
def tVar(i:Nat):TE:=fun σ H Q=>∃v,σ[i]? = some (some v)/\Q v H
def tC(v:V):TE:=fun _ H Q=>Q v H
theorem ayp{i:Nat}{x:Str}{pos:Pos}(hN:X.N[i]? = some x)(hv:Vis X.env.scope x)(hd:(x==("__debug__" : Str))=false:=by decide)(hcd:(x==("__classdict__" : Str))=false:=by decide):PE X (.Name x pos) (tVar i):=by
 intro zv s σ H Q I h;obtain⟨v,e,h⟩:=h;obtain⟨m,hn,hl⟩:=I.loc;obtain⟨u,r,l⟩:=hl i x v hN e hv;have fin:EP X zv σ Q u s:=⟨v,H,I,r,h⟩;rcases l with⟨hk,hm⟩ | ⟨hk,c,hc,hcell⟩
 ·exact wpAny_Name (wpAny_loadName_local I.ok.kind hk hn hm fin) hd
 ·rcases hk with hk | hk
  ·exact wpAny_Name (wpAny_loadName_cell I.ok.kind hk hc hcell fin) hd
  ·exact wpAny_Name (wpAny_loadName_free I.ok.kind hk hc hcell fin hcd) hd
theorem ayu{i j pos}:PE X (.Constant (.int i) j pos) (tC (.int i)):=fun _ _ _ H _ I h=>wpAny_Constant_int ⟨.int i,H,I.tok _,⟨_,rfl⟩,h⟩
theorem a3c{b j pos}:PE X (.Constant (.bool b) j pos) (tC (.bl b)):=fun _ _ _ H _ I h=>Constant_bool ⟨.bl b,H,I,rfl,h⟩
def Gl(X:Cx)(x:Str):Prop:=X.env.kindOf x=some .globalImplicit
theorem akd{E:Value->Shared->Prop}{zv:List (Addr×Obj)}{s:Shared}{σ:St}{H:Hp}{x:Str}{u:Value}{pos:Pos}{Q:Value->Shared->Prop}(I:Inv X zv σ H s)(hg:Gl X x)(hm:X.mg x=some u)(h:Q u s)
  (hd:(x==("__debug__" : Str))=false:=by decide):wpAny (model X.prog X.w) X.A (eval (.Name x pos) X.env) Q E s :=
 Calls.Name_function_global I.ok.kind hg (Calls.loadGlobal_global (by rw[I.ok.glob];exact I.mod.glob.keeps I.bk) hm h) hd
theorem ae2{E:Value->Shared->Prop}{zv:List (Addr×Obj)}{s:Shared}{σ:St}{H:Hp}{x:Str}{u:Value}{pos:Pos}{Q:Value->Shared->Prop}(I:Inv X zv σ H s)(hg:Gl X x)(hm:X.mg x=none)(hv:bootBuiltins x=some u)(h:Q u s)
  (hn:x ≠ "__name__" := by decide) (hd:(x==("__debug__" : Str))=false:=by decide):wpAny (model X.prog X.w) X.A (eval (.Name x pos) X.env) Q E s:=by
 obtain⟨mb,h1,h2⟩:=I.mod.blt;exact Calls.Name_function_global I.ok.kind hg (Calls.loadGlobal_builtin (by rw[I.ok.glob];exact I.mod.glob.keeps I.bk) hm (by rw[I.ok.blt];exact h1.keeps I.bk) ((h2 x hn).trans hv) h) hd
theorem avo{x:Str}{v:V}{u:Value}{pos:Pos}(hg:Gl X x)(hm:X.mg x=some u)(r:RelV v u)(hd:(x==("__debug__" : Str))=false:=by decide):PE X (.Name x pos) (tC v) :=
 fun _ _ _ H _ I h=>akd I hg hm ⟨v,H,I,r,h⟩ hd
theorem avs{x:Str}{v:V}{u:Value}{pos:Pos}(hg:Gl X x)(hm:X.mg x=none)(hv:bootBuiltins x=some u)(r:RelV v u)(hn:x ≠ "__name__" := by decide)(hd:(x==("__debug__" : Str))=false:=by decide):PE X (.Name x pos) (tC v) :=
 fun _ _ _ H _ I h=>ae2 I hg hm hv ⟨v,H,I,r,h⟩ hn hd
variable{a b:Expr}{ta tb:TE}{pos:Pos}
def tB(t:TE):TT:=fun σ H Q=>t σ H fun x H1=>∃c,x=.bl c/\Q c H1
theorem ayh{e:Expr}{t:TE}(h:PE X e t)(he:∀whole,isTrue e X.env whole=(do let v <-whole;standAt e.pos;holding [v] (truthy v)):=by intro _;rfl):PT X e (tB t):=by
 intro zv s σ H Q I hw;refine isTrue_plain (thn (h zv s σ H _ I hw) fun v s1 ⟨x,H1,I1,r1,q1⟩ =>?_) (he _)
 obtain⟨d,rfl,q⟩:=q1;cases r1;exact wpAny_truthy_bool ⟨H1,I1,q⟩
variable{tA tB':TT}{rest:List Expr}
def tAnd(t u:TT):TT:=fun σ H Q=>t σ H fun c H1=>if c=true then u σ H1 Q else Q false H1
def tNot(t:TT):TT:=fun σ H Q=>t σ H fun c H1=>Q (!c) H1
theorem au6(ha:PT X a tA):PW X (.BoolOp .And [a] pos) tA:=by
 intro wh zv s σ H Q I h;refine isTrue_and (thn (ha zv s σ H Q I h) fun c s1 e =>?_)
 cases c with
 | true=>exact isTrue_and_nil e
 | false=>exact e
theorem ayb(ha:PT X a tA)(hb:PW X (.BoolOp .And (b::rest) pos) tB'):PW X (.BoolOp .And (a::b::rest) pos) (tAnd tA tB'):=by
 intro wh zv s σ H Q I h;refine isTrue_and (thn (ha zv s σ H _ I h) fun c s1 ⟨H1,I1,q1⟩ =>?_)
 cases c with
 | true=>exact hb wh zv s1 σ H1 Q I1 q1
 | false=>exact⟨H1,I1,q1⟩
theorem ayi(ha:PT X a tA):PT X (.UnaryOp .Not a pos) (tNot tA):=by
 intro zv s σ H Q I h;exact isTrue_not (ha zv s σ H (fun c H1=>Q (!c) H1) I h)
def a2p(ta tb:TE):TE:=fun σ H Q=>ta σ H fun x H1=>∃c,x=.bl c/\if c=true then tb σ H1 Q else Q (.bl false) H1
def a2i(ta:TE):TE:=fun σ H Q=>ta σ H fun x H1=>∃c,x=.bl c/\Q (.bl (!c)) H1
theorem ayr{op}{t:TE}(h:PE X a t):PE X (.BoolOp op [a] pos) t:=fun zv s σ H Q I hw=>BoolOp_one (h zv s σ H Q I hw)
theorem ayy(ha:PE X a ta)(hb:PE X (.BoolOp .And (b::rest) pos) tb):PE X (.BoolOp .And (a::b::rest) pos) (a2p ta tb):=by
 intro zv s σ H Q I h;refine BoolOp_and (thn (ha zv s σ H _ I h) fun v s1 ⟨x,H1,I1,r1,q1⟩ =>?_)
 obtain⟨c,rfl,q1⟩:=q1;cases r1;refine wpAny_truthy_bool ?_;cases c with
 | true=>exact hb zv s1 σ H1 Q I1 q1
 | false=>exact⟨.bl false,H1,I1,rfl,q1⟩
theorem ays(ha:PE X a ta):PE X (.UnaryOp .Not a pos) (a2i ta):=by
 intro zv s σ H Q I h;refine UnaryOp_ (thn (ha zv s σ H _ I h) fun v s1 ⟨x,H1,I1,r1,q1⟩ =>?_)
 obtain⟨c,rfl,q1⟩:=q1;cases r1;exact not_of (wpAny_truthy_bool ⟨.bl (!c),H1,I1,rfl,q1⟩)
end
def SqL(K:Fg9)(H:Hp)(a:Addr)(xs:List V):Prop :=
 Rd H a (.lst xs) ∨
  ∃(o:Obj) (its:Array Value) (n:Nat),K.lookup a=some o/\o.cls=.type "list" /\ o.dict=none/\o.data=.seq its n/\its.size<=sizeLine/\Vals xs its.toList
def SqT(K:Fg9)(H:Hp)(a:Addr)(xs:List V):Prop :=
 Rd H a (.tup xs) ∨
  ∃(o:Obj) (its:Array Value) (n:Nat),K.lookup a=some o/\o.cls=.type "tuple" /\ o.data=.seq its n/\its.size<=sizeLine/\Vals xs its.toList
def absV:Value->Option V
 | .none=>some .non
 | .bool b=>some (.bl b)
 | .int i _=>some (.int i)
 | .str x _=>some (.str x)
 | .bytes b _=>some (.byt b)
 | .float b _=>some (.flt b)
 | .ref a=>some (.ref a)
 | .type n=>some (.ty n)
 | _=>none
theorem RelV.abs{x:V}{u:Value}(r:RelV x u):absV u=some x:=by
 cases x with
 | non=>cases r;rfl
 | bl _=>cases r;rfl
 | int _=>obtain⟨t,rfl⟩:=r;rfl
 | str _=>obtain⟨t,rfl⟩:=r;rfl
 | byt _=>obtain⟨t,rfl⟩:=r;rfl
 | flt _=>obtain⟨t,rfl⟩:=r;rfl
 | ref _=>cases r;rfl
 | ty _=>cases r;rfl
theorem RelV.inj{x y:V}{u:Value}(r:RelV x u)(q:RelV y u):x=y:=Option.some.inj (r.abs.symm.trans q.abs)
theorem Vals.inj:∀{xs ys:List V} {us:List Value},Vals xs us->Vals ys us->xs=ys
 | _,_,_,.nil,.nil=>rfl
 | _,_,_,.cons r t,.cons r' t'=>by rw[r.inj r',Vals.inj t t']
section
variable{X:Cx}{zv:List (Addr×Obj)}{σ:St}{H:Hp}{s:Shared}{a:Addr}{xs ys:List V}
theorem SqL.of{K:Fg9}(h:H a=some (.lst xs)):SqL K H a xs:=.inl (.inl h)
theorem SqT.of{K:Fg9}(h:H a=some (.tup xs)):SqT K H a xs:=.inl (.inl h)
theorem Inv.list(I:Inv X zv σ H s)(h:SqL X.K H a xs):∃its:List Value,Vals xs its/\PlainL s.heap a its.toArray/\xs.length<=sizeLine:=by
 rcases h with h | ⟨o,its,n,hk,hc,hd,hs,hz,r⟩
 ·obtain⟨z,its,n,r,e⟩:=h.ok I.hok;exact⟨its,r,⟨_,n,e,rfl,rfl,rfl⟩,z⟩
 ·refine⟨its.toList,r,⟨o,n,I.kIn a o hk,hc,hd,by simpa using hs⟩,?_⟩
  have e:=r.length;simp only[Array.length_toList] at e;omega
theorem Inv.tuple(I:Inv X zv σ H s)(h:SqT X.K H a xs):∃its:List Value,Vals xs its/\IsTup s.heap a its.toArray/\xs.length<=sizeLine:=by
 rcases h with h | ⟨o,its,n,hk,hc,hs,hz,r⟩
 ·obtain⟨z,its,r,p⟩:=h.ok I.hok;exact⟨its,r,p.tup,z⟩
 ·refine⟨its.toList,r,⟨o,I.kIn a o hk,hc,n,by simpa using hs⟩,?_⟩
  have e:=r.length;simp only[Array.length_toList] at e;omega
theorem Inv.list_inj(I:Inv X zv σ H s)(h:SqL X.K H a xs)(h':SqL X.K H a ys):xs=ys:=by
 obtain⟨its,r,⟨o,n,e,_,_,d⟩,_⟩:=I.list h;obtain⟨its',r',⟨o',n',e',_,_,d'⟩,_⟩:=I.list h';rw[e] at e';cases e';rw[d] at d'
 injection d' with d1 _
 have:its=its':=by simpa using congrArg Array.toList d1
 subst this;exact r.inj r'
theorem Inv.tuple_inj(I:Inv X zv σ H s)(h:SqT X.K H a xs)(h':SqT X.K H a ys):xs=ys:=by
 obtain⟨its,r,⟨o,e,_,n,d⟩,_⟩:=I.tuple h;obtain⟨its',r',⟨o',e',_,n',d'⟩,_⟩:=I.tuple h';rw[e] at e';cases e';rw[d] at d'
 injection d' with d1 _
 have:its=its':=by simpa using congrArg Array.toList d1
 subst this;exact r.inj r'
end
abbrev Cx.wish(X:Cx)(E:Value->Shared->Prop):Cx:={ X with xe:=E }
abbrev Cx.nox(X:Cx):Cx:=X.wish fun _ _=>False
theorem Cx.Ok.wish{X:Cx}(ok:X.Ok)(E:Value->Shared->Prop):(X.wish E).Ok :=
 ⟨ok.mod,ok.kind,ok.glob,ok.blt,ok.above,ok.inj,ok.has,ok.cab,ok.hd,ok.frames,ok.stk,ok.exf,ok.bs,ok.bsz,ok.noex,ok.exfs,ok.funs,ok.frf⟩
theorem Cx.Ok.unwish{X:Cx}{E:Value->Shared->Prop}(ok:(X.wish E).Ok):X.Ok :=
 ⟨ok.mod,ok.kind,ok.glob,ok.blt,ok.above,ok.inj,ok.has,ok.cab,ok.hd,ok.frames,ok.stk,ok.exf,ok.bs,ok.bsz,ok.noex,ok.exfs,ok.funs,ok.frf⟩
section
variable{X:Cx}{zv:List (Addr×Obj)}{σ:St}{H:Hp}{s:Shared}{E:Value->Shared->Prop}
theorem Inv.wish(I:Inv X zv σ H s)(E:Value->Shared->Prop):Inv (X.wish E) zv σ H s:=⟨I.ok.wish E,I.os,I.bare,I.base,I.loc,I.cell,I.free,I.freeC,I.pin,I.hok,I.len⟩
theorem Inv.unwish(I:Inv (X.wish E) zv σ H s):Inv X zv σ H s:=⟨I.ok.unwish,I.os,I.bare,I.base,I.loc,I.cell,I.free,I.freeC,I.pin,I.hok,I.len⟩
theorem SP.unwish{D:Ends}{f:Flow}{s':Shared}(h:SP (X.wish E) zv D f s'):SP X zv D f s':=by
 cases f with
 | next=>obtain⟨σ',H',I,q⟩:=h;exact⟨σ',H',I.unwish,q⟩
 | brk=>obtain⟨σ',H',I,q⟩:=h;exact⟨σ',H',I.unwish,q⟩
 | cont=>obtain⟨σ',H',I,q⟩:=h;exact⟨σ',H',I.unwish,q⟩
 | ret u=>obtain⟨v,σ',H',I,r,q⟩:=h;exact⟨v,σ',H',I.unwish,r,q⟩
theorem PE.nox{e:Expr}{t:TE}(h:PE X.nox e t):PE X e t:=fun zv s σ H Q I hw =>
 wpAny_mono (h zv s σ H Q (I.wish _) hw) (fun _ _ ⟨v,H',I',r,q⟩=>⟨v,H',I'.unwish,r,q⟩) fun _ _ z=>False.elim z
theorem PT.nox{e:Expr}{t:TT}(h:PT X.nox e t):PT X e t:=fun zv s σ H Q I hw =>
 wpAny_mono (h zv s σ H Q (I.wish _) hw) (fun _ _ ⟨H',I',q⟩=>⟨H',I'.unwish,q⟩) fun _ _ z=>False.elim z
theorem PSs.nox{st:List Stmt}{t:TS}(h:PSs X.nox st t):PSs X st t:=fun zv s σ H D I hw =>
 wpAny_mono (h zv s σ H D (I.wish _) hw) (fun _ _ q=>q.unwish) fun _ _ z=>False.elim z
end
section
variable{X:Cx}{st:Stmt}{rest:List Stmt}{t u:TS}{e:Expr}{te:TE}{pos:Pos}
def a2j:TS:=fun D σ H=>D.nx σ H
def tSeq(t u:TS):TS:=fun D σ H=>t { D with nx:=u D } σ H
theorem aok:PSs X [] a2j:=fun _ _ σ H _ I h=>wpAny_execs_nil ⟨σ,H,I,h⟩
theorem ag4(h1:PS X st t)(h2:PSs X rest u):PSs X (st::rest) (tSeq t u):=by
 intro zv s σ H D I h;refine wpAny_execs_cons (thn (h1 zv s σ H { D with nx:=u D } I h) fun f s1 q =>?_)
 cases f with
 | next =>
  obtain⟨σ',H',I',q⟩:=q;exact h2 zv s1 σ' H' D I' q
 | ret v=>exact q
 | brk=>exact q
 | cont=>exact q
theorem au9(h1:PS X st t):PSs X [st] t:=by
 intro zv s σ H D I h;refine wpAny_execs_cons (thn (h1 zv s σ H D I h) fun f s1 q =>?_)
 cases f with
 | next=>exact wpAny_execs_nil q
 | ret v=>exact q
 | brk=>exact q
 | cont=>exact q
theorem Inv.quiet{zv:List (Addr×Obj)}{σ:St}{H:Hp}{s:Shared}(I:Inv X zv σ H s):interactive X.env=false:=by simp[interactive,I.ok.kind]
def a2m(te:TE):TS:=fun D σ H=>te σ H fun _ H1=>D.nx σ H1
theorem ava(he:PE X e te)(hs:swapsWith e none pos.line X.env=pure false:=by rfl):PS X (.Expr e pos) (a2m te):=by
 intro zv s σ H D I h;exact wpAny_Expr_any (thn (he zv s σ H _ I h) fun v s1 ⟨x,H1,I1,r1,q1⟩=>⟨σ,H1,I1,q1⟩) I.quiet hs
def tRet(te:TE):TS:=fun D σ H=>te σ H D.rt
theorem ayj(he:PE X e te):PS X (.Return (some e) pos) (tRet te):=by
 intro zv s σ H D I h;exact wpAny_Return_some (thn (he zv s σ H _ I h) fun v s1 ⟨x,H1,I1,r1,q1⟩=>⟨x,σ,H1,I1,r1,q1⟩)
def tIfS(c:TT)(t u:TS):TS:=fun D σ H=>c σ H fun b H1=>if b=true then t D σ H1 else u D σ H1
theorem a2x{c:Expr}{a b:List Stmt}{tc:TT}(hc:PT X c tc)(ha:PSs X a t)(hb:PSs X b u):PS X (.If c a b pos) (tIfS tc t u):=by
 intro zv s σ H D I h;refine wpAny_If (thn (hc zv s σ H _ I h) fun d s1 ⟨H1,I1,q1⟩ =>?_)
 cases d with
 | true=>exact ha zv s1 σ H1 D I1 q1
 | false=>exact hb zv s1 σ H1 D I1 q1
def axz:TS:=fun _ _ _=>False
theorem ars:PS X st axz:=fun _ _ _ _ _ _ h=>h.elim
end
abbrev TG:=V->St->Hp->(St->Hp->Prop)->Prop
abbrev TGs:=List V->St->Hp->(St->Hp->Prop)->Prop
def PG(X:Cx)(target:Expr)(t:TG):Prop :=
 ∀(zv:List (Addr×Obj)) (s:Shared) (σ:St) (H:Hp) (v:V) (u:Value) (Q:St->Hp->Prop),Inv X zv σ H s->RelV v u->t v σ H Q ->
  wpAny (model X.prog X.w) X.A (assign target X.env u) (fun _ s'=>∃σ' H',Inv X zv σ' H' s'/\Q σ' H') X.xe s
def PGs(X:Cx)(ts:List Expr)(t:TGs):Prop :=
 ∀(zv:List (Addr×Obj)) (s:Shared) (σ:St) (H:Hp) (vs:List V) (us:List Value) (Q:St->Hp->Prop),Inv X zv σ H s->Vals vs us->t vs σ H Q ->
  wpAny (model X.prog X.w) X.A (assignInOrder ((assignEach ts X.env).map (·.2)) us) (fun _ s'=>∃σ' H',Inv X zv σ' H' s'/\Q σ' H') X.xe s
abbrev TSet:=V->V->V->Hp->(Hp->Prop)->Prop
def PSet(X:Cx)(t:TSet):Prop :=
 ∀(zv:List (Addr×Obj)) (s:Shared) (σ:St) (H:Hp) (o i v:V) (ov iv u:Value) (Q:Hp->Prop),Inv X zv σ H s->RelV o ov->RelV i iv->RelV v u->t o i v H Q ->
  wpAny (model X.prog X.w) X.A (setItem ov iv u) (fun _ s'=>∃H',Inv X zv σ H' s'/\Q H') X.xe s
abbrev TIp:=V->V->Hp->VK->Prop
def PIp(X:Cx)(op:Operator)(t:TIp):Prop :=
 ∀(zv:List (Addr×Obj)) (s:Shared) (σ:St) (H:Hp) (x y:V) (v u:Value) (Q:VK),Inv X zv σ H s->RelV x v->RelV y u->t x y H Q ->
  wpAny (model X.prog X.w) X.A (inplaceOp op v u) (EP X zv σ Q) X.xe s
section
variable{X:Cx}{pos:Pos}
def az7(i:Nat):TG:=fun v σ H Q=>Q (σ.set i (some v)) H
theorem avk{i:Nat}{x:Str}(hN:X.N.Nodup)(hi:X.N[i]? = some x)(hx:Loc X.env.scope x)(hf:X.fn x=true∨X.env.scope.names.lookup x=some .local:=by first | exact .inl rfl | exact .inr rfl | assumption):PG X (.Name x pos) (az7 i):=by
 intro zv s σ H v u Q I r h;exact wpAny_assign_Name (aec I hN hi hx r (fun s' I'=>⟨_,H,I',h⟩) hf)
def gNil:TGs:=fun vs σ H Q=>vs=[]/\Q σ H
def a4u(t:TG)(u:TGs):TGs:=fun vs σ H Q=>∃v r,vs=v::r/\t v σ H fun σ' H'=>u r σ' H' Q
theorem avj:PGs X [] gNil:=by
 intro zv s σ H vs us Q I r h;obtain⟨e,h⟩:=h;subst e;cases r;exact assignInOrder_nil ⟨σ,H,I,h⟩
theorem arx{e:Expr}{es:List Expr}{t:TG}{u:TGs}(h1:PG X e t)(h2:PGs X es u)
  (hs:(assignEach (e::es) X.env).map (·.2)=assign e X.env::(assignEach es X.env).map (·.2):=by rfl):PGs X (e::es) (a4u t u):=by
 intro zv s σ H vs us Q I r h;obtain⟨v,vr,e1,h⟩:=h;subst e1;cases r with
 | cons r rr =>
  rw[hs];refine assignInOrder_cons (thn (h1 zv s σ H _ _ _ I r h) fun _ s1 ⟨σ1,H1,I1,q1⟩ =>?_)
  exact h2 zv s1 σ1 H1 _ _ Q I1 rr q1
def gTup(K:Fg9)(n:Nat)(t:TGs):TG:=fun v σ H Q=>∃a xs,v=.ref a/\SqT K H a xs/\xs.length=n/\t xs σ H Q
theorem ayo{es:List Expr}{k:Nat}{t:TGs}{n:Nat}(hc:X.calm=true)(h:PGs X es t)
  (hn:(assignEach es X.env).length=n:=by rfl) (hst:(assignEach es X.env).findIdx? (·.1)=none:=by rfl):PG X (.Tuple es k pos) (gTup X.K n t):=by
 intro zv s σ H v u Q I r hw;obtain⟨a,xs,e1,hq,hl,hw⟩:=hw;subst e1;cases r;obtain⟨its,rv,ht,hz⟩:=I.tuple hq;refine assign_Tuple_tuple (I.ok.hd hc) ht (by simp[hn,<-hl,rv.length]) hst fun h' hx =>?_
 have I1:Inv X zv σ H { s with heap:=h' }:=I.kept (t':=s.toks) fun b o e=>hx b o (Nat.ne_of_lt (Heap.lt_size e)) e
 exact h zv _ σ H xs _ Q I1 (by simpa using rv) hw
def gSub(to ti:TE)(t:TSet):TG:=fun v σ H Q=>to σ H fun o H1=>ti σ H1 fun i H2=>t o i v H2 fun H3=>Q σ H3
theorem atv{o i:Expr}{to ti:TE}{t:TSet}(ho:PE X o to)(hi:PE X i ti)(hs:PSet X t)
  (ha:∀v,assign (.Subscript o i pos) X.env v=(do
   let ov <-holding [v] (eval o X.env)
   let iv <-holding [v,ov] (eval i X.env)
   standAt pos
   holding [v,ov,iv] (setItem ov iv v)
   release [v,ov,iv] []):=by intro _;rfl):PG X (.Subscript o i pos) (gSub to ti t):=by
 intro zv s σ H v u Q I r h;rw[ha];refine wpAny_bind (wpAny_holding (thn (ho zv s σ H _ I h) fun ov s1 ⟨x,H1,I1,r1,q1⟩ =>?_))
 refine wpAny_bind (wpAny_holding (thn (hi zv s1 σ H1 _ I1 q1) fun iv s2 ⟨y,H2,I2,r2,q2⟩ =>?_))
 refine wpAny_bind (wpAny_standAt (wpAny_bind (wpAny_holding (thn (hs zv s2 σ H2 x y v ov iv u _ I2 r1 r2 r q2) fun _ s3 ⟨H3,I3,q3⟩ =>?_))))
 exact wpAny_release ⟨σ,H3,I3,q3⟩
def tAsg(te:TE)(g:TG):TS:=fun D σ H=>te σ H fun x H1=>g x σ H1 D.nx
theorem aom{tg e:Expr}{te:TE}{g:TG}(he:PE X e te)(hg:PG X tg g)(hs:swapsWithSole [tg] e pos.line X.env=pure false:=by rfl)(hw:swappedStores [tg] e X.env=pure none:=by rfl)
  (h1:(assignEach [tg] X.env).map (·.2)=[assign tg X.env]:=by rfl):PS X (.Assign [tg] e pos) (tAsg te g):=by
 intro zv s σ H D I h;refine wpAny_Assign_stores (thn (he zv s σ H _ I h) fun v s1 ⟨x,H1,I1,r1,q1⟩ =>?_) hs hw
 rw[h1];exact thn (hg zv s1 σ H1 x v _ I1 r1 q1) fun _ s2 q=>q
theorem atu{i:Nat}{x:Str}{e:Expr}{te:TE}{pos':Pos}(hN:X.N.Nodup)(hi:X.N[i]? = some x)(hx:Loc X.env.scope x)(he:PE X e te)(hs:swapsWith e (some (.Name x pos')) pos.line X.env=pure false:=by rfl)(hf:X.fn x=true∨X.env.scope.names.lookup x=some .local:=by first | exact .inl rfl | exact .inr rfl | assumption) :
  PS X (.Assign [.Name x pos'] e pos) (tAsg te (az7 i)):=by
 intro zv s σ H D I h;refine wpAny_Assign_Name (thn (he zv s σ H _ I h) fun v s1 ⟨y,H1,I1,r1,q1⟩ =>?_) hs
 exact aec I1 hN hi hx r1 (fun s2 I2=>⟨_,H1,I2,q1⟩) hf
def tPar(i j:Nat)(ta:TA):TS:=fun D σ H=>ta σ H fun vs H1=>∃v w,vs=[v,w]/\D.nx ((σ.set i (some v)).set j (some w)) H1
theorem ayk{i j:Nat}{x y:Str}{a b:Expr}{ta:TA}{px py pt:Pos}{kt k2 pt2}(hc:X.calm=true)(hN:X.N.Nodup)(hi:X.N[i]? = some x)(hj:X.N[j]? = some y)(hij:i≠j)
  (hx:X.env.scope.names.lookup x=some .local) (hy:X.env.scope.names.lookup y=some .local) (ha:PA X [a,b] ta)
  (hw:swappedStores [.Tuple [.Name x px,.Name y py] kt pt] (.Tuple [a,b] k2 pt2) X.env=pure (some [x,y]))
  (hs:swapsWithSole [.Tuple [.Name x px,.Name y py] kt pt] (.Tuple [a,b] k2 pt2) pos.line X.env=pure false:=by rfl) :
  PS X (.Assign [.Tuple [.Name x px,.Name y py] kt pt] (.Tuple [a,b] k2 pt2) pos) (tPar i j ta):=by
 intro zv s σ H D I h;rw[exec_Assign_arm];refine wpAny_bind (wpAny_standAt ?_);rw[hs];refine wpAny_bind (wpAny_pure ?_);rw[if_neg (by decide)]
 refine wpAny_bind (Tuple_ (thn (ha _ zv s σ H _ I h) fun us s1 ⟨vs,H1,I1,r1,q1⟩ =>?_))
 obtain⟨v,w,e1,q1⟩:=q1;subst e1;obtain⟨u1,u2,rfl,rv,rw'⟩:∃u1 u2,us=[u1,u2]/\RelV v u1/\RelV w u2:=by
  cases r1 with
  | cons p q =>
   cases q with
   | cons p' q' =>
    cases q';exact⟨_,_,rfl,p,p'⟩
 refine wpAny_newObj_type ?_ (by show 2<=sizeLine;decide)
 have I2:Inv X zv σ H1 { s1 with heap:=s1.heap.push { cls:=.type "tuple", data:=.seq [u1,u2].toArray } }:=I1.kept (t':=s1.toks) fun b o e=>Heap.get?_push_of_some _ e
 rw[hw];refine wpAny_bind (wpAny_pure ?_);show wpAny (model X.prog X.w) X.A (do rule "assign.swapped-stores";let items <-unpackItems (.ref s1.heap.objs.size) 2 none;assignInOrder [fun v=>bindName X.env y v,fun v=>bindName X.env x v] items.reverse;pure Flow.next) _ _ _
 refine wpAny_bind (wpAny_rule (wpAny_bind (unpackItems_tuple (items := #[u1,u2]) (I.ok.hd hc) (IsTup.new s1.heap _) fun h' hx' =>?_)))
 have I3:=I2.kept (h':=h') (t':=s1.toks) fun b o e=>hx' b o (Nat.ne_of_lt (Heap.lt_size e)) e
 show wpAny _ _ (assignInOrder [fun v=>bindName X.env y v,fun v=>bindName X.env x v] [u2,u1] >>= fun _=>pure Flow.next) _ _ _
 refine wpAny_bind (assignInOrder_cons (wpAny_bindName (aec I3 hN hj (.inl hy) rw' (fun s2 I4 =>?_) (.inr hy))))
 refine assignInOrder_cons (wpAny_bindName (aec I4 hN hi (.inl hx) rv (fun s3 I5=>assignInOrder_nil (wpAny_pure ?_)) (.inr hx)))
 rw[List.set_comm _ _ (Ne.symm hij)] at I5;exact⟨_,H1,I5,q1⟩
def a2o(to ti te:TE)(tget:V->V->Hp->VK->Prop)(tip:TIp)(tset:TSet):TS:=fun D σ H=>to σ H fun o H1=>ti σ H1 fun i H2=>tget o i H2 fun x H3=>te σ H3 fun y H4=>tip x y H4 fun z H5=>tset o i z H5 fun H6=>D.nx σ H6
def PGet(X:Cx)(t:V->V->Hp->VK->Prop):Prop :=
 ∀(zv:List (Addr×Obj)) (s:Shared) (σ:St) (H:Hp) (o i:V) (ov iv:Value) (Q:VK),Inv X zv σ H s->RelV o ov->RelV i iv->t o i H Q ->
  wpAny (model X.prog X.w) X.A (getItem ov iv) (EP X zv σ Q) X.xe s
theorem aol{o i e:Expr}{to ti te:TE}{tget:V->V->Hp->VK->Prop}{tip:TIp}{tset:TSet}{op:Operator}{tpos:Pos}(ho:PE X o to)(hi:PE X i ti)(hg:PGet X tget)(he:PE X e te)(hp:PIp X op tip)(hs:PSet X tset)
  (ha:∀ov iv new,augStore i ov iv new=(do holding [new,ov,iv] (setItem ov iv new);release [new,ov,iv] [];pure .next):=by intros;rfl):PS X (.AugAssign (.Subscript o i tpos) op e pos) (a2o to ti te tget tip tset):=by
 intro zv s σ H D I h;refine wpAny_AugAssign_SubscriptAny (thn (ho zv s σ H _ I h) fun ov s1 ⟨x1,H1,I1,r1,q1⟩ =>?_) ha
 refine thn (hi zv s1 σ H1 _ I1 q1) fun iv s2 ⟨x2,H2,I2,r2,q2⟩ =>?_
 refine thn (hg zv s2 σ H2 x1 x2 ov iv _ I2 r1 r2 q2) fun old s3 ⟨x3,H3,I3,r3,q3⟩ =>?_
 refine thn (he zv s3 σ H3 _ I3 q3) fun v s4 ⟨x4,H4,I4,r4,q4⟩ =>?_
 refine thn (hp zv s4 σ H4 x3 x4 old v _ I4 r3 r4 q4) fun new s5 ⟨x5,H5,I5,r5,q5⟩ =>?_
 exact thn (hs zv s5 σ H5 x1 x2 x5 ov iv new _ I5 r1 r2 r5 q5) fun _ s6 ⟨H6,I6,q6⟩=>⟨σ,H6,I6,q6⟩
def ipI(f:Int->Int->Int):TIp:=fun x y H Q=>∃i j,x=.int i/\y=.int j/\Q (.int (f i j)) H
theorem alq:PIp X .Add (ipI fun i j=>i+j):=by
 intro zv s σ H x y v u Q I r1 r2 h;obtain⟨i,j,e1,e2,q⟩:=h;subst e1;subst e2;obtain⟨t,rfl⟩:=r1;obtain⟨t',rfl⟩:=r2;exact iadd_int ⟨.int _,H,I.tok _,⟨_,rfl⟩,q⟩
theorem az0:PIp X .Sub (ipI fun i j=>i - j):=by
 intro zv s σ H x y v u Q I r1 r2 h;obtain⟨i,j,e1,e2,q⟩:=h;subst e1;subst e2;obtain⟨t,rfl⟩:=r1;obtain⟨t',rfl⟩:=r2;exact isub_int ⟨.int _,H,I.tok _,⟨_,rfl⟩,q⟩
end
section
variable{X:Cx}{pos:Pos}
def axy(c:TT)(tb:TS):TS:=fun D σ H=>∃W:Nat->St->Hp->Prop,(∃m,W m σ H)/\∀m σ H,W m σ H ->
 c σ H fun b H1=>if b=true then ∃N:St->Hp->Prop,(∀σ' H',N σ' H'->∃m',m' < m/\W m' σ' H')/\tb { D with nx:=N,ct:=N,bk:=D.nx } σ H1 else D.nx σ H1
theorem arq{c:Expr}{body:List Stmt}{tc:TT}{tb:TS}(hp:PassesOwn (model X.prog X.w) X.A X.env X.xe)(hc:PT X c tc)(hb:PSs X body tb):PS X (.While c body [] pos) (axy tc tb):=by
 intro zv s σ H D I h;obtain⟨W,⟨m0,w0⟩,turn⟩:=h;refine wpAny_While (codeAny_whileLoop (fun n s'=>∃σ' H',Inv X zv σ' H' s'/\W n σ' H') ?_ m0 ⟨σ,H,I,w0⟩)
 rintro n s1 ⟨σ1,H1,I1,w1⟩
 refine wpAny_passesOwn hp (thn (hc zv s1 σ1 H1 _ I1 (turn n σ1 H1 w1)) fun b s2 ⟨H2,I2,q2⟩ =>?_)
 cases b with
 | true =>
  obtain⟨N,hN,q2⟩:=q2;rw[if_pos rfl];refine wpAny_passesOwn hp (thn (hb zv s2 σ1 H2 _ I2 q2) fun f s3 q3 =>?_)
  cases f with
  | next =>
   obtain⟨σ3,H3,I3,n3⟩:=q3;obtain⟨m',hm,w3⟩:=hN σ3 H3 n3;exact⟨m',hm,σ3,H3,I3,w3⟩
  | cont =>
   obtain⟨σ3,H3,I3,n3⟩:=q3;obtain⟨m',hm,w3⟩:=hN σ3 H3 n3;exact⟨m',hm,σ3,H3,I3,w3⟩
  | brk=>exact q3
  | ret v=>exact q3
 | false =>
  rw[if_neg Bool.false_ne_true];exact wpAny_execs_nil ⟨σ1,H2,I2,q2⟩
end
structure It where
 go:Nat->Hp->Prop
 yld:Nat->Hp->V->Hp->Prop
 stop:Nat->Hp->Prop
def FpOk(X:Cx)(zv:List (Addr×Obj))(H:Hp)(b:Addr):Prop :=
 H b=none/\b≠X.env.locals/\b∉X.fs/\(b∈X.ex∨X.s₀.heap.objs.size<=b)/\(∀x c,X.env.cells.lookup x=some c->c≠b)/\∀p∈X.pn++zv,p.1≠b
theorem Inv.fpOk{X:Cx}{zv:List (Addr×Obj)}{σ:St}{H H':Hp}{s:Shared}{b:Addr}(I:Inv X zv σ H s)(hb:s.heap.objs.size<=b)(hn:H' b=none):FpOk X zv H' b:=by
 refine⟨hn,Nat.ne_of_gt (Nat.lt_of_lt_of_le I.lt hb),I.nofs hb,.inr (Nat.le_trans I.sz hb),fun x c e z =>?_,fun p hp z =>?_⟩
 ·obtain⟨v,q⟩:=I.cell x c e;exact absurd (Nat.lt_of_lt_of_le q.lt (by rw[z];exact hb)) (Nat.lt_irrefl _)
 ·exact absurd (Nat.lt_of_lt_of_le (Heap.lt_size (I.pin p hp).1) (by rw[z];exact hb)) (Nat.lt_irrefl _)
structure Turn (P:Program) (w:World) (K:Fg9) (tg:Expr) (J:It) (fp:List Addr) (it:Addr) (tn:Nat->Heap->Prop):Prop where
 mem:it∈fp
 obj:∀i h,tn i h->∀b∈fp,∃o,h.get? b=some o/\∀v,o.data≠.cell v
 keep:∀i h h',tn i h->(∀b∈fp,∀o,h.get? b=some o->h'.get? b=some o)->tn i h'
 item:∀(X:Cx),X.prog=P->X.w=w->X.K=K->X.calm=true->∀(i:Nat) (zv:List (Addr×Obj)) (s:Shared) (σ:St) (H:Hp) (E:Value->Shared->Prop),Inv X zv σ H s->(∀b∈fp,FpOk X zv H b)->tn i s.heap->J.go i H ->
  wpAny (model P w) X.A (pyNext (.ref it)) (fun r s1=>∃u,r=some u /\
   wpAny (model P w) X.A (letOwnedTupleGo tg (.ref it) u) (fun _ s2=>∃x H',Inv X zv σ H' s2/\RelV x u/\J.yld i H x H'/\tn (i+1) s2.heap/\∀b∈fp,H' b=none) E s1) E s
 done:∀(X:Cx),X.prog=P->X.w=w->X.K=K->X.calm=true->∀(i:Nat) (zv:List (Addr×Obj)) (s:Shared) (σ:St) (H:Hp) (E:Value->Shared->Prop),Inv X zv σ H s->(∀b∈fp,FpOk X zv H b)->tn i s.heap->J.stop i H ->
  wpAny (model P w) X.A (pyNext (.ref it)) (fun r s1=>r=none/\Inv X zv σ H s1) E s
 self:∀(A:Around) (i:Nat) (s:Shared) (Q:Value->Shared->Prop) (E:Value->Shared->Prop),tn i s.heap->Q (.ref it) s->wpAny (model P w) A (pyIter (.ref it)) Q E s
abbrev TI:=St->Hp->(It->Hp->Prop)->Prop
def PIE(X:Cx)(zv:List (Addr×Obj))(σ:St)(tg:Expr)(R:It->Hp->Prop)(itv:Value)(s2:Shared):Prop :=
 ∃(it:Addr) (fp:List Addr) (tn:Nat->Heap->Prop) (J:It) (H':Hp),itv=.ref it/\Inv X zv σ H' s2/\Turn X.prog X.w X.K tg J fp it tn/\tn 0 s2.heap/\(∀b∈fp,FpOk X zv H' b)/\R J H'
def PI(X:Cx)(tg iter:Expr)(wi:TI):Prop :=
 ∀(zv:List (Addr×Obj)) (s:Shared) (σ:St) (H:Hp) (R:It->Hp->Prop),Inv X zv σ H s->wi σ H R ->
  wpAny (model X.prog X.w) X.A (eval iter X.env) (fun v s1=>wpAny (model X.prog X.w) X.A (pyIter v) (PIE X zv σ tg R) X.xe s1) X.xe s
theorem awf{M:Model}{A:Around}{E:Value->Shared->Prop}{s:Shared}{tg:Expr}{it:Addr}{u:Value}{o:Obj}{n:String}{vs:Array Value}{Q:Unit->Shared->Prop}(ho:s.heap.get? it=some o)(hc:o.cls=.type n)(hd:o.data=.fields vs)
  (hn:["enumerate","zip","dict_itemiterator","dict_reverseitemiterator","odict_iterator","itertools.zip_longest","itertools.pairwise"].contains n=false) (hQ:Q () s):wpAny M A (letOwnedTupleGo tg (.ref it) u) Q E s:=by
 unfold letOwnedTupleGo;cases tg <;> first
  | exact wpAny_pure hQ
  | (cases u <;> first
    | exact wpAny_pure hQ
    | (refine wpAny_bind (wpAny_load ho ?_)
       rw[hc,hd];show wpAny M A (if (["enumerate","zip","dict_itemiterator","dict_reverseitemiterator","odict_iterator","itertools.zip_longest","itertools.pairwise"].contains n&&vs[0]? == some (rawInt _))=true then _ else _) Q E s
       rw[if_neg (by intro h;rw[hn,Bool.false_and] at h;cases h)]
       exact wpAny_pure hQ))
def Itl(K:Fg9)(a:Addr):It :=
 ⟨fun i H=>∃xs x,SqL K H a xs/\xs[i]? = some x,fun i H x H'=>H'=H/\∀xs,SqL K H a xs->xs[i]? = some x,fun i H=>∃xs,SqL K H a xs/\xs.length<=i⟩
def Itt(K:Fg9)(a:Addr):It :=
 ⟨fun i H=>∃xs x,SqT K H a xs/\xs[i]? = some x,fun i H x H'=>H'=H/\∀xs,SqT K H a xs->xs[i]? = some x,fun i H=>∃xs,SqT K H a xs/\xs.length<=i⟩
def Itr(lo:Int)(n:Nat):It:=⟨fun i _=>i < n,fun i H x H'=>H'=H/\x=.int (lo+i),fun i _=>n<=i⟩
theorem anr{P:Program}{w:World}{K:Fg9}{tg:Expr}(a it:Addr):Turn P w K tg (Itl K a) [it] it (fun i h=>h.IsListIter it a i) where
 mem:=by simp
 obj:=fun i h st b hb=>by
  have e:b=it:=by simpa using hb
  subst e;obtain⟨o,e,c,d⟩:=st;exact⟨o,e,fun v z=>by rw[d] at z;cases z⟩
 keep:=fun i h h' st k=>st.at fun o e=>k it (by simp) o e
 item:=by
  intro X hP hw hK hc i zv s σ H E I hf st hg;subst hP hw hK;obtain⟨xs,x,hq,hx⟩:=hg;obtain⟨its,rv,p,hz⟩:=I.list hq;obtain⟨u,hu,ru⟩:=rv.get hx;obtain⟨f0,f1,f2,f3,f4,f5⟩:=hf it (by simp)
  refine wpAny_pyNext_list_item st p.isList (x:=u) (by simpa using hu) fun h' st' sb =>?_
  have I1:Inv X zv σ H { s with heap:=h' }:=I.turned (t':=s.toks) (fun b o hb e=>(sb.2 b hb).trans e) f0 f1 f3 f4 f5
  obtain⟨o,e,c,d⟩:=id st';exact⟨u,rfl,awf (s:={ s with heap:=h' }) e c d (by decide) ⟨x,H,I1,ru,⟨rfl,fun ys hy=>by rw[I.list_inj hy hq];exact hx⟩,st',fun b hb=>(hf b hb).1⟩⟩
 done:=by
  intro X hP hw hK hc i zv s σ H E I hf st hg;subst hP hw hK;obtain⟨xs,hq,hx⟩:=hg;obtain⟨its,rv,p,hz⟩:=I.list hq;obtain⟨f0,f1,f2,f3,f4,f5⟩:=hf it (by simp)
  have hl:=rv.length;exact wpAny_pyNext_list_end (I.ok.hd hc) st p.isList (by simp;omega) fun h' eb=>⟨rfl,I.turned (t':=s.toks) (fun b o hb e=>eb b o hb e) f0 f1 f3 f4 f5⟩
 self:=fun _ _ _ _ _ st h=>wpAny_pyIter_listiter st h
theorem amb{P:Program}{w:World}{K:Fg9}{tg:Expr}(a it:Addr):Turn P w K tg (Itt K a) [it] it (fun i h=>h.IsTupleIter it a i) where
 mem:=by simp
 obj:=fun i h st b hb=>by
  have e:b=it:=by simpa using hb
  subst e;obtain⟨o,e,c,d⟩:=st;exact⟨o,e,fun v z=>by rw[d] at z;cases z⟩
 keep:=fun i h h' st k=>st.at fun o e=>k it (by simp) o e
 item:=by
  intro X hP hw hK hc i zv s σ H E I hf st hg;subst hP hw hK;obtain⟨xs,x,hq,hx⟩:=hg;obtain⟨its,rv,p,hz⟩:=I.tuple hq;obtain⟨u,hu,ru⟩:=rv.get hx;obtain⟨f0,f1,f2,f3,f4,f5⟩:=hf it (by simp)
  refine wpAny_pyNext_tuple_item st (show s.heap.IsTuple a its.toArray from p) (x:=u) (by simpa using hu) fun h' st' sb =>?_
  have I1:Inv X zv σ H { s with heap:=h' }:=I.turned (t':=s.toks) (fun b o hb e=>(sb.2 b hb).trans e) f0 f1 f3 f4 f5
  obtain⟨o,e,c,d⟩:=id st';exact⟨u,rfl,awf (s:={ s with heap:=h' }) e c d (by decide) ⟨x,H,I1,ru,⟨rfl,fun ys hy=>by rw[I.tuple_inj hy hq];exact hx⟩,st',fun b hb=>(hf b hb).1⟩⟩
 done:=by
  intro X hP hw hK hc i zv s σ H E I hf st hg;subst hP hw hK;obtain⟨xs,hq,hx⟩:=hg;obtain⟨its,rv,p,hz⟩:=I.tuple hq;obtain⟨f0,f1,f2,f3,f4,f5⟩:=hf it (by simp)
  have hl:=rv.length;exact wpAny_pyNext_tuple_end (I.ok.hd hc) st (show s.heap.IsTuple a its.toArray from p) (by simp;omega) fun h' eb=>⟨rfl,I.turned (t':=s.toks) (fun b o hb e=>eb b o hb e) f0 f1 f3 f4 f5⟩
 self:=fun _ _ _ _ _ st h=>wpAny_pyIter_tupleiter st h
theorem amc{P:Program}{w:World}{K:Fg9}{tg:Expr}(it:Addr)(lo:Int)(n:Nat):Turn P w K tg (Itr lo n) [it] it (fun i h=>IsRangeIter h it (lo+(i:Nat)*1) ((n:Int) - (i:Nat)) 1) where
 mem:=by simp
 obj:=fun i h st b hb=>by
  have e:b=it:=by simpa using hb
  subst e;exact⟨_,st,fun v z=>by
   have z':Data.fields _=Data.cell v:=z;cases z'⟩
 keep:=fun i h h' st k=>k it (by simp) _ st
 item:=by
  intro X hP hw hK hc i zv s σ H E I hf st hg;subst hP hw hK;obtain⟨f0,f1,f2,f3,f4,f5⟩:=hf it (by simp)
  have W:=Walks.range (prog:=X.prog) (w:=X.w) (I.ok.hd hc) it lo 1 n;refine W.item i s _ _ hg st fun v h' tk hv st' kk =>?_
  obtain⟨t,rfl⟩:=hv;have I1:Inv X zv σ H { s with heap:=h',toks:=tk }:=I.turned (fun b o hb e=>kk b o (by simpa using hb) e) f0 f1 f3 f4 f5
  refine⟨_,rfl,awf (s:={ s with heap:=h',toks:=tk }) (n := "range_iterator") st' rfl rfl (by decide) ⟨.int (lo+i),H,I1,⟨t,?_⟩,⟨rfl,rfl⟩,st',fun b hb=>(hf b hb).1⟩⟩
  rw[Int.mul_one]
 done:=by
  intro X hP hw hK hc i zv s σ H E I hf st hg;subst hP hw hK;obtain⟨f0,f1,f2,f3,f4,f5⟩:=hf it (by simp)
  exact wpAny_pyNext_range_end (I.ok.hd hc) st (by have:n<=i:=hg;omega) fun h' eb=>⟨rfl,I.turned (t':=s.toks) (fun b o hb e=>eb b o hb e) f0 f1 f3 f4 f5⟩
 self:=fun _ _ _ _ _ st h=>wpAny_pyIter_rangeiter st h
section
variable{X:Cx}{tg:Expr}
def a4l(K:Fg9)(tl:TE):TI:=fun σ H R=>tl σ H fun x H1=>∃a,x=.ref a/\(∃xs,SqL K H1 a xs)/\R (Itl K a) H1
def iTup(K:Fg9)(tl:TE):TI:=fun σ H R=>tl σ H fun x H1=>∃a,x=.ref a/\(∃xs,SqT K H1 a xs)/\R (Itt K a) H1
theorem aor{l:Expr}{tl:TE}(hl:PE X l tl):PI X tg l (a4l X.K tl):=by
 intro zv s σ H R I h;refine thn (hl zv s σ H _ I h) fun v s1 ⟨x,H1,I1,r1,q1⟩ =>?_
 obtain⟨a,e,⟨xs,hq⟩,q⟩:=q1;subst e;cases r1;obtain⟨its,rv,p,hz⟩:=I1.list hq;refine wpAny_pyIter_list p.isList ?_;refine⟨s1.heap.objs.size,[s1.heap.objs.size],_,_,H1,rfl,I1.kept (t':=s1.toks) fun b o e=>Heap.get?_push_of_some _ e,anr a _,⟨_,Heap.get?_push_size _ rfl,rfl,rfl⟩,fun b hb =>?_,q⟩
 have e:b=s1.heap.objs.size:=by simpa using hb
 subst e;exact I1.fpOk (Nat.le_refl _) (I1.hok.fresh (Nat.le_refl _))
theorem ayn{l:Expr}{tl:TE}(hl:PE X l tl):PI X tg l (iTup X.K tl):=by
 intro zv s σ H R I h;refine thn (hl zv s σ H _ I h) fun v s1 ⟨x,H1,I1,r1,q1⟩ =>?_
 obtain⟨a,e,⟨xs,hq⟩,q⟩:=q1;subst e;cases r1;obtain⟨its,rv,p,hz⟩:=I1.tuple hq;refine wpAny_pyIter_tuple (show s1.heap.IsTuple a its.toArray from p) ?_
 refine⟨s1.heap.objs.size,[s1.heap.objs.size],_,_,H1,rfl,I1.kept (t':=s1.toks) fun b o e=>Heap.get?_push_of_some _ e,amb a _,⟨_,Heap.get?_push_size _ rfl,rfl,rfl⟩,fun b hb =>?_,q⟩
 have e:b=s1.heap.objs.size:=by simpa using hb
 subst e;exact I1.fpOk (Nat.le_refl _) (I1.hok.fresh (Nat.le_refl _))
theorem arp{zv:List (Addr×Obj)}{σ:St}{H:Hp}{s:Shared}{R:It->Hp->Prop}{E:Value->Shared->Prop}{lo hi:Int}{t u v:Tok}{tk:Nat}(I:Inv X zv σ H s)(h1 : -(2 ^ 62)<=lo)(h2:lo < 2 ^ 62)(h3 : -(2 ^ 62)<=hi)(h4:hi < 2 ^ 62)
  (q:R (Itr lo (hi - lo).toNat) H):wpAny (model X.prog X.w) X.A (pyIter (.ref s.heap.objs.size)) (PIE X zv σ tg R) E { s with heap:=s.heap.push { cls:=.type "range", data:=.fields #[.int lo t,.int hi u,.int 1 v] },toks:=tk }:=by
 refine wpAny_pyIter_range (IsRange.new ..) (small_one h1 h2 h3 h4) ?_;have I1:Inv X zv σ H { s with heap:=s.heap.push { cls:=.type "range", data:=.fields #[.int lo t,.int hi u,.int 1 v] },toks:=tk }:=I.kept fun b o e=>Heap.get?_push_of_some _ e
 refine⟨(s.heap.push { cls:=.type "range", data:=.fields #[.int lo t,.int hi u,.int 1 v] }).objs.size,[(s.heap.push { cls:=.type "range", data:=.fields #[.int lo t,.int hi u,.int 1 v] }).objs.size],_,_,H,rfl,
  I1.kept (t':=tk) fun b o e=>Heap.get?_push_of_some _ e,amc _ lo (hi - lo).toNat,?_,fun b hb =>?_,q⟩
 ·have e1:lo+((0:Nat):Int)*1=lo:=by simp
  have e2:(((hi - lo).toNat:Nat):Int) - ((0:Nat):Int)=Builtin.Range.rangeSize lo hi 1:=by rw[rangeSize_one];split <;> omega
  show IsRangeIter _ _ (lo+((0:Nat):Int)*1) ((((hi - lo).toNat:Nat):Int) - ((0:Nat):Int)) 1;rw[e1,e2];exact Heap.get?_push_size _ rfl
 ·have e:b=(s.heap.push { cls:=.type "range", data:=.fields #[.int lo t,.int hi u,.int 1 v] }).objs.size:=by simpa using hb
  subst e;exact I1.fpOk (Nat.le_refl _) (I1.hok.fresh (Nat.le_refl _))
def a4k(ta:TA):TI:=fun σ H R=>ta σ H fun vs H1=>∃j:Int,vs=[.int j] /\ -(2 ^ 62)<=j/\j < 2 ^ 62/\R (Itr 0 j.toNat) H1
theorem aoq{a:Expr}{ta:TA}{p pos:Pos}(hg:Gl X "range")(hm:X.mg "range" = none)(ha:PA X [a] ta)(hs:starEach [a] X.env=[(false,eval a X.env)]:=by rfl):PI X tg (.Call (.Name "range" p) [a] [] pos) (a4k ta):=by
 intro zv s σ H R I h;refine Call_ (ae2 I hg hm boot_range (PyProof.Rows.callWith_type1 (thn (ha pos zv s σ H _ I h) fun us s1 ⟨vs,H1,I1,r1,q1⟩ =>?_) hs rfl))
 obtain⟨j,e,q1,q2,q⟩:=q1;subst e;cases r1 with
 | cons r rr =>
  cases rr;obtain⟨t,rfl⟩:=r;exact call_range_1 (arp I1 (by omega) (by omega) q1 q2 (by simpa using q))
def tFor(wi:TI)(g:TG)(tb:TS):TS:=fun D σ H=>wi σ H fun J H1=>∃W:Nat->Nat->St->Hp->Prop,(∃m,W 0 m σ H1)/\∀i m σ H,W i m σ H ->
 (J.stop i H/\D.nx σ H)∨(J.go i H/\∃N:St->Hp->Prop,(∀σ' H',N σ' H'->∃m',m' < m/\W (i+1) m' σ' H')/\∀x H',J.yld i H x H'->g x σ H' fun σ2 H2=>tb { D with nx:=N,ct:=N,bk:=D.nx } σ2 H2)
def aie(fp:List Addr)(h:Heap):List (Addr×Obj):=fp.filterMap fun b=>(h.get? b).map fun o=>(b,o)
theorem abf{fp:List Addr}{h:Heap}{b:Addr}{o:Obj}(hb:b∈fp)(e:h.get? b=some o):(b,o)∈aie fp h:=List.mem_filterMap.mpr ⟨b,hb,by rw[e];rfl⟩
theorem aoy{fp:List Addr}{h:Heap}{p:Addr×Obj}(hp:p∈aie fp h):p.1∈fp/\h.get? p.1=some p.2:=by
 obtain⟨b,hb,e⟩:=List.mem_filterMap.mp hp;cases q:h.get? b with
 | none=>rw[q] at e;cases e
 | some o =>
  rw[q] at e;have e':(b,o)=p:=Option.some.inj e;subst e';exact⟨hb,q⟩
theorem Inv.pinned{zv:List (Addr×Obj)}{σ:St}{H:Hp}{s:Shared}{fp:List Addr}(I:Inv X zv σ H s)(hf:∀b∈fp,FpOk X zv H b)(ho:∀b∈fp,∃o,s.heap.get? b=some o/\∀v,o.data≠.cell v):Inv X (zv++aie fp s.heap) σ H s :=
 I.pins_of fun p hp=>(List.mem_append.mp hp).elim (fun z=>I.pin p (List.mem_append_right _ z)) fun z=>by
  obtain⟨hb,e⟩:=aoy z;obtain⟨f0,f1,f2,_⟩:=hf p.1 hb;obtain⟨o,e',d⟩:=ho p.1 hb;rw[e] at e';cases e';exact⟨e,f0,f1,f2,d⟩
theorem Inv.unpinned{zv pl:List (Addr×Obj)}{σ:St}{H:Hp}{s:Shared}(I:Inv X (zv++pl) σ H s):Inv X zv σ H s:=I.pins_of fun p hp=>I.pin p (List.mem_append_right _ (List.mem_append_left _ hp))
theorem ayl{iter:Expr}{body:List Stmt}{wi:TI}{g:TG}{tb:TS}{pos:Pos}(hp:PassesOwn (model X.prog X.w) X.A X.env X.xe)(hc:X.calm=true)(hi:PI X tg iter wi)(hg:PG X tg g)(hb:PSs X body tb)
  (hs:∀x,foldedSetIterable iter X.env x=pure x:=by intro _;rfl):PS X (.For tg iter body [] pos) (tFor wi g tb):=by
 intro zv s σ H D I h;refine wpAny_For (thn (hi zv s σ H _ I h) fun v s1 h1=>thn h1 fun itv s2 h2 =>?_) hs
 obtain⟨it,fp,tn,J,H2,e,I2,T,st2,f2,W,⟨m0,w0⟩,turn⟩:=h2;subst e;have stat:∀{H':Hp},(∀b∈fp,H' b=none)->∀b∈fp,FpOk X zv H' b:=fun hn b hb=>⟨hn b hb,(f2 b hb).2⟩
 refine codeAny_forLoop_any (fun n s'=>∃i σ' H',Inv X zv σ' H' s'/\tn i s'.heap/\(∀b∈fp,H' b=none)/\W i n σ' H') ?_ m0 ⟨0,σ,H2,I2,st2,fun b hb=>(f2 b hb).1,w0⟩
 rintro n s3 ⟨i,σ3,H3,I3,st3,fr3,w3⟩
 rcases turn i n σ3 H3 w3 with⟨stop,qn⟩ | ⟨go,N,hN,step⟩
 ·refine wpAny_passesOwn hp (thn (T.done X rfl rfl rfl hc i zv s3 σ3 H3 X.xe I3 (stat fr3) st3 stop) fun r s4 ⟨hr,I4⟩ =>?_)
  subst hr;exact wpAny_execs_nil ⟨σ3,H3,I4,qn⟩
 ·refine wpAny_passesOwn hp (thn (T.item X rfl rfl rfl hc i zv s3 σ3 H3 X.xe I3 (stat fr3) st3 go) fun r s4 ⟨u,hr,h4⟩ =>?_)
  subst hr;refine wpAny_passesOwn hp (thn h4 fun _ s5 ⟨x,H5,I5,r5,y5,st5,fr5⟩ =>?_)
  have I5':=I5.pinned (stat fr5) (T.obj _ _ st5);refine wpAny_passesOwn hp (thn (hg _ s5 σ3 H5 x u _ I5' r5 (step x H5 y5)) fun _ s6 ⟨σ6,H6,I6,q6⟩ =>?_)
  refine wpAny_passesOwn hp (thn (hb _ s6 σ6 H6 _ I6 q6) fun f s7 q7 =>?_)
  have again:∀{σ7:St} {H7:Hp},Inv X (zv++aie fp s5.heap) σ7 H7 s7->N σ7 H7->∃m,m < n/\∃i σ' H',Inv X zv σ' H' s7/\tn i s7.heap/\(∀b∈fp,H' b=none)/\W i m σ' H':=fun{σ7 H7} I7 n7=>by
   obtain⟨m',hm,w7⟩:=hN σ7 H7 n7;refine⟨m',hm,i+1,σ7,H7,I7.unpinned,T.keep _ _ _ st5 fun b hb o e=>(I7.pin (b,o) (List.mem_append_right _ (List.mem_append_right _ (abf hb e)))).1,fun b hb =>?_,w7⟩
   obtain⟨o,e,d⟩:=T.obj _ _ st5 b hb;exact(I7.pin (b,o) (List.mem_append_right _ (List.mem_append_right _ (abf hb e)))).2.1
  cases f with
  | next=>obtain⟨σ7,H7,I7,n7⟩:=q7;exact again I7 n7
  | cont=>obtain⟨σ7,H7,I7,n7⟩:=q7;exact again I7 n7
  | brk=>obtain⟨σ7,H7,I7,q7⟩:=q7;exact⟨σ7,H7,I7.unpinned,q7⟩
  | ret v=>obtain⟨x7,σ7,H7,I7,r7,q7⟩:=q7;exact⟨x7,σ7,H7,I7.unpinned,r7,q7⟩
end
abbrev R2:=V->V->Hp->VK->Prop
def OpR(X:Cx)(f:Value->Value->Sem Value)(r:R2):Prop :=
 ∀(zv:List (Addr×Obj)) (s:Shared) (σ:St) (H:Hp) (x y:V) (v u:Value) (Q:VK),Inv X zv σ H s->RelV x v->RelV y u->r x y H Q ->
  wpAny (model X.prog X.w) X.A (f v u) (EP X zv σ Q) X.xe s
def UnR(X:Cx)(f:Value->Sem Value)(r:V->Hp->VK->Prop):Prop :=
 ∀(zv:List (Addr×Obj)) (s:Shared) (σ:St) (H:Hp) (x:V) (v:Value) (Q:VK),Inv X zv σ H s->RelV x v->r x H Q ->
  wpAny (model X.prog X.w) X.A (f v) (EP X zv σ Q) X.xe s
def yp(X:Cx)(f:Value)(r:List V->Hp->VK->Prop):Prop :=
 ∀(zv:List (Addr×Obj)) (s:Shared) (σ:St) (H:Hp) (xs:List V) (us:List Value) (Q:VK),Inv X zv σ H s->Vals xs us->r xs H Q ->
  wpAny (model X.prog X.w) X.A (call f us) (EP X zv σ Q) X.xe s
def tOp(r:R2)(ta tb:TE):TE:=fun σ H Q=>ta σ H fun x H1=>tb σ H1 fun y H2=>r x y H2 Q
def tUn(r:V->Hp->VK->Prop)(ta:TE):TE:=fun σ H Q=>ta σ H fun x H1=>r x H1 Q
def rI(C:Int->Int->Prop)(g:Int->Int->V):R2:=fun x y H Q=>∃i j,x=.int i/\y=.int j/\C i j/\Q (g i j) H
def rI0(g:Int->Int->V):R2:=fun x y H Q=>∃i j,x=.int i/\y=.int j/\Q (g i j) H
def rU(g:Int->V):V->Hp->VK->Prop:=fun x H Q=>∃i,x=.int i/\Q (g i) H
section
variable{X:Cx}{a b c:Expr}{ta tb tc:TE}{pos:Pos}
theorem binT(ha:PE X a ta)(hb:PE X b tb){zv:List (Addr×Obj)}{s:Shared}{σ:St}{H:Hp}{R:V->V->Hp->Prop}(I:Inv X zv σ H s)
  (h:ta σ H fun x H1=>tb σ H1 fun y H2=>R x y H2) {Q:Value->Shared->Prop} {f:Value->Value->Sem Value}
  (hf:∀v u s2 x y H2,Inv X zv σ H2 s2->RelV x v->RelV y u->R x y H2->wpAny (model X.prog X.w) X.A (f v u) Q X.xe s2) :
  wpAny (model X.prog X.w) X.A (eval a X.env) (fun v s₁=>wpAny (model X.prog X.w) X.A (eval b X.env) (fun u s₂=>wpAny (model X.prog X.w) X.A (f v u) Q X.xe s₂) X.xe s₁) X.xe s:=by
 refine thn (ha zv s σ H _ I h) fun v s1 ⟨x,H1,I1,r1,q1⟩ =>?_
 refine thn (hb zv s1 σ H1 _ I1 q1) fun u s2 ⟨y,H2,I2,r2,q2⟩ =>?_
 exact hf v u s2 x y H2 I2 r1 r2 q2
theorem a2z{op:Operator}{r:R2}(ho:OpR X (binaryOp op) r)(ha:PE X a ta)(hb:PE X b tb):PE X (.BinOp a op b pos) (tOp r ta tb):=by
 intro zv s σ H Q I h;exact wpAny_BinOp (binT ha hb I h fun v u s2 x y H2 I2 rx ry q=>ho zv s2 σ H2 x y v u Q I2 rx ry q)
theorem a2y{op:UnaryOp}{r:V->Hp->VK->Prop}(ho:UnR X (unaryOp op) r)(ha:PE X a ta):PE X (.UnaryOp op a pos) (tUn r ta):=by
 intro zv s σ H Q I h;exact UnaryOp_ (thn (ha zv s σ H _ I h) fun v s1 ⟨x,H1,I1,r1,q1⟩=>ho zv s1 σ H1 x v Q I1 r1 q1)
theorem opI{f:Value->Value->Sem Value}{C:Int->Int->Prop}{g:Int->Int->Int}
  (rule:∀(i j:Int) (t u:Tok) (s:Shared) (Q:Value->Shared->Prop) (E:Value->Shared->Prop),C i j->Q (.int (g i j) s.toks) { s with toks:=s.toks+1 }->wpAny (model X.prog X.w) X.A (f (.int i t) (.int j u)) Q E s) :
  OpR X f (rI C fun i j=>.int (g i j)):=by
 intro zv s σ H x y v u Q I rx ry h;obtain⟨i,j,rfl,rfl,hc,q⟩:=h;obtain⟨t,rfl⟩:=rx;obtain⟨t',rfl⟩:=ry;exact rule i j t t' s _ _ hc ⟨.int (g i j),H,I.tok _,⟨_,rfl⟩,q⟩
theorem opI0{f:Value->Value->Sem Value}{g:Int->Int->Int}
  (rule:∀(i j:Int) (t u:Tok) (s:Shared) (Q:Value->Shared->Prop) (E:Value->Shared->Prop),Q (.int (g i j) s.toks) { s with toks:=s.toks+1 }->wpAny (model X.prog X.w) X.A (f (.int i t) (.int j u)) Q E s) :
  OpR X f (rI0 fun i j=>.int (g i j)):=by
 intro zv s σ H x y v u Q I rx ry h;obtain⟨i,j,rfl,rfl,q⟩:=h;obtain⟨t,rfl⟩:=rx;obtain⟨t',rfl⟩:=ry;exact rule i j t t' s _ _ ⟨.int (g i j),H,I.tok _,⟨_,rfl⟩,q⟩
theorem opB0{f:Value->Value->Sem Value}{g:Int->Int->Bool}
  (rule:∀(i j:Int) (t u:Tok) (s:Shared) (Q:Value->Shared->Prop) (E:Value->Shared->Prop),Q (.bool (g i j)) s->wpAny (model X.prog X.w) X.A (f (.int i t) (.int j u)) Q E s) :
  OpR X f (rI0 fun i j=>.bl (g i j)):=by
 intro zv s σ H x y v u Q I rx ry h;obtain⟨i,j,rfl,rfl,q⟩:=h;obtain⟨t,rfl⟩:=rx;obtain⟨t',rfl⟩:=ry;exact rule i j t t' s _ _ ⟨.bl (g i j),H,I,rfl,q⟩
def CPow(i j:Int):Prop:=0<=j/\j<=1000000/\i.natAbs < 2 ^ 64
def CMul(i j:Int):Prop:=(-(2 ^ 64) < i/\i < 2 ^ 64)∨(-(2 ^ 64) < j/\j < 2 ^ 64)
theorem CMul.ok{i j:Int}(h:CMul i j):IntMulOk i j:=by
 rcases h with⟨h1,h2⟩ | ⟨h1,h2⟩
 ·exact .of_left (intBits_le_64 h1 h2)
 ·exact .of_right (intBits_le_64 h1 h2)
theorem ay5:OpR X (binaryOp .Add) (rI0 fun i j=>.int (i+j)):=opI0 fun _ _ _ _ _ _ _ q=>add_int q
theorem ayz:OpR X (binaryOp .Sub) (rI0 fun i j=>.int (i - j)):=opI0 fun _ _ _ _ _ _ _ q=>sub_int q
theorem ay2:OpR X (binaryOp .Mult) (rI CMul fun i j=>.int (i*j)):=opI fun _ _ _ _ _ _ _ hc q=>mul_int q hc.ok
theorem ay3:OpR X (binaryOp .Mod) (rI (fun _ j=>0 < j) fun i j=>.int (i % j)):=opI fun i j _ _ _ _ _ hc q=>by
 have h1:(0:Int) < j:=hc;exact mod_int' (by omega) (by rw[Int.fmod_eq_emod_of_nonneg i (by omega)];exact q)
theorem ay1:OpR X (binaryOp .Pow) (rI CPow fun i j=>.int (i ^ j.toNat)):=opI fun _ _ _ _ _ _ _ hc q=>pow_int_small hc.1 hc.2.1 hc.2.2 q
theorem unI{f:Value->Sem Value}{g:Int->Int}
  (rule:∀(i:Int) (t:Tok) (s:Shared) (Q:Value->Shared->Prop) (E:Value->Shared->Prop),Q (.int (g i) s.toks) { s with toks:=s.toks+1 }->wpAny (model X.prog X.w) X.A (f (.int i t)) Q E s) :
  UnR X f (rU fun i=>.int (g i)):=by
 intro zv s σ H x v Q I rx h;obtain⟨i,rfl,q⟩:=h;obtain⟨t,rfl⟩:=rx;exact rule i t s _ _ ⟨.int (g i),H,I.tok _,⟨_,rfl⟩,q⟩
theorem axv:UnR X (unaryOp .USub) (rU fun i=>.int (-i)):=unI fun _ _ _ _ _ q=>neg_int q
end
section
variable{X:Cx}{a b c:Expr}{ta tb tc:TE}{pos:Pos}
theorem a3d:OpR X (compareOp .Lt) (rI0 fun i j=>.bl (decide (i < j))):=opB0 fun _ _ _ _ _ _ _ q=>lt_int q
theorem ar6:OpR X (compareOp .LtE) (rI0 fun i j=>.bl (decide (i<=j))):=opB0 fun _ _ _ _ _ _ _ q=>le_int q
theorem a3e:OpR X (compareOp .Gt) (rI0 fun i j=>.bl (decide (j < i))):=opB0 fun _ _ _ _ _ _ _ q=>gt_int q
theorem a3f:OpR X (compareOp .GtE) (rI0 fun i j=>.bl (decide (j<=i))):=opB0 fun _ _ _ _ _ _ _ q=>ge_int q
theorem OpR.or{f:Value->Value->Sem Value}{r r':R2}(h:OpR X f r)(h':OpR X f r'):OpR X f (fun x y H Q=>r x y H Q∨r' x y H Q):=by
 intro zv s σ H x y v u Q I rx ry q;rcases q with q | q
 ·exact h zv s σ H x y v u Q I rx ry q
 ·exact h' zv s σ H x y v u Q I rx ry q
theorem m7(b:Expr){op:CmpOp}(h:op≠.In:=by decide)(h2:op≠.NotIn:=by decide):behindInMarks op b=false:=by
 have e1:(op==CmpOp.In)=false:=by cases op <;> first | rfl | exact absurd rfl h
 have e2:(op==CmpOp.NotIn)=false:=by cases op <;> first | rfl | exact absurd rfl h2
 cases b <;> simp[behindInMarks,e1,e2]
theorem avq{op:CmpOp}{r:R2}(ho:OpR X (compareOp op) r)(ha:PE X a ta)(hb:PE X b tb)(hm:behindInMarks op b=false):PE X (.Compare a [op] [b] pos) (tOp r ta tb):=by
 intro zv s σ H Q I h;exact wpAny_Compare1 (binT ha hb I h fun v u s2 x y H2 I2 rx ry q=>ho zv s2 σ H2 x y v u Q I2 rx ry q) hm
def a2g(t:TE):TT:=fun σ H Q=>t σ H fun x H'=>∃k,x=.bl k/\Q k H'
theorem au8{op:CmpOp}{r:R2}(ho:OpR X (compareOp op) r)(ha:PE X a ta)(hb:PE X b tb)(hm:behindInMarks op b=false):PT X (.Compare a [op] [b] pos) (a2g (tOp r ta tb)):=by
 intro zv s σ H Q I h;refine wpAny_isTrue_Compare1 (thn (ha zv s σ H _ I h) fun v s1 ⟨x,H1,I1,r1,q1⟩=>thn (hb zv s1 σ H1 _ I1 q1) fun u s2 ⟨y,H2,I2,r2,q2⟩ =>
  thn (ho zv s2 σ H2 x y v u _ I2 r1 r2 q2) fun c s3 ⟨z,H3,I3,r3,k,e,q3⟩ =>?_) hm
 subst e;cases r3;exact wpAny_truthy_bool ⟨H3,I3,q3⟩
def atm(r r':R2)(ta tb tc:TE):TE:=fun σ H Q=>ta σ H fun x H1=>tb σ H1 fun y H2=>r x y H2 fun z H3=>∃k,z=.bl k /\
 (if k=true then tc σ H3 fun w' H4=>r' y w' H4 Q else Q (.bl false) H3)
theorem ar0{op op':CmpOp}{r r':R2}(ho:OpR X (compareOp op) r)(ho':OpR X (compareOp op') r')(ha:PE X a ta)(hb:PE X b tb)(hc:PE X c tc)
  (hm:lastMarks [op,op'] [b,c]=false:=by with_unfolding_all rfl):PE X (.Compare a [op,op'] [b,c] pos) (atm r r' ta tb tc):=by
 intro zv s σ H Q I h;refine Compare_chain (thn (ha zv s σ H _ I h) fun v s1 ⟨x,H1,I1,r1,q1⟩=>chain_link (thn (hb zv s1 σ H1 _ I1 q1) fun u s2 ⟨y,H2,I2,r2,q2⟩ =>
  thn (ho zv s2 σ H2 x y v u _ I2 r1 r2 q2) fun d s3 ⟨z,H3,I3,r3,k,e,q3⟩ =>?_)) hm
 subst e;cases r3;refine wpAny_truthy_bool ?_;cases k with
 | false=>exact ite_ff ⟨.bl false,H3,I3,rfl,q3⟩
 | true=>exact ite_tt (chain_last (thn (hc zv s3 σ H3 _ I3 q3) fun w' s4 ⟨z',H4,I4,r4,q4⟩=>ho' zv s4 σ H4 y z' u w' Q I4 r2 r4 q4))
theorem aiv:(sizeLine:Nat) < 2 ^ 63:=by rw[sizeLine_eq];decide
theorem amq:OpR X (binaryOp .Add) (fun x y H Q=>∃i j,x=.str i/\y=.str j/\i.length+j.length<=sizeLine/\Q (.str (i++j)) H):=by
 intro zv s σ H x y v u Q I rx ry h;obtain⟨i,j,rfl,rfl,hz,q⟩:=h;obtain⟨t,rfl⟩:=rx;obtain⟨t',rfl⟩:=ry;exact add_str (fun t' tk=>⟨.str (i++j),H,I.tok _,⟨_,rfl⟩,q⟩) hz
theorem vals1{x:V}{us:List Value}(r:Vals [x] us):∃u,us=[u]/\RelV x u:=by
 cases r with
 | cons r1 r2=>cases r2;exact⟨_,rfl,r1⟩
theorem vals2{x y:V}{us:List Value}(r:Vals [x,y] us):∃u w',us=[u,w']/\RelV x u/\RelV y w':=by
 cases r with
 | cons r1 r2 =>
  cases r2 with
  | cons r3 r4=>cases r4;exact⟨_,_,rfl,r1,r3⟩
theorem aqg(hc:X.calm=true):yp X (.builtin "max") (fun xs H Q=>∃i j,xs=[.int i,.int j]/\Q (.int (if j > i then j else i)) H):=by
 intro zv s σ H xs us Q I r h;obtain⟨i,j,rfl,q⟩:=h;obtain⟨u,w',rfl,⟨t,rfl⟩,⟨t',rfl⟩⟩:=vals2 r;refine max_two_ints (I.ok.hd hc) fun h' tk k=>⟨_,H,I.kept k,?_,q⟩
 by_cases hj:j > i
 ·rw[if_pos hj,if_pos hj];exact⟨_,rfl⟩
 ·rw[if_neg hj,if_neg hj];exact⟨_,rfl⟩
theorem ajj:yp X (.type "int") (fun xs H Q=>(∃i,xs=[.int i]/\Q (.int i) H)∨∃k,xs=[.bl k]/\Q (.int (if k then 1 else 0)) H):=by
 intro zv s σ H xs us Q I r h;rcases h with⟨i,rfl,q⟩ | ⟨k,rfl,q⟩
 ·obtain⟨u,rfl,t,rfl⟩:=vals1 r;exact call_int_int ⟨.int i,H,I,⟨_,rfl⟩,q⟩
 ·obtain⟨u,rfl,r1⟩:=vals1 r;cases r1;exact call_int_bool ⟨.int (if k then 1 else 0),H,I.tok _,⟨_,rfl⟩,q⟩
end
structure ObjM (h:Heap) (x dx C:Addr) (mA:Str->Option Value):Prop where
 obj:h.get? x=some (PySem.W.instObj C dx)
 ns:h.Ns1 dx mA
 ne:dx≠x
theorem ao7{h:Heap}{dx:Addr}{mA:Str->Option Value}(n:h.Ns1 dx mA):∃od,h.get? dx=some od/\∀name,PySem.W.lookIn name od=some (mA name):=by
 obtain⟨o,es,ep,ho,hd,hk,_,hm⟩:=n;refine⟨o,ho,fun name =>?_⟩
 have e:=hm name;unfold nsFind findBy at e;rw[<-Array.find?_toList] at e;unfold PySem.W.lookIn;rw[hd];dsimp only;split
 ·rename_i y q;rw[q] at e;exact congrArg some e
 ·rename_i q;rw[q] at e;have a:es.toList.any (·.refKey)=false:=by
   rw[List.any_eq_false];intro y hy;obtain⟨z,t,hkey⟩:=hk y (Array.mem_toList_iff.mp hy);simp[DictEntry.refKey,hkey]
  have a':¬es.toList.any (·.refKey)=true:=by rw[a];exact Bool.false_ne_true
  rw[if_neg a'];exact congrArg some e
theorem ObjM.look{h:Heap}{x dx C:Addr}{mA:Str->Option Value}(I:ObjM h x dx C mA):∃od,PySem.W.InstAt h x (PySem.W.instObj C dx) C (some od)/\∀name,PySem.W.lookIn name od=some (mA name) :=
 let ⟨od,ho,hl⟩:=ao7 I.ns
 ⟨od,⟨I.obj,rfl,rfl,ho⟩,hl⟩
section
variable{prog:Program}{w:World}{A:Around}{E:Value->Shared->Prop}{s:Shared}{K:Fg9}{x dx C f:Addr}{mA:Str->Option Value}{name:Str}{v:Value}
theorem awg{expr:Bool}{Q:Value->Shared->Prop}(X:K.In s.heap)(I:ObjM s.heap x dx C mA)(hg:PySem.W.plainGet K C name=true)(hh:PySem.W.hasDictIn K C=true)
  (ha:findIn K (.ref C) name=some none) (hv:mA name=some v) (hv':PySem.W.handedIn v=true) (h:Q v { s with toks:=s.toks+1 }) :
  wpAny (model prog w) A (getAttr (.ref x) name expr) Q E s:=by
 obtain⟨od,J,hl⟩:=I.look;exact PySem.W.get_value X J (PySem.W.plainGet_of hg).1 (PySem.W.findObj_own hh ha rfl (by rw[hl,hv])) hv' h
theorem asx{pl:Sem Bool}{Q:Value×List Value->Shared->Prop}(X:K.In s.heap)(I:ObjM s.heap x dx C mA)(hg:PySem.W.plainGet K C name=true)
  (hf:findIn K (.ref C) name=some (some (.ref f))) (ht:PySem.W.isFn K (.ref f)=true) (hv:mA name=none) (h:Q (.ref f,[.ref x]) s) :
  wpAny (model prog w) A (getMethod (.ref x) name pl) Q E s:=by
 obtain⟨od,J,hl⟩:=I.look;exact PySem.W.method_fn X J (PySem.W.plainGet_of hg).1 (PySem.W.plainGet_of hg).2 hf (beq_iff_eq.mp ht) (by show(PySem.W.lookIn name od).map (·.isSome)=some false;rw[hl,hv];rfl) h
theorem au1{ns:List Str}{Q:Unit->Shared->Prop}(X:K.In s.heap)(I:ObjM s.heap x dx C mA)
  (hs:findIn K (.ref C) "__setattr__" = some (some (.builtin "object.__setattr__"))) (hp:PySem.W.plainOver K C=true) (ht:PySem.W.takerIn K C name=some none) (hh:PySem.W.hasDictIn K C=true)
  (hw:PySem.Within mA ns) (hsz:ns.length<=sizeLine)
  (h:∀h',ObjM h' x dx C (fun y=>if y=name then some v else mA y)->Heap.SameBut dx s.heap h'->Q () { s with heap:=h',toks:=s.toks+2 }) :
  wpAny (model prog w) A (setAttr (.ref x) name v) Q E s:=by
 obtain⟨od,J,hl⟩:=I.look;refine PySem.W.set_plain X J hs (PySem.W.osa_open (s:={ s with toks:=s.toks+1 }) (r:=none) X J hp ht fun b =>?_)
 obtain⟨cd,hc,hd'⟩:=PySem.W.any_some hh;have hx:s.heap.get? x=some ⟨.ref C,some dx,.plain,#[]⟩:=I.obj;refine wpAny_bind (wpAny_pure (wpAny_bind (wpAny_bind (wpAny_loadPart hx (wpAny_bind (PySem.W.Looks.here (s:={ s with toks:=s.toks+1 }) (PySem.W.looks_clsIn X hc) ?_))))))
 rw[hd'];refine wpAny_pure (a:=some dx) (wpAny_bind (wpAny_pure (wpAny_bind ?_)));refine wpAny_nsSet1 (s:={ s with toks:=s.toks+1 }) I.ns fun h' hn2 hs2 =>?_
 obtain⟨oD,esD,epD,hoD,hdD,hcD⟩:=hn2.count (PySem.Within.cons name v hw);refine wpAny_bind (wpAny_lookBehind hoD (by rw[hdD];exact pastItsLine_dict (Nat.le_trans hcD (by rw[List.length_cons];omega))) ?_)
 exact wpAny_pure (h _ ⟨(hs2.2 _ (Ne.symm I.ne)).trans I.obj,hn2,I.ne⟩ hs2)
theorem asd{R:Result->Shared->Prop}{vs:List Value}{kw:List (Str×Value)}(X:K.In s.heap)(hm:PySem.W.makesIn K C=true)
  (hi:findIn K (.ref C) "__init__" = some (some (.ref f))) (hf:PySem.W.typeIn K (.ref f)=some (.type "function"))
  (h:codeAny (model prog w) (A.under (.builtin "type.__call__" ⟨.ref C::vs,kw⟩)) (.call (.ref f) ⟨.ref (s.heap.objs.size+1)::vs,kw⟩) (PySem.W.InitBack (s.heap.objs.size+1) R)
   { s with heap:=(s.heap.push PySem.W.emptyDict).push (PySem.W.instObj C s.heap.objs.size) }) :
  codeAny (model prog w) A (.call (.ref C) ⟨vs,kw⟩) R s:=by
 obtain⟨hh,g,d,t,os⟩:=s;exact PySem.W.make_core (PySem.W.makes_of X hm) (PySem.W.looks_findIn X hi) (fun self=>PySem.W.bind_fn X self hf) (.inl rfl) h
end
def putF(f:Str)(v:V):List (Str×V)->List (Str×V)
 | []=>[(f,v)]
 | (g,x)::r=>if g=f then (g,v)::r else (g,x)::putF f v r
theorem ae0(f g:Str)(v:V):∀fs:List (Str×V),(putF f v fs).lookup g=if g=f then some v else fs.lookup g
 | []=>by
  show List.lookup g [(f,v)]=_
  by_cases h:g=f
  ·have hb:(g==f)=true:=beq_iff_eq.mpr h;simp only[List.lookup,hb,if_pos h]
  ·have hb:(g==f)=false:=beq_eq_false_iff_ne.mpr h;simp only[List.lookup,hb,if_neg h]
 | (k,x)::r=>by
  have ih:=ae0 f g v r;rw[show putF f v ((k,x)::r)=(if k=f then (k,v)::r else (k,x)::putF f v r) from rfl]
  by_cases hk:k=f
  ·rw[if_pos hk]
   by_cases h:g=k
   ·have hb:(g==k)=true:=beq_iff_eq.mpr h;simp only[List.lookup,hb,if_pos (h.trans hk)]
   ·have hb:(g==k)=false:=beq_eq_false_iff_ne.mpr h;simp only[List.lookup,hb,if_neg (fun e:g=f=>h (e.trans hk.symm))]
  ·rw[if_neg hk]
   by_cases h:g=k
   ·have hb:(g==k)=true:=beq_iff_eq.mpr h;simp only[List.lookup,hb,if_neg (fun e:g=f=>hk (h.symm.trans e))]
   ·have hb:(g==k)=false:=beq_eq_false_iff_ne.mpr h;simp only[List.lookup,hb];exact ih
theorem ae3(f:Str)(v:V):∀fs:List (Str×V),f∈(putF f v fs).map (·.1)/\∀g,g∈fs.map (·.1)->g∈(putF f v fs).map (·.1)
 | []=>⟨by simp[putF],fun g h=>by simp at h⟩
 | (k,x)::r=>by
  obtain⟨i1,i2⟩:=ae3 f v r;rw[show putF f v ((k,x)::r)=(if k=f then (k,v)::r else (k,x)::putF f v r) from rfl]
  by_cases hk:k=f
  ·rw[if_pos hk];subst hk;exact⟨by simp,fun g h=>by simpa using h⟩
  ·rw[if_neg hk];refine⟨?_,fun g h =>?_⟩
   ·rw[List.map_cons];exact List.mem_cons_of_mem _ i1
   ·rw[List.map_cons] at h ⊢
    rcases List.mem_cons.mp h with e | e
    ·exact List.mem_cons.mpr (.inl e)
    ·exact List.mem_cons_of_mem _ (i2 g e)
theorem ae1(f:Str)(v:V):∀fs:List (Str×V),(putF f v fs).length<=fs.length+1
 | []=>by simp[putF]
 | (k,x)::r=>by
  have ih:=ae1 f v r;rw[show putF f v ((k,x)::r)=(if k=f then (k,v)::r else (k,x)::putF f v r) from rfl]
  by_cases hk:k=f
  ·rw[if_pos hk,List.length_cons,List.length_cons];omega
  ·rw[if_neg hk,List.length_cons,List.length_cons];omega
theorem RelO.some_of{v:V}{o:Option Value}(r:RelO (some v) o):∃u,o=some u/\RelV v u:=by
 cases o with
 | none=>exact(show False from r).elim
 | some u=>exact⟨u,rfl,r⟩
theorem RelO.none_of{o:Option Value}(r:RelO none o):o=none:=by
 cases o with
 | none=>rfl
 | some u=>exact(show False from r).elim
theorem apg{v:V}{u:Value}(r:RelV v u):PySem.W.handedIn u=true:=by
 cases v with
 | non=>cases(show u=Value.none from r);rfl
 | bl b=>cases(show u=Value.bool b from r);rfl
 | int i=>obtain⟨t,e⟩:=(show ∃t,u=Value.int i t from r);cases e;rfl
 | str x=>obtain⟨t,e⟩:=(show ∃t,u=Value.str x t from r);cases e;rfl
 | byt b=>obtain⟨t,e⟩:=(show ∃t,u=Value.bytes b t from r);cases e;rfl
 | flt b=>obtain⟨t,e⟩:=(show ∃t,u=Value.float b t from r);cases e;rfl
 | ref a=>cases(show u=Value.ref a from r);rfl
 | ty n=>cases(show u=Value.type n from r);rfl
section
variable{P:Program}{w:World}{H H':Hp}{h h':Heap}{a C dx:Addr}{fs fs':List (Str×V)}
theorem ahi(hok:HOk P w H h)(e:H a=some (.ins C dx fs)):∃mA,ObjM h a dx C mA/\(∀f,RelO (fs.lookup f) (mA f))/\PySem.Within mA (fs.map (·.1))/\fs.length<=1000/\H dx=some (.own a):=by
 obtain⟨d,z,ne,ob,mA,n,r,q⟩:=(show xj P w H h a (.ins C dx fs) from hok a _ e)
 exact⟨mA,⟨ob,n,ne⟩,r,q,z,d⟩
end
structure Cls (K:Fg9) (C:Addr):Prop where
 pg:PySem.W.plainGet K C Str.empty=true
 hd:PySem.W.hasDictIn K C=true
 po:PySem.W.plainOver K C=true
 sa:findIn K (.ref C) "__setattr__" = some (some (.builtin "object.__setattr__"))
theorem Cls.get{K:Fg9}{C:Addr}(c:Cls K C)(f:Str):PySem.W.plainGet K C f=true:=c.pg
def ab0(K:Fg9)(C:Addr)(f:Str):Prop:=findIn K (.ref C) f=some none
theorem ab0.taker{K:Fg9}{C:Addr}{f:Str}(n:ab0 K C f):PySem.W.takerIn K C f=some none:=by
 unfold PySem.W.takerIn;rw[show findIn K (.ref C) f=some none from n]
 rfl
structure Con (K:Fg9) (C:Addr) (f:Str) (v:V) (u:Value):Prop where
 at_:findIn K (.ref C) f=some (some u)
 rel:RelV v u
 get:PySem.W.specialIn K u "__get__" = some none
 cp:PySem.W.copiedNames.contains f=false
structure Meth (K:Fg9) (C:Addr) (m:Str) (f:Addr):Prop where
 at_:findIn K (.ref C) m=some (some (.ref f))
 fn:PySem.W.isFn K (.ref f)=true
 kp:keepIn K (.ref f)=true
section
variable{X:Cx}{zv:List (Addr×Obj)}{σ:St}{H:Hp}{s:Shared}{a C dx:Addr}{fs:List (Str×V)}{f:Str}{v:V}{A:Around}{E:Value->Shared->Prop}
theorem am7{b:Bool}{Q:Value->Shared->Prop}(I:Inv X zv σ H s)(e:H a=some (.ins C dx fs))(c:Cls X.K C)(n:ab0 X.K C f)(l:fs.lookup f=some v)
  (h:∀u s',Inv X zv σ H s'->RelV v u->Q u s'):wpAny (model X.prog X.w) A (getAttr (.ref a) f b) Q E s:=by
 obtain⟨mA,O,r,_,_,_⟩:=ahi I.hok e;obtain⟨u,hu,ru⟩:=RelO.some_of (v:=v) (o:=mA f) (by rw[<-l];exact r f)
 exact awg I.kIn O (c.get f) c.hd n hu (apg ru) (h u _ (I.tok _) ru)
theorem am6{m:Str}{g:Addr}{pl:Sem Bool}{Q:Value×List Value->Shared->Prop}(I:Inv X zv σ H s)(e:H a=some (.ins C dx fs))(c:Cls X.K C)(k:Meth X.K C m g)(l:fs.lookup m=none)
  (h:Q (.ref g,[.ref a]) s):wpAny (model X.prog X.w) A (getMethod (.ref a) m pl) Q E s:=by
 obtain⟨mA,O,r,_,_,_⟩:=ahi I.hok e;have hn:mA m=none:=RelO.none_of (by rw[<-l];exact r m)
 exact asx I.kIn O (c.get m) k.at_ k.fn hn h
theorem ami{y:V}{u:Value}{Q:Unit->Shared->Prop}(I:Inv X zv σ H s)(e:H a=some (.ins C dx fs))(c:Cls X.K C)(n:ab0 X.K C f)(hl:fs.length < 1000)(ry:RelV y u)
  (h:∀s',Inv X zv σ (upd H a (.ins C dx (putF f y fs))) s'->Q () s'):wpAny (model X.prog X.w) A (setAttr (.ref a) f u) Q E s:=by
 obtain⟨mA,O,r,wi,_,ho⟩:=ahi I.hok e;have hz:(fs.map (·.1)).length<=sizeLine:=by rw[List.length_map,sizeLine_eq];omega
 refine au1 I.kIn O c.sa c.po n.taker c.hd wi hz fun h' O' sb=>h _ ?_
 have hd:∃o,h'.get? dx=some o:=let ⟨o,_,_,e',_⟩:=O'.ns;⟨o,e'⟩
 refine I.write (x:=a) (e:=dx) (by rw[e];exact True.intro) (.inr ho) (fun b q hb z=>(sb.2 b hb).trans z) hd ?_
 refine⟨by rw[cu O.ne];exact ho,?_,O.ne,O'.obj,_,O'.ns,fun g =>?_,fun g hg =>?_⟩
 ·have:=ae1 f y fs;omega
 ·show RelO ((putF f y fs).lookup g) (if g=f then some u else mA g)
  rw[ae0]
  by_cases q:g=f
  ·rw[if_pos q,if_pos q];exact ry
  ·rw[if_neg q,if_neg q];exact r g
 ·by_cases q:g=f
  ·rw[q];exact(ae3 f y fs).1
  ·refine(ae3 f y fs).2 g (wi g fun z=>hg ?_)
   show(if g=f then some u else mA g)=none
   rw[if_neg q];exact z
theorem Inv.made(I:Inv X zv σ H s):Inv X zv σ (upd (upd H s.heap.objs.size (.own (s.heap.objs.size+1))) (s.heap.objs.size+1) (.ins C s.heap.objs.size []))
  { s with heap:=(s.heap.push PySem.W.emptyDict).push (PySem.W.instObj C s.heap.objs.size) }:=by
 have e1:(s.heap.push PySem.W.emptyDict).get? s.heap.objs.size=some PySem.W.emptyDict:=Heap.get?_push_size s.heap rfl;have e2:((s.heap.push PySem.W.emptyDict).push (PySem.W.instObj C s.heap.objs.size)).get? (s.heap.objs.size+1)=some (PySem.W.instObj C s.heap.objs.size):=by
  have:=Heap.get?_push_size (s.heap.push PySem.W.emptyDict) (o:=PySem.W.instObj C s.heap.objs.size) rfl;rwa[Heap.size_push] at this
 have e3:(s.heap.push PySem.W.emptyDict).Ns s.heap.objs.size (fun _=>none):=⟨PySem.W.emptyDict,#[],_,e1,rfl,(fun e he=>absurd he (by simp)),fun _=>rfl⟩
 have I1:=I.laid (a:=s.heap.objs.size) (o:=.own (s.heap.objs.size+1)) (h':=s.heap.push PySem.W.emptyDict) (t':=s.toks) (fun b u q=>Heap.get?_push_of_some _ q) (Nat.le_refl _) ⟨_,e1⟩
 refine I1.laid (a:=s.heap.objs.size+1) (o:=.ins C s.heap.objs.size []) (t':=s.toks) (fun b u q=>Heap.get?_push_of_some _ q) (Nat.le_of_eq (Heap.size_push _ _)) ?_
 have ne:s.heap.objs.size≠s.heap.objs.size+1:=Nat.ne_of_lt (Nat.lt_succ_self _);refine⟨by rw[cu ne,ir],Nat.zero_le _,ne,e2,fun _=>none,(Heap.Ns1.of_empty e3).at fun o q=>Heap.get?_push_of_some _ q,fun _=>True.intro,fun y hy=>absurd rfl hy⟩
theorem axg{prog:Program}{w:World}{env:Env}{e:Expr}{f:Str}{pos:Pos}{s:Shared}{Q:Value->Shared->Prop}(hb:attributeBase e f env (eval e env)=eval e env)
  (h:wpAny (model prog w) A (eval e env) (fun o s₁=>wpAny (model prog w) A (getAttr o f true) Q E s₁) E s):wpAny (model prog w) A (eval (.Attribute e f pos) env) Q E s :=
 Attribute_any_ h (by rw[arm_eval_Attribute,hb])
end
def tFld(K:Fg9)(ta:TE)(f:Str):TE:=fun σ H Q=>ta σ H fun x H1=>∃a C dx fs v,x=.ref a/\H1 a=some (.ins C dx fs)/\Cls K C/\ab0 K C f/\fs.lookup f=some v/\Q v H1
def sFld(K:Fg9)(ta tv:TE)(f:Str):TS:=fun D σ H=>tv σ H fun y H1=>ta σ H1 fun x H2=>∃a C dx fs,x=.ref a/\H2 a=some (.ins C dx fs)/\Cls K C/\ab0 K C f/\fs.length < 1000 /\
 D.nx σ (upd H2 a (.ins C dx (putF f y fs)))
section
variable{X:Cx}{o e value:Expr}{f:Str}{pos pos' tpos:Pos}{ta tv:TE}
theorem ayw(he:PE X e ta)(hb:attributeBase e f X.env (eval e X.env)=eval e X.env):PE X (.Attribute e f pos) (tFld X.K ta f):=by
 intro zv s σ H Q I h;refine axg hb (thn (he zv s σ H _ I h) fun u s1 ⟨x,H1,I1,rx,a,C,dx,fs,v,ex,ea,c,n,l,q⟩ =>?_)
 subst ex;obtain rfl:u=Value.ref a:=rx;exact am7 I1 ea c n l fun u' s2 I2 ru=>⟨v,H1,I2,ru,q⟩
theorem aym(ha:PE X o ta)(hv:PE X value tv)(hs:swapsWith value (some (.Attribute o f pos')) pos.line X.env=pure false):PS X (.Assign [.Attribute o f pos'] value pos) (sFld X.K ta tv f):=by
 intro zv s σ H D I h;refine plainObj_wpAny_Assign_Attribute (thn (hv zv s σ H _ I h) fun u s1 ⟨y,H1,I1,ry,q⟩=>thn (ha zv s1 σ H1 _ I1 q) fun ov s2 ⟨x,H2,I2,rx,a,C,dx,fs,ex,ea,c,n,l,q2⟩ =>?_) hs
 subst ex;obtain rfl:ov=Value.ref a:=rx;exact ami I2 ea c n l ry fun s3 I3=>⟨σ,_,I3,q2⟩
end
section
variable{X:Cx}{zv:List (Addr×Obj)}{σ:St}{H:Hp}{s:Shared}{A:Around}{E:Value->Shared->Prop}{Q:Value->Shared->Prop}{c:Value}{b:Bool}
inductive TyOf (K:Fg9) (H:Hp):V->Value->Prop where
 | non:TyOf K H .non (.type "NoneType")
 | bl (x:Bool):TyOf K H (.bl x) (.type "bool")
 | int (i:Int):TyOf K H (.int i) (.type "int")
 | str (x:Str):TyOf K H (.str x) (.type "str")
 | flt (x:UInt64):TyOf K H (.flt x) (.type "float")
 | lst {a:Addr} {xs:List V} (e:H a=some (.lst xs)):TyOf K H (.ref a) (.type "list")
 | frz {a:Addr} {o:Obj} {xs:List V} (e:H a=some (.frz o (.lst xs))):TyOf K H (.ref a) (.type "list")
 | tup {a:Addr} {xs:List V} (e:H a=some (.tup xs)):TyOf K H (.ref a) (.type "tuple")
 | dK {a:Addr} {kvs:List (Key×V)} (e:H a=some (.dK kvs)):TyOf K H (.ref a) (.type "dict")
 | dT {a:Addr} {kvs:List (List Key×V)} (e:H a=some (.dT kvs)):TyOf K H (.ref a) (.type "dict")
 | ins {a C dx:Addr} {fs:List (Str×V)} (e:H a=some (.ins C dx fs)) (cl:Cls K C) (ha:findIn K (.ref C) "__class__" = some (some (.builtin "object.__class__")))
   (hn:PySem.W.specialIn K (.builtin "object.__class__") "__get__" = some (some (.builtin "getset_descriptor.__get__"))) (htk:PySem.W.takesIn K (.builtin "object.__class__")=some true)
   (hm:PySem.W.mroIn K C (.type "object")=some true):TyOf K H (.ref a) (.ref C)
theorem apd{x:V}{u t:Value}(I:Inv X zv σ H s)(rx:RelV x u)(ty:TyOf X.K H x t)(e:PySem.W.kitOne X.K t c=some b)(h:∀tk,Q (.bool b) { s with toks:=tk }) :
  wpAny (model X.prog X.w) A (call (.builtin "isinstance") [u,c]) Q E s:=by
 cases ty with
 | non=>cases(show u=Value.none from rx);exact PySem.W.kia_one PySem.W.kitx_none I.kIn True.intro e (fun z=>nomatch z) h
 | bl y=>cases(show u=Value.bool y from rx);exact PySem.W.kia_one PySem.W.kitx_bool I.kIn True.intro e (fun z=>nomatch z) h
 | int i=>obtain⟨t,q⟩:=(show ∃t,u=Value.int i t from rx);cases q;exact PySem.W.kia_one PySem.W.kitx_int I.kIn True.intro e (fun z=>nomatch z) h
 | str y=>obtain⟨t,q⟩:=(show ∃t,u=Value.str y t from rx);cases q;exact PySem.W.kia_one PySem.W.kitx_str I.kIn True.intro e (fun z=>nomatch z) h
 | flt y=>obtain⟨t,q⟩:=(show ∃t,u=Value.float y t from rx);cases q;exact PySem.W.kia_one PySem.W.kitx_float I.kIn True.intro e (fun z=>nomatch z) h
 | @lst a xs ea =>
  cases(show u=Value.ref a from rx)
  obtain⟨_,_,n,_,h1⟩:=(show xj X.prog X.w H s.heap a (.lst xs) from I.hok a _ ea)
  exact PySem.W.kia_one PySem.W.kitx_list I.kIn ⟨_,h1,rfl⟩ e (fun z=>nomatch z) h
 | @frz a ob xs ea =>
  cases(show u=Value.ref a from rx)
  obtain⟨_,_,_,n,_,h1⟩:=(show xj X.prog X.w H s.heap a (.frz ob (.lst xs)) from I.hok a _ ea)
  exact PySem.W.kia_one PySem.W.kitx_list I.kIn ⟨_,h1,rfl⟩ e (fun z=>nomatch z) h
 | @tup a xs ea =>
  cases(show u=Value.ref a from rx)
  obtain⟨_,_,_,p⟩:=(show xj X.prog X.w H s.heap a (.tup xs) from I.hok a _ ea)
  obtain⟨o,h1,h2,_⟩:=p;exact PySem.W.kia_one PySem.W.kitx_tuple I.kIn ⟨o,h1,h2⟩ e (fun z=>nomatch z) h
 | @dK a kvs ea =>
  cases(show u=Value.ref a from rx)
  obtain⟨_,_,vs,_,p⟩:=(show xj X.prog X.w H s.heap a (.dK kvs) from I.hok a _ ea)
  obtain⟨o,es,ep,h1,h2,_⟩:=p;exact PySem.W.kia_one PySem.W.kitx_dict I.kIn ⟨o,h1,h2.1⟩ e (fun z=>nomatch z) h
 | @dT a kvs ea =>
  cases(show u=Value.ref a from rx)
  obtain⟨_,_,xs,_,o,es,ep,h1,h2,_⟩:=(show xj X.prog X.w H s.heap a (.dT kvs) from I.hok a _ ea)
  exact PySem.W.kia_one PySem.W.kitx_dict I.kIn ⟨o,h1,h2.1⟩ e (fun z=>nomatch z) h
 | @ins a C dx fs ea cl ha hn htk hm =>
  cases(show u=Value.ref a from rx)
  obtain⟨mA,O,_⟩:=ahi I.hok ea;obtain⟨od,J,_⟩:=O.look;exact PySem.W.kia_one (PySem.W.kitx_own (cl.get _) cl.hd ha hn htk hm) I.kIn J e (fun z=>nomatch z) h
end
structure Room (k:Nat) (A:Around):Prop where
 hd:A.handled=none
 dp:A.depth+3*k+5 < recursionLimit
 un:A.units+16*k+200 < cLine
 gd:A.guards=some []
theorem Room.mono{j k:Nat}{A:Around}(r:Room k A)(h:j<=k):Room j A:=⟨r.hd,by have:=r.dp;omega,by have:=r.un;omega,r.gd⟩
theorem Room.deeper{k:Nat}{A:Around}(r:Room (k+1) A)(env:Env):Room k (A.deeper env) :=
 ⟨r.hd,by have:=r.dp;show A.depth+1+3*k+5 < _;omega,by have:=r.un;show A.units+3+16*k+200 < _;omega,r.gd⟩
theorem Room.in1{k:Nat}{A:Around}(r:Room (k+1) A):Room k A.in1 :=
 ⟨r.hd,by have:=r.dp;show A.depth+3*k+5 < _;omega,by have:=r.un;show A.units+1+16*k+200 < _;omega,r.gd⟩
theorem amz{A:Around}{C:Addr}{us:List Value}{kw:List (Str×Value)}:(A.under (.builtin "type.__call__" ⟨.ref C::us,kw⟩)).depth=A.depth+1:=by
 first | rfl | simp[Around.under,Code.weight,Code.isCreation,Code.isGuard,Code.isCaller,Code.frames,Code.isFrame,guardIds]
theorem amy{A:Around}{C:Addr}{us:List Value}{kw:List (Str×Value)}:(A.under (.builtin "type.__call__" ⟨.ref C::us,kw⟩)).units=A.units+1:=by
 first | rfl | simp[Around.under,Code.cUnits,Code.frames,Code.isFrame]
theorem aka{A:Around}{C:Addr}{us:List Value}{kw:List (Str×Value)}:(A.under (.builtin "type.__call__" ⟨.ref C::us,kw⟩)).guards=A.guards:=by first | rfl | simp[Around.under,Code.weight,Code.isCreation,Code.isGuard,Code.isCaller,Code.frames,Code.isFrame,guardIds]
theorem Room.make{k:Nat}{A:Around}(r:Room (k+1) A)(C:Addr)(us:List Value)(kw:List (Str×Value)):Room k (A.under (.builtin "type.__call__" ⟨.ref C::us,kw⟩)) :=
 ⟨r.hd,by have:=r.dp;rw[amz];omega,by have:=r.un;rw[amy];omega,by rw[aka];exact r.gd⟩
theorem Room.depth{k:Nat}{A:Around}(r:Room k A):A.depth < recursionLimit:=by have:=r.dp;omega
theorem Room.units{k:Nat}{A:Around}(r:Room k A):A.units+64 < cLine:=by have:=r.un;omega
def tNil:TA:=fun _ H Q=>Q [] H
def a2n(ta:TE)(tr:TA):TA:=fun σ H Q=>ta σ H fun x H1=>tr σ H1 fun xs H2=>Q (x::xs) H2
section
variable{X:Cx}{e:Expr}{es:List Expr}{te:TE}{t:TA}{pos:Pos}
theorem age:PA X [] tNil:=fun _ _ _ _ H Q I h=>Calls.spliced_nil ⟨[],H,I,.nil,h⟩
theorem yh(ha:PE X e te)(hr:PA X es t)(hs:starEach (e::es) X.env=(false,eval e X.env)::starEach es X.env:=by rfl):PA X (e::es) (a2n te t):=by
 intro pos zv s σ H Q I h;rw[hs];show wpAny _ _ (spliced ((false,eval e X.env)::backTo pos (starEach es X.env))) _ _ s;refine Calls.spliced_cons (thn (ha zv s σ H _ I h) fun u s1 ⟨x,H1,I1,r1,q1⟩ =>?_)
 exact thn (hr pos zv s1 σ H1 _ I1 q1) fun us s2 ⟨xs,H2,I2,r2,q2⟩=>⟨x::xs,H2,I2,.cons r1 r2,q2⟩
def tTup(t:TA):TE:=fun σ H Q=>t σ H fun xs H1=>xs.length<=sizeLine/\∀p,H1 p=none->Q (.ref p) (upd H1 p (.tup xs))
def tLst(t:TA):TE:=fun σ H Q=>t σ H fun xs H1=>xs.length<=sizeLine/\∀p,H1 p=none->Q (.ref p) (upd H1 p (.lst xs))
theorem ayq{x1}(h:PA X es t):PE X (.Tuple es x1 pos) (tTup t):=by
 intro zv s σ H Q I hq;refine wpAny_Tuple_spliced (thn (h pos zv s σ H _ I hq) fun us s1 ⟨xs,H1,I1,r,z,q⟩=>⟨by rw[<-r.length];exact z,?_⟩)
 have hf:H1 s1.heap.objs.size=none:=I1.hok.fresh (Nat.le_refl _);refine⟨.ref s1.heap.objs.size,upd H1 s1.heap.objs.size (.tup xs),I1.laid (t':=s1.toks) (fun b u e=>Heap.get?_push_of_some _ e) (Nat.le_refl _) ?_,rfl,q _ hf⟩
 exact⟨z,us,r,⟨_,Heap.get?_push_size _ rfl,rfl,rfl,_,rfl⟩⟩
theorem ayt(h:PA X es t):PE X (.List es pos) (tLst t):=by
 intro zv s σ H Q I hq;refine wpAny_List_spliced (thn (h pos zv s σ H _ I hq) fun us s1 ⟨xs,H1,I1,r,z,q⟩=>⟨by rw[<-r.length];exact z,?_⟩)
 have hf:H1 s1.heap.objs.size=none:=I1.hok.fresh (Nat.le_refl _);refine⟨.ref s1.heap.objs.size,upd H1 s1.heap.objs.size (.lst xs),I1.laid (t':=s1.toks) (fun b u e=>Heap.get?_push_of_some _ e) (Nat.le_refl _) ?_,rfl,q _ hf⟩
 exact⟨z,us,0,r,Heap.get?_push_size _ rfl⟩
end
abbrev Sp:=List V->Hp->VK->XK->Prop
abbrev CXT:=List Env->Hp->Shared->XK->Value->Shared->Prop
structure Env0 (P:Program) (w:World) (K:Fg9) (mg:Str->Option Value) (base:Heap) (A:Around) (outer:List Env) (s:Shared) (H:Hp):Prop where
 frames:A.frames=some outer
 mod:Mod K mg base
 bs:∀b o,base.get? b=some o->s.heap.get? b=some o/\H b=none
 bsz:base.objs.size<=s.heap.objs.size
 funs:s.heap.FunFrames base outer
 frf:∀b∈frs outer,H b=none
 hok:HOk P w H s.heap
 bare:AllBare s.gens
def CE(outer:List Env)(P:Program)(w:World)(H:Hp)(s:Shared)(Q:VK)(u:Value)(s':Shared):Prop :=
 ∃v H',s'.os=s.os/\AllBare s'.gens/\Un (frs outer) [] H H' s.heap s'.heap/\HOk P w H' s'.heap/\RelV v u/\Q v H'
def CR(CX:CXT)(outer:List Env)(P:Program)(w:World)(H:Hp)(s:Shared)(Q:VK)(E:XK)(r:Result)(s':Shared):Prop :=
 match r with
 | .ok (.ret u)=>CE outer P w H s Q u s'
 | .ok _=>False
 | .error e=>CX outer H s E e s'
structure FnOk (P:Program) (w:World) (K:Fg9) (mg:Str->Option Value) (base:Heap) (CX:CXT) (k:Nat) (f:Addr) (fd:FuncData) (ps:List Str) (sp:Sp):Prop where
 len:∀vs H Q E,sp vs H Q E->vs.length=ps.length
 run:∀(A:Around) (outer:List Env) (s:Shared) (H:Hp) (args:Args) (us:List Value) (vs:List V) (Q:VK) (E:XK),Room k A->Env0 P w K mg base A outer s H->BindsTo s fd args (ps.zip us)->Vals vs us->sp vs H Q E ->
  codeAny (model P w) A (.call (.ref f) args) (CR CX outer P w H s Q E) s
theorem FnOk.mono{P:Program}{w:World}{K:Fg9}{mg:Str->Option Value}{base:Heap}{CX:CXT}{j k:Nat}{f:Addr}{fd:FuncData}{ps:List Str}{sp:Sp}(F:FnOk P w K mg base CX j f fd ps sp)(h:j<=k) :
  FnOk P w K mg base CX k f fd ps sp:=⟨F.len,fun A outer s H args us vs Q E hr=>F.run A outer s H args us vs Q E (hr.mono h)⟩
theorem FnOk.imp{P:Program}{w:World}{K:Fg9}{mg:Str->Option Value}{base:Heap}{CX:CXT}{k:Nat}{f:Addr}{fd:FuncData}{ps:List Str}{sp sp':Sp}(F:FnOk P w K mg base CX k f fd ps sp)
  (h:∀vs H Q E,sp' vs H Q E->sp vs H Q E):FnOk P w K mg base CX k f fd ps sp' :=
 ⟨fun vs H Q E q=>F.len vs H Q E (h _ _ _ _ q),fun A outer s H args us vs Q E hr he hb hv hs=>F.run A outer s H args us vs Q E hr he hb hv (h _ _ _ _ hs)⟩
theorem Env0.make{P:Program}{w:World}{K:Fg9}{mg:Str->Option Value}{base:Heap}{A:Around}{outer:List Env}{s:Shared}{H:Hp}(e:Env0 P w K mg base A outer s H)(C:Addr)(us:List Value)(kw:List (Str×Value)) :
  Env0 P w K mg base (A.under (.builtin "type.__call__" ⟨.ref C::us,kw⟩)) outer s H:=⟨by first | exact e.frames | (simpa[Around.under,Code.envs,Code.isFrame,pushEnvs] using e.frames),e.mod,e.bs,e.bsz,e.funs,e.frf,e.hok,e.bare⟩
theorem Env0.in1{P:Program}{w:World}{K:Fg9}{mg:Str->Option Value}{base:Heap}{A:Around}{outer:List Env}{s:Shared}{H:Hp}(e:Env0 P w K mg base A outer s H) :
  Env0 P w K mg base A.in1 outer s H:=⟨e.frames,e.mod,e.bs,e.bsz,e.funs,e.frf,e.hok,e.bare⟩
section
variable{X:Cx}{zv:List (Addr×Obj)}{σ:St}{H:Hp}{s s':Shared}
theorem Inv.env0(I:Inv X zv σ H s):Env0 X.prog X.w X.K X.mg X.base X.A X.stack s H :=
 ⟨I.ok.frames,I.ok.mod,I.bs,Nat.le_trans I.ok.bsz I.sz,I.stack,I.stkFree,I.hok,I.bare⟩
theorem Inv.after{Q:VK}{u:Value}(I:Inv X zv σ H s)(h:CE X.stack X.prog X.w H s Q u s'):EP X zv σ Q u s':=by
 obtain⟨v,H',os,bare,un,hok,r,q⟩:=h;obtain⟨hh,g,d,t,os'⟩:=s';obtain rfl:os'=s.os:=os;exact⟨v,H',I.call (h':=hh) (g':=g) (d':=d) (t':=t) (ch:=[]) un hok bare (fun b z=>absurd z (by simp)),r,q⟩
end
def ax1(sp:Sp)(dvs:List V)(E:XK)(t:TA):TE:=fun σ H Q=>t σ H fun vs H1=>sp (vs++dvs) H1 Q E
def a2k(C:Addr)(m:Str)(sp:Sp)(dvs:List V)(E:XK)(ta:TE)(t:TA):TE:=fun σ H Q=>ta σ H fun x H1=>∃a dx fs,x=.ref a/\H1 a=some (.ins C dx fs)/\fs.lookup m=none /\
 t σ H1 fun vs H2=>sp (x::(vs++dvs)) H2 Q E
def a2l(C:Addr)(sp:Sp)(dvs:List V)(E:XK)(t:TA):TE:=fun σ H Q=>t σ H fun vs H1=>∀x dx,H1 x=none->H1 dx=none->dx≠x ->
 sp (.ref x::(vs++dvs)) (upd (upd H1 dx (.own x)) x (.ins C dx [])) (fun v H2=>v=.non/\Q (.ref x) H2) E
def Binds(K:Fg9)(fd:FuncData)(ps:List Str)(ds:List Value):Prop :=
 ∀(s:Shared) (us:List Value),K.In s.heap->(us++ds).length=ps.length->BindsTo s fd ⟨us,[]⟩ (ps.zip (us++ds))
theorem Binds.all{K:Fg9}{fd:FuncData}{ps:List Str}(h:∀us:List Value,us.length=ps.length->bindArgs fd ⟨us,[]⟩=pure (ps.zip us)):Binds K fd ps []:=fun s us _ hl=>by
 rw[List.append_nil] at hl ⊢
 exact .of_eq (h us hl)
def agn(CX:CXT)(X:Cx)(E:XK):Prop:=∀(zv:List (Addr×Obj)) (σ:St) (H:Hp) (s:Shared) (e:Value) (s':Shared),Inv X zv σ H s->CX X.stack H s E e s'->X.xe e s'
section
variable{X:Cx}{CX:CXT}{k:Nat}{f C:Addr}{fd:FuncData}{ps:List Str}{sp:Sp}{dvs:List V}{ds:List Value}{E:XK}{x m:Str}{p pos apos:Pos}{e o:Expr}{es:List Expr}{ta:TE}{t:TA}
theorem atp{zv:List (Addr×Obj)}{σ:St}{H:Hp}{s:Shared}{Q:VK}{us:List Value}{vs:List V}(F:FnOk X.prog X.w X.K X.mg X.base CX k f fd ps sp)(hr:Room k X.A)(hb:Binds X.K fd ps ds)(hd:Vals dvs ds)(hx:agn CX X E)
  (I:Inv X zv σ H s) (r:Vals vs us) (h:sp (vs++dvs) H Q E):wpAny (model X.prog X.w) X.A (call (.ref f) us) (EP X zv σ Q) X.xe s:=by
 have r2:Vals (vs++dvs) (us++ds):=r.append hd;have hl:(us++ds).length=ps.length:=by rw[<-r2.length];exact F.len _ _ _ _ h
 refine wpAny_call (codeAny_mono (F.run X.A X.stack s H ⟨us,[]⟩ (us++ds) (vs++dvs) Q E hr I.env0 (hb s us I.kIn hl) r2 h) fun r s' hq =>?_)
 cases r with
 | error e=>exact hx zv σ H s e s' I hq
 | ok fl =>
  cases fl with
  | ret u=>exact I.after hq
  | next=>exact False.elim hq
  | brk=>exact False.elim hq
  | cont=>exact False.elim hq
theorem avr(F:FnOk X.prog X.w X.K X.mg X.base CX k f fd ps sp)(hr:Room k X.A)(hg:Gl X x)(hm:X.mg x=some (.ref f))(hk:keepIn X.K (.ref f)=true)(hb:Binds X.K fd ps ds)(hd:Vals dvs ds)(hx:agn CX X E)
  (ha:PA X (e::es) t) (hdb:(x==("__debug__" : Str))=false:=by decide) (he:starEach (e::es) X.env=(false,eval e X.env)::starEach es X.env:=by rfl) (hpl:(backTo pos (starEach es X.env)).any (·.1)=false:=by rfl) :
  PE X (.Call (.Name x p) (e::es) [] pos) (ax1 sp dvs E t):=by
 intro zv s σ H Q I h;refine wpAny_Call_Name_kw (akd I hg hm ?_ hdb);refine PySem.W.callWith_K (h₀:=X.base) I.ok.mod.kin hk (thn (ha pos zv s σ H _ I h) fun us s1 ⟨vs,H1,I1,r,q⟩=>⟨I1.kIn,?_⟩) he hpl
 exact atp F hr hb hd hx I1 r q
theorem avm{pl:Sem Bool}(he:PE X o ta)(c:Cls X.K C)(hm:Meth X.K C m f)(F:FnOk X.prog X.w X.K X.mg X.base CX k f fd ps sp)(hr:Room k X.A)(hb:Binds X.K fd ps ds)(hd:Vals dvs ds)(hx:agn CX X E)(ha:PA X (e::es) t)
  (hst:starEach (e::es) X.env=(false,eval e X.env)::starEach es X.env:=by rfl) (hpl:(backTo pos (starEach es X.env)).any (·.1)=false:=by rfl)
  (ht:eval (.Call (.Attribute o m apos) (e::es) [] pos) X.env=(do
   let ov <-eval o X.env
   standAt apos.atName
   let (f,first) <-holding [ov] (getMethod ov m pl)
   callWith pos f first (backTo pos (starEach (e::es) X.env)) (backToKw pos (keywordEach [] X.env))):=by rfl) :
  PE X (.Call (.Attribute o m apos) (e::es) [] pos) (a2k C m sp dvs E ta t):=by
 intro zv s σ H Q I h;refine PySem.W.methodCall_KW (pl:=pl) (thn (he zv s σ H _ I h) fun u s1 ⟨x,H1,I1,rx,a,dx,fs,ex,ea,l,q⟩ =>?_) ht
 subst ex;obtain rfl:u=Value.ref a:=rx;refine am6 I1 ea c hm l ?_;refine PySem.W.callWith_K (first:=[.ref a]) (h₀:=X.base) I.ok.mod.kin hm.kp (thn (ha pos zv s1 σ H1 _ I1 q) fun us s2 ⟨vs,H2,I2,r,q2⟩=>⟨I2.kIn,?_⟩) hst hpl
 exact atp (us:=.ref a::us) (vs:=.ref a::vs) F hr hb hd hx I2 (.cons rfl r) q2
structure Mk (K:Fg9) (C f:Addr):Prop where
 makes:PySem.W.makesIn K C=true
 init:findIn K (.ref C) "__init__" = some (some (.ref f))
 fn:PySem.W.isFn K (.ref f)=true
 kp:keepIn K (.ref C)=true
theorem ark{zv:List (Addr×Obj)}{σ:St}{H:Hp}{s:Shared}{Q:VK}{us:List Value}{vs:List V}(M:Mk X.K C f)(F:FnOk X.prog X.w X.K X.mg X.base CX k f fd ps sp)(hr:Room (k+1) X.A)(hb:Binds X.K fd ps ds)(hd:Vals dvs ds)
  (hx:agn CX X E) (I:Inv X zv σ H s) (r:Vals vs us)
  (h:∀x dx,H x=none->H dx=none->dx≠x->sp (.ref x::(vs++dvs)) (upd (upd H dx (.own x)) x (.ins C dx [])) (fun v H2=>v=.non/\Q (.ref x) H2) E) :
  wpAny (model X.prog X.w) X.A (call (.ref C) us) (EP X zv σ Q) X.xe s:=by
 have hq:=h (s.heap.objs.size+1) s.heap.objs.size (I.hok.fresh (Nat.le_succ _)) (I.hok.fresh (Nat.le_refl _)) (Nat.ne_of_lt (Nat.lt_succ_self _));have I2:=Inv.made (C:=C) I;have r2:Vals (V.ref (s.heap.objs.size+1)::(vs++dvs)) (Value.ref (s.heap.objs.size+1)::(us++ds)):=.cons rfl (r.append hd);have hl:(Value.ref (s.heap.objs.size+1)::us++ds).length=ps.length:=by
  have e:=r2.length;rw[F.len _ _ _ _ hq] at e;exact e.symm
 refine wpAny_call (asd (f:=f) I.kIn M.makes M.init (beq_iff_eq.mp M.fn) (codeAny_mono (F.run _ X.stack _ _ ⟨Value.ref (s.heap.objs.size+1)::us,[]⟩ (Value.ref (s.heap.objs.size+1)::(us++ds)) _ _ E (hr.make C us [])
  (I2.env0.make C us []) (hb _ (Value.ref (s.heap.objs.size+1)::us) I2.kIn hl) r2 hq) fun r s' hq' =>?_))
 cases r with
 | error e=>exact hx zv σ _ _ e s' I2 hq'
 | ok fl =>
  cases fl with
  | ret u =>
   obtain⟨v,H',I3,rv,ev,q3⟩:=I2.after hq';subst ev;exact⟨rv,⟨V.ref (s.heap.objs.size+1),H',I3,rfl,q3⟩⟩
  | next=>exact False.elim hq'
  | brk=>exact False.elim hq'
  | cont=>exact False.elim hq'
theorem avn(M:Mk X.K C f)(F:FnOk X.prog X.w X.K X.mg X.base CX k f fd ps sp)(hr:Room (k+1) X.A)(hg:Gl X x)(hm:X.mg x=some (.ref C))(hb:Binds X.K fd ps ds)(hd:Vals dvs ds)(hx:agn CX X E)
  (ha:PA X (e::es) t) (hdb:(x==("__debug__" : Str))=false:=by decide) (he:starEach (e::es) X.env=(false,eval e X.env)::starEach es X.env:=by rfl) (hpl:(backTo pos (starEach es X.env)).any (·.1)=false:=by rfl) :
  PE X (.Call (.Name x p) (e::es) [] pos) (a2l C sp dvs E t):=by
 intro zv s σ H Q I h;refine wpAny_Call_Name_kw (akd I hg hm ?_ hdb);refine PySem.W.callWith_K (h₀:=X.base) I.ok.mod.kin M.kp (thn (ha pos zv s σ H _ I h) fun us s1 ⟨vs,H1,I1,r,q⟩=>⟨I1.kIn,?_⟩) he hpl
 exact ark M F hr hb hd hx I1 r q
end
section
variable{X:Cx}{CX:CXT}{k:Nat}{f C:Addr}{fd:FuncData}{ps ks:List Str}{sp:Sp}{E:XK}{x m:Str}{p pos apos kpos:Pos}{e o:Expr}{es:List Expr}{kws:List Keyword}{te ta:TE}{t tk:TA}{nm:Option Str}
structure KBinds (K:Fg9) (fd:FuncData) (ps ks:List Str) (g:List Value->List Value->List Value) (gV:List V->List V->List V):Prop where
 to:∀(s:Shared) (us ws:List Value),K.In s.heap->(g us ws).length=ps.length->BindsTo s fd ⟨us,ks.zip ws⟩ (ps.zip (g us ws))
 rel:∀{vs:List V} {us:List Value} {zs:List V} {ws:List Value},Vals vs us->Vals zs ws->Vals (gV vs zs) (g us ws)
variable{g:List Value->List Value->List Value}{gV:List V->List V->List V}
end
structure FnScope (N P:List Str) (sc:Scope):Prop where
 kind:sc.kind=.function
 co:sc.isCoroutine=false
 gen:sc.isGenerator=false
 nd:N.Nodup
 pre:N.take P.length=P
 par:∀x∈P,sc.names.lookup x=some .local∨sc.names.lookup x=some .cell
 nofree:∀y∈sc.names,y.2≠.free
theorem ajo{kindOf:Str->Option NameKind}{x:Str}:∀{binds:List (Str×Value)} {m:Str->Option Value},(∀v,(x,v)∉binds)->bindL kindOf binds m x=m x
 | [],_,_=>rfl
 | (n,v)::r,m,h=>by
  unfold bindL;rw[ajo fun w hw=>h w (List.mem_cons_of_mem _ hw)]
  split
  ·have:x≠n:=by rintro rfl;exact h v List.mem_cons_self
   simp[this]
  ·rfl
theorem ajq{kindOf:Str->Option NameKind}{x:Str}:∀{binds:List (Str×Value)} {m:Str->Option Value},(∀v,(x,v)∉binds)->bindC kindOf binds m x=m x
 | [],_,_=>rfl
 | (n,v)::r,m,h=>by
  unfold bindC;rw[ajq fun w hw=>h w (List.mem_cons_of_mem _ hw)]
  split
  ·rfl
  ·have:x≠n:=by rintro rfl;exact h v List.mem_cons_self
   simp[this]
theorem ajp{kindOf:Str->Option NameKind}{x:Str}{v:Value}:∀{P:List Str} {vs:List Value} {i:Nat} {m:Str->Option Value},P.Nodup->P[i]? = some x->vs[i]? = some v->kindOf x=some .local ->
  bindL kindOf (P.zip vs) m x=some v
 | [],_,_,_,_,h,_,_=>by simp at h
 | _::_,[],_,_,_,_,h,_=>by simp at h
 | p::P,w::vs,0,m,nd,h1,h2,hk=>by
  simp at h1 h2;subst h1;subst h2;show bindL kindOf ((p,w)::P.zip vs) m p=_;unfold bindL;rw[ajo fun v hv=>(List.nodup_cons.mp nd).1 (List.of_mem_zip hv).1,if_pos hk]
  simp
 | p::P,w::vs,i+1,m,nd,h1,h2,hk=>by
  show bindL kindOf ((p,w)::P.zip vs) m x=_;unfold bindL;exact ajp (i:=i) (List.nodup_cons.mp nd).2 (by simpa using h1) (by simpa using h2) hk
theorem ajr{kindOf:Str->Option NameKind}{x:Str}{v:Value}:∀{P:List Str} {vs:List Value} {i:Nat} {m:Str->Option Value},P.Nodup->P[i]? = some x->vs[i]? = some v->kindOf x≠some .local ->
  bindC kindOf (P.zip vs) m x=some v
 | [],_,_,_,_,h,_,_=>by simp at h
 | _::_,[],_,_,_,_,h,_=>by simp at h
 | p::P,w::vs,0,m,nd,h1,h2,hk=>by
  simp at h1 h2;subst h1;subst h2;show bindC kindOf ((p,w)::P.zip vs) m p=_;unfold bindC;rw[ajq fun v hv=>(List.nodup_cons.mp nd).1 (List.of_mem_zip hv).1,if_neg hk]
  simp
 | p::P,w::vs,i+1,m,nd,h1,h2,hk=>by
  show bindC kindOf ((p,w)::P.zip vs) m x=_;unfold bindC;exact ajr (i:=i) (List.nodup_cons.mp nd).2 (by simpa using h1) (by simpa using h2) hk
def start(N:List Str)(vs:List V):St:=vs.map some++List.replicate (N.length - vs.length) none
def cxOf(CX:CXT)(P:Program)(w:World)(K:Fg9)(mg:Str->Option Value)(base:Heap)(N:List Str)(qual:Str)(scope:Scope)(f:Addr)(cd:Value)(A:Around)(outer:List Env)(s:Shared)(H:Hp)(E:XK):Cx where
 prog:=P
 w:=w
 K:=K
 mg:=mg
 base:=base
 A:=A.deeper (envOfC qual scope s.heap.objs.size f cd)
 N:=N
 s₀:=s
 H₀:=H
 env:=envOfC qual scope s.heap.objs.size f cd
 outer:=outer
 stack:=envOfC qual scope s.heap.objs.size f cd::outer
 ex:=[]
 calm:=true
 fn:=fun _=>true
 pn:=[]
 xe:=fun e s'=>wpAny (model P w) (A.deeper (envOfC qual scope s.heap.objs.size f cd)) (leaving (envOfC qual scope s.heap.objs.size f cd) e) (fun _ s''=>CX outer H s E e s'') (fun e' s''=>CX outer H s E e' s'') s'
theorem al2{sc:Scope}{n:Nat}{x:Str}(h:sc.names.lookup x=some .cell):∃c,(cellsFrom n sc.names []).lookup x=some c:=by
 have q:=PySem.W.cellsFrom_some sc.names n [] (.inl h);exact Option.isSome_iff_exists.mp q
theorem ape{CX:CXT}{P:Program}{w:World}{K:Fg9}{mg:Str->Option Value}{base:Heap}{N ps:List Str}{qual:Str}{scope:Scope}{f:Addr}{cd:Value}{A:Around}{outer:List Env}{s s1:Shared}{H:Hp}{E:XK}{us:List Value}{vs:List V}
  (S:FnScope N ps scope) (hd:A.handled=none) (e0:Env0 P w K mg base A outer s H) (hl:vs.length=ps.length) (r:Vals vs us)
  (x:InCallC s s.heap.objs.size (bindL (envOfC qual scope s.heap.objs.size f cd).kindOf (ps.zip us) fun _=>none) (cellsFrom (s.heap.objs.size+1) scope.names []) (bindC (envOfC qual scope s.heap.objs.size f cd).kindOf (ps.zip us) fun _=>none) s1) :
  Inv (cxOf CX P w K mg base N qual scope f cd A outer s H E) [] (start N vs) H s1:=by
 have hpl:ps.length<=N.length:=by have:=congrArg List.length S.pre;rw[List.length_take] at this;omega
 obtain⟨h1,tk,rfl,hk⟩:=x.done;have noA:∀b:Addr,b∉(cxOf CX P w K mg base N qual scope f cd A outer s H E).ex:=fun b z=>absurd (show b∈([]:List Addr) from z) (by simp)
 refine⟨⟨e0.mod,S.kind,rfl,rfl,Nat.le_refl _,fun y z c h1 h2 =>?_,fun y hy =>?_,fun y c _ h =>?_,fun _=>hd,Around.frames_deeper e0.frames,.inr ⟨rfl,rfl⟩,fun b z=>absurd z (noA b),e0.bs,e0.bsz,fun b _ _=>noA b,fun b z=>absurd z (noA b),e0.funs,e0.frf⟩,
  rfl,e0.bare,Un.kept hk,⟨_,x.toInCall.ns,fun i y v h1 h2 h3 =>?_⟩,fun y c h=>⟨_,x.cell y c h⟩,e0.hok.fresh (Nat.le_refl _),fun y c h =>?_,fun p hp=>absurd (show p∈([]:List (Addr×Obj)) from hp) (by simp),e0.hok.kept hk,?_⟩
 ·exact name_of_addr x.apart (PySem.mem_of_lookup h1) (PySem.mem_of_lookup h2)
 ·have hy:scope.names.lookup y=some .cell∨scope.names.lookup y=some .free:=hy;rcases hy with hy | hy
  ·exact al2 hy
  ·exact absurd rfl (S.nofree _ (PySem.mem_of_lookup hy))
 ·exact Nat.le_of_lt (x.above y c (PySem.mem_of_lookup h))
 ·have hi:i < vs.length:=by
   unfold start at h2
   by_cases hi:i < vs.length
   ·exact hi
   ·rw[List.getElem?_append_right (by simpa using hi)] at h2
    rw[List.getElem?_replicate] at h2;split at h2 <;> cases h2
  have ha:vs[i]? = some v:=by
   unfold start at h2;rw[List.getElem?_append_left (by simpa using hi),List.getElem?_map] at h2
   cases e:vs[i]? with
   | none=>rw[e] at h2;cases h2
   | some a=>rw[e] at h2;cases h2;rfl
  obtain⟨u,hu,rv⟩:=r.get ha;have hp:ps[i]? = some y:=by
   rw[<-S.pre,List.getElem?_take_of_lt (by omega)];exact h1
  have ndP:ps.Nodup:=by rw[<-S.pre];exact S.nd.sublist (List.take_sublist _ _)
  refine⟨u,rv,?_⟩;rcases S.par y (List.mem_of_getElem? hp) with k | k
  ·exact .inl ⟨k,ajp ndP hp hu k⟩
  ·obtain⟨c,e⟩:=al2 (n:=s.heap.objs.size+1) k;refine .inr ⟨.inl k,c,e,?_⟩;have q:=x.cell y c e;rw[ajr ndP hp hu (by show scope.names.lookup y≠_;rw[k];decide)] at q
   exact q
 ·exact e0.hok.fresh (Nat.le_of_lt (x.above y c (PySem.mem_of_lookup h)))
 ·unfold start;show _=N.length;rw[List.length_append,List.length_map,List.length_replicate];omega
theorem a5a{CX:CXT}{P:Program}{w:World}{K:Fg9}{mg:Str->Option Value}{base:Heap}{k:Nat}{f:Addr}{name qual:Str}{params:Arguments}{body:List Stmt}{scope:Scope}{dV kV doc pm cdv ct oc:Value}{an od:Option Addr}
  {osl:Array (Option Value)} {N ps:List Str} {sp:Sp} (lk:K.lookup f=some ⟨oc,od,.func (fnOf name qual params body scope dV kV doc pm an cdv ct),osl⟩) (hcd:codeIn K cdv qual=true) (S:FnScope N ps scope)
  (len:∀vs H Q E,sp vs H Q E->vs.length=ps.length)
  (hbody:∀(A:Around) (outer:List Env) (s:Shared) (H:Hp) (vs:List V) (Q:VK) (E:XK),Room k (A.deeper (envOfC qual scope s.heap.objs.size f cdv))->sp vs H Q E ->
   ∃t,PSs (cxOf CX P w K mg base N qual scope f cdv A outer s H E) body t/\t { nx:=fun _ H'=>Q .non H',rt:=Q } (start N vs) H) :
  FnOk P w K mg base CX (k+1) f (fnOf name qual params body scope dV kV doc pm an cdv ct) ps sp:=by
 refine⟨len,fun A outer s H args us vs Q E hr e0 hb r hsp =>?_⟩
 have hl:=len _ _ _ _ hsp;have KX:K.In s.heap:=e0.mod.kin.keeps fun b o e=>(e0.bs b o e).1
 have lim:s.heap.NoLimit:=e0.mod.nolimit.keeps fun b o e=>(e0.bs b o e).1
 have hkind:∀y∈ps.zip us,scope.names.lookup y.1=some .local∨(scope.names.lookup y.1=some .cell/\((cellsFrom (s.heap.objs.size+1) scope.names []).lookup y.1).isSome=true):=fun⟨n,v⟩ hy=>by
  rcases S.par n (List.of_mem_zip hy).1 with q | q
  ·exact .inl q
  ·exact .inr ⟨q,PySem.W.cellsFrom_some _ _ _ (.inl q)⟩
 refine codeAny_call_function hr.depth (KX _ _ lk) rfl S.co S.gen rfl (PySem.W.codeRec_of KX hcd) (hb _ _ _ _ ?_);refine wpAny_newFunctionEnv_cells S.kind hkind fun env he s1 x =>?_
 subst he;refine⟨lim.keeps x.toInCall.keep,codeAny_func ?_⟩;obtain⟨t,ht,hq⟩:=hbody A outer s H vs Q E (hr.deeper _) hsp;have I:Inv (cxOf CX P w K mg base N qual scope f cdv A outer s H E) [] (start N vs) H s1:=ape S hr.hd e0 hl r x;refine wpAny_mono (ht [] s1 (start N vs) H _ I hq) (fun fl s' hs =>?_) fun e s' hs=>hs
 have fin:∀{σ':St} {H':Hp} {v:V} {u:Value},Inv (cxOf CX P w K mg base N qual scope f cdv A outer s H E) [] σ' H' s'->RelV v u->Q v H'->CE outer P w H s Q u s' :=
  fun{σ' H' v u} J rv q=>⟨v,H',J.os,J.bare,J.base,J.hok,rv,q⟩
 cases fl with
 | ret u =>
  obtain⟨v,σ',H',J,rv,q⟩:=hs;exact fin J rv q
 | next =>
  obtain⟨σ',H',J,q⟩:=hs;exact fin (v:=V.non) (u:=Value.none) J rfl q
 | brk =>
  obtain⟨_,_,_,q⟩:=hs;exact False.elim q
 | cont =>
  obtain⟨_,_,_,q⟩:=hs;exact False.elim q
section
variable{X:Cx}{x:Str}{p pos:Pos}{e:Expr}{es:List Expr}{t:TA}{id T:String}{r:List V->Hp->VK->Prop}
def tCB(r:List V->Hp->VK->Prop)(t:TA):TE:=fun σ H Q=>t σ H fun vs H1=>r vs H1 Q
theorem ag5(hc:yp X (.builtin id) r)(hg:Gl X x)(hm:X.mg x=none)(hv:bootBuiltins x=some (.builtin id))(ha:PA X (e::es) t)(hn:x ≠ "__name__" := by decide)(hdb:(x==("__debug__" : Str))=false:=by decide)
  (he:starEach (e::es) X.env=(false,eval e X.env)::starEach es X.env:=by rfl) (hpl:(backTo pos (starEach es X.env)).any (·.1)=false:=by rfl):PE X (.Call (.Name x p) (e::es) [] pos) (tCB r t):=by
 intro zv s σ H Q I h;refine wpAny_Call_Name_kw (ae2 I hg hm hv ?_ hn hdb);exact PyProof.Rows.callWith_builtin1 (thn (ha pos zv s σ H _ I h) fun us s1 ⟨vs,H1,I1,r1,q1⟩=>hc zv s1 σ H1 vs us Q I1 r1 q1) he hpl
theorem ack(hc:yp X (.type T) r)(hg:Gl X x)(hm:X.mg x=none)(hv:bootBuiltins x=some (.type T))(ha:PA X (e::es) t)(hn:x ≠ "__name__" := by decide)(hdb:(x==("__debug__" : Str))=false:=by decide)
  (he:starEach (e::es) X.env=(false,eval e X.env)::starEach es X.env:=by rfl) (hpl:(backTo pos (starEach es X.env)).any (·.1)=false:=by rfl):PE X (.Call (.Name x p) (e::es) [] pos) (tCB r t):=by
 intro zv s σ H Q I h;refine wpAny_Call_Name_kw (ae2 I hg hm hv ?_ hn hdb);exact PyProof.Rows.callWith_type1 (thn (ha pos zv s σ H _ I h) fun us s1 ⟨vs,H1,I1,r1,q1⟩=>hc zv s1 σ H1 vs us Q I1 r1 q1) he hpl
end
end L2
namespace HT
open PySem PyProof.Rows
section
open PySem.SeqAt
open PySem.AutoSeq1 (wpAny_loadPart')
open PySem.MeetsSeq PySem.MeetsSeq2 PySem.MeetsSeq3
end
section
variable{prog:Program}{w:World}{A:Around}{E:Value->Shared->Prop}{s:Shared}
theorem axd{t b:Addr}{vs ws:List Value}{Q:Value->Shared->Prop}(ht:IsTup s.heap t vs.toArray)(hb:IsTup s.heap b ws.toArray)(hv:vs≠[])
  (h1:ws=[]->Q (.ref t) s) (h2:ws≠[]->Q (.ref s.heap.objs.size) { s with heap:=s.heap.push { cls:=.type "tuple", data:=.seq (vs++ws).toArray } })
  (hsz:vs.length+ws.length<=sizeLine):wpAny (model prog w) A (binaryOp .Add (.ref t) (.ref b)) Q E s:=by
 obtain⟨⟨cls,dd,data,sl⟩,ho,hc,n,hd⟩:=id ht;obtain⟨⟨cls2,dd2,data2,sl2⟩,ho2,hc2,n2,hd2⟩:=id hb;simp only at hc hd hc2 hd2;subst hc hd hc2 hd2;have e:vs.toArray++ws.toArray=(vs++ws).toArray:=by simp
 by_cases hw:ws=[]
 ·exact concat_meets ⟨_,ho,rfl⟩ ⟨_,ho2,rfl⟩ noFill_tuple_add seq_tuple_add PySem.F.slot_tuple_add PySem.F.entry_tuple_add (PySem.F.args_tuple_add_2 _ _)
   (tuple_addW1 t b vs.toArray ws.toArray n n2 dd dd2 sl sl2 (by simpa using hv) (by simp[hw])) ⟨ho,ho2,h1 hw⟩
 ·refine concat_meets ⟨_,ho,rfl⟩ ⟨_,ho2,rfl⟩ noFill_tuple_add seq_tuple_add PySem.F.slot_tuple_add PySem.F.entry_tuple_add (PySem.F.args_tuple_add_2 _ _)
   (tuple_addW2 t b vs.toArray ws.toArray n n2 dd dd2 sl sl2 (by simpa using hv) (by simpa using hw) (by rw[List.size_toArray,List.size_toArray];exact hsz)) ⟨ho,ho2,?_⟩
  rw[e];exact h2 hw
def sIx(n d:Nat):Option Int->Nat
 | none=>d
 | some v=>if v < 0 then (v+(n:Int)).toNat else min v.toNat n
theorem ax8(n d:Nat)(hd:d<=n)(o:Option Int):sIx n d o<=n:=by
 cases o with
 | none=>exact hd
 | some v =>
  show(if v < 0 then (v+(n:Int)).toNat else min v.toNat n)<=n
  by_cases hv:v < 0
  ·rw[if_pos hv];omega
  ·rw[if_neg hv];exact Nat.min_le_right _ _
theorem ap8(v:Int)(n d:Nat):(if v < 0 then max (v+(n:Int)) 0 else min v (n:Int))=((sIx n d (some v):Nat):Int):=by
 show(if v < 0 then max (v+(n:Int)) 0 else min v (n:Int))=(((if v < 0 then (v+(n:Int)).toNat else min v.toNat n):Nat):Int)
 by_cases hv:v < 0
 ·simp only[if_pos hv];omega
 ·simp only[if_neg hv];omega
theorem anc(lo hi:Option Int)(n:Nat):Builtin.Slice.sliceAdjust lo hi 1 (n:Int)=(((sIx n 0 lo:Nat):Int),((sIx n n hi:Nat):Int)):=by
 have h1:¬((1:Int) < 0):=by omega
 unfold Builtin.Slice.sliceAdjust;simp only[h1,if_false];refine Prod.ext ?_ ?_
 ·cases lo with
  | none=>rfl
  | some v=>exact ap8 v n 0
 ·cases hi with
  | none=>rfl
  | some v=>exact ap8 v n n
theorem amo(i j:Nat):Builtin.Slice.slicePlaces (i:Int) (j:Int) 1=j - i:=by
 unfold Builtin.Slice.slicePlaces;have h1:(1:Int) > 0:=by omega
 simp only[h1,if_true,Int.ediv_one];split <;> omega
theorem af9{v:Value}{o:Option Int}{Q:Option Int->Shared->Prop}(p:IsPart v o)(h:Q o s):wpAny (model prog w) A (Builtin.Slice.slicePartIndex v) Q E s:=by
 cases p with
 | none=>exact slicePart_none h
 | int i t=>exact slicePart_int h
theorem aaq{sl:Addr}{vl vu:Value}{lo hi:Option Int}{n:Nat}{Q:Int×Int×Nat->Shared->Prop}(hs:s.heap.IsSliceOf sl vl vu .none)(pl:IsPart vl lo)(pu:IsPart vu hi)
  (h:Q (((sIx n 0 lo:Nat):Int),1,sIx n n hi - sIx n 0 lo) s):wpAny (model prog w) A (Builtin.Slice.sliceApplied (.ref sl) (pure (n:Int))) Q E s:=by
 obtain⟨os,hos,hcs,hds⟩:=id hs;unfold Builtin.Slice.sliceApplied Builtin.Slice.sliceFields;refine wpAny_bind (wpAny_bind (wpAny_field hos hds (x:=vl) rfl (wpAny_bind (wpAny_field hos hds (x:=vu) rfl (wpAny_bind (wpAny_field hos hds (x:=.none) rfl (wpAny_pure ?_)))))));refine wpAny_bind (slicePart_none ?_);show wpAny _ _ (if ((1:Int)==0)=true then _ else _) _ _ s
 rw[if_neg (by decide)]
 refine wpAny_bind (af9 pl (wpAny_bind (af9 pu (wpAny_bind (wpAny_pure ?_)))));show wpAny _ _ (match Builtin.Slice.sliceAdjust lo hi 1 (n:Int) with | (lo,hi)=>pure (lo,(1:Int),Builtin.Slice.slicePlaces lo hi 1)) _ _ s
 rw[anc lo hi n];show wpAny _ _ (pure (((sIx n 0 lo:Nat):Int),(1:Int),Builtin.Slice.slicePlaces ((sIx n 0 lo:Nat):Int) ((sIx n n hi:Nat):Int) 1)) _ _ s;rw[amo];exact wpAny_pure h
theorem arw(xs:Array Value)(i k:Nat):((List.range k).filterMap fun(m:Nat)=>xs[((i:Int)+(m:Int)*1).toNat]?).toArray=((xs.toList.drop i).take k).toArray:=by
 have e:(fun(m:Nat)=>xs[((i:Int)+(m:Int)*1).toNat]?)=fun m=>xs[i+m]? := by
  funext m
  have:((i:Int)+(m:Int)*1).toNat=i+m:=by omega
  rw[this]
 rw[e];have:=pick_run xs i k;rw[List.filterMap_map] at this;have e2:((fun x=>xs[x]?)∘fun x=>i+x)=fun m=>xs[i+m]? := rfl
 rw[e2] at this;rw[this]
theorem ado{t sl:Addr}{items:Array Value}{vl vu:Value}{lo hi:Option Int}{Q:Value->Shared->Prop}(ht:IsTup s.heap t items)(hs:s.heap.IsSliceOf sl vl vu .none)(pl:IsPart vl lo)(pu:IsPart vu hi)
  (hw:¬(sIx items.size 0 lo=0/\sIx items.size items.size hi=items.size))
  (h:Q (.ref s.heap.objs.size) { s with heap:=s.heap.push { cls:=.type "tuple", data:=.seq ((items.toList.drop (sIx items.size 0 lo)).take (sIx items.size items.size hi - sIx items.size 0 lo)).toArray } })
  (hsz:items.size<=sizeLine):wpAny (model prog w) A (getItem (.ref t) (.ref sl)) Q E s:=by
 have htake:sizeOk (.seq ((items.toList.drop (sIx items.size 0 lo)).take (sIx items.size items.size hi - sIx items.size 0 lo)).toArray):=by
  show((items.toList.drop (sIx items.size 0 lo)).take (sIx items.size items.size hi - sIx items.size 0 lo)).toArray.size<=sizeLine;rw[List.size_toArray,List.length_take,List.length_drop,Array.length_toList];omega
 have hj:sIx items.size items.size hi<=items.size:=ax8 _ _ (Nat.le_refl _) hi;obtain⟨os,hos,hcs,hds⟩:=id hs;have hTs:s.TypeIs (.ref sl) "slice" := ⟨os,hos,hcs⟩;unfold getItem
 try with_reducible refine wpAny_holding ?_
 first | refine wpAny_bind (wpAny_pure ?_) | skip
 refine wpAny_bind (wpAny_sequenceKey ht.typeIs (by decide) ?_)
 refine wpAny_bind (wpAny_callSpecial?_slot (name:=Str.ofString "__getitem__") ht.typeIs PyProof.Rows.slot_tuple_getitem
  (wpAny_call_entry PyProof.Rows.slot_tuple_getitem ht.typeIs entry_tuple_getitem ?_ (args_tuple_getitem _ _)))
 show wpAny _ _ (Builtin.Tuple.tupleItemsOf (.ref t) >>= _) _ _ s;refine wpAny_bind (tupleItemsOf_ ht ?_);refine wpAny_bind (wpAny_typeOf hTs ?_);rw[if_pos (by decide)]
 refine wpAny_bind (aaq hs pl pu ?_);have hno:¬((((sIx items.size 0 lo:Nat):Int)==0&&(1:Int)==1&&(sIx items.size items.size hi - sIx items.size 0 lo)==items.size)=true):=by
  intro q;rw[Bool.and_eq_true,Bool.and_eq_true] at q;have q1:((sIx items.size 0 lo:Nat):Int)=0:=eq_of_beq q.1.1;have q2:sIx items.size items.size hi - sIx items.size 0 lo=items.size:=eq_of_beq q.2;exact hw ⟨by omega,by omega⟩
 show wpAny _ _ (if (((sIx items.size 0 lo:Nat):Int)==0&&(1:Int)==1&&(sIx items.size items.size hi - sIx items.size 0 lo)==items.size)=true then _ else _) _ _ s
 rw[if_neg hno,arw]
 first
  | exact wpAny_bind (m:=Builtin.Tuple.tupleExact _) (wpAny_newObj_type (wpAny_pure ⟨_,rfl,wpAny_pure h⟩) htake)
  | exact wpAny_bind (m:=Builtin.Tuple.tupleExact _) (wpAny_newObj_type (wpAny_bind (wpAny_pure (wpAny_pure ⟨_,rfl,wpAny_pure h⟩))) htake)
  | exact wpAny_bind (wpAny_bind (m:=Builtin.Tuple.tupleExact _) (wpAny_newObj_type (wpAny_pure (wpAny_pure ⟨_,rfl,wpAny_pure h⟩)) htake))
  | exact wpAny_bind (wpAny_bind (m:=Builtin.Tuple.tupleExact _) (wpAny_newObj_type (wpAny_pure ⟨_,rfl,wpAny_pure h⟩) htake))
end
end HT
namespace L2
abbrev TO:=St->Hp->(Option Int->Hp->Prop)->Prop
def PO(X:Cx)(e:Option Expr)(t:TO):Prop :=
 ∀(zv:List (Addr×Obj)) (s:Shared) (σ:St) (H:Hp) (Q:Option Int->Hp->Prop),Inv X zv σ H s->t σ H Q ->
  wpAny (model X.prog X.w) X.A (evalPart e X.env) (fun u s'=>∃o H',Inv X zv σ H' s'/\IsPart u o/\Q o H') X.xe s
def auw:TO:=fun _ H Q=>Q none H
def a2h(t:TE):TO:=fun σ H Q=>t σ H fun x H1=>∃i,x=.int i/\Q (some i) H1
theorem intsAre_of{ns:List Int}:∀{us:List Value},Vals (ns.map V.int) us->IntsAre us ns:=by
 induction ns with
 | nil=>intro us r;rw[List.map_nil] at r;cases r;exact .nil
 | cons n ns ih =>
  intro us r;rw[List.map_cons] at r;cases r with
  | cons r1 r2 =>
   obtain⟨t,e⟩:=r1;subst e;exact .cons n t (ih r2)
section
variable{X:Cx}{e:Expr}{te:TE}{lo hi:Option Expr}{tl th:TO}{pos p2:Pos}
theorem avc:PO X none auw:=by
 intro zv s σ H Q I h;rw[evalPart_none];exact wpAny_pure ⟨none,H,I,.none,h⟩
theorem avb(h:PE X e te):PO X (some e) (a2h te):=by
 intro zv s σ H Q I hw;rw[evalPart_some];refine thn (h zv s σ H _ I hw) fun u s1 ⟨x,H1,I1,r1,q1⟩ =>?_
 obtain⟨i,rfl,q⟩:=q1;obtain⟨t,rfl⟩:=r1;exact⟨some i,H1,I1,.int i t,q⟩
def SlR(X:Cx)(r:V->Option Int->Option Int->Hp->VK->Prop):Prop :=
 ∀(zv:List (Addr×Obj)) (s:Shared) (σ:St) (H:Hp) (x:V) (v vl vu:Value) (lo hi:Option Int) (sl:Addr) (Q:VK),Inv X zv σ H s->RelV x v->s.heap.IsSliceOf sl vl vu .none->IsPart vl lo->IsPart vu hi->r x lo hi H Q ->
  ∃T id,typeLookup (.type T) "__getitem__" = pure (some (.builtin id))/\s.TypeIs v T/\wpAny (model X.prog X.w) X.A (getItem v (.ref sl)) (EP X zv σ Q) X.xe s
theorem SlR.or{r r':V->Option Int->Option Int->Hp->VK->Prop}(h:SlR X r)(h':SlR X r'):SlR X (fun x lo hi H Q=>r x lo hi H Q∨r' x lo hi H Q):=by
 intro zv s σ H x v vl vu lo hi sl Q I rx hs pl pu q;rcases q with q | q
 ·exact h zv s σ H x v vl vu lo hi sl Q I rx hs pl pu q
 ·exact h' zv s σ H x v vl vu lo hi sl Q I rx hs pl pu q
def tSl(r:V->Option Int->Option Int->Hp->VK->Prop)(te:TE)(tl th:TO):TE:=fun σ H Q=>te σ H fun x H1=>tl σ H1 fun l H2=>th σ H2 fun u H3=>r x l u H3 Q
theorem ak8{r:V->Option Int->Option Int->Hp->VK->Prop}(hr:SlR X r)(he:PE X e te)(hl:PO X lo tl)(hu:PO X hi th):PE X (.Subscript e (.Slice lo hi none p2) pos) (tSl r te tl th):=by
 intro zv s σ H Q I h;refine Subscript_ (thn (he zv s σ H _ I h) fun v s1 ⟨x,H1,I1,r1,q1⟩ =>?_)
 refine wpAny_Slice (thn (hl zv s1 σ H1 _ I1 q1) fun vl s2 ⟨l,H2,I2,pl,q2⟩=>thn (hu zv s2 σ H2 _ I2 q2) fun vu s3 ⟨u,H3,I3,pu,q3⟩ =>?_)
 rw[evalPart_none];refine wpAny_pure ?_;have I4:Inv X zv σ H3 { s3 with heap:=s3.heap.push { cls:=.type "slice", data:=.fields #[vl,vu,.none] } }:=I3.kept (t':=s3.toks) fun b ob q=>Heap.get?_push_of_some _ q
 obtain⟨T,id,hT,ht,hg⟩:=hr zv { s3 with heap:=s3.heap.push { cls:=.type "slice", data:=.fields #[vl,vu,.none] } } σ H3 x v vl vu l u s3.heap.objs.size Q I4 r1 (Heap.IsSliceOf.new ..) pl pu q3
 show wpAny (model X.prog X.w) X.A (subscriptTail e (.Slice lo hi none p2) v (.ref s3.heap.objs.size)) (EP X zv σ Q) X.xe { s3 with heap:=s3.heap.push { cls:=.type "slice", data:=.fields #[vl,vu,.none] } }
 exact tail_any (ops:=[.ref s3.heap.objs.size,v]) ht hT hg (by with_unfolding_all rfl)
def cutV(xs:List V)(lo hi:Option Int):List V:=(xs.drop (HT.sIx xs.length 0 lo)).take (HT.sIx xs.length xs.length hi - HT.sIx xs.length 0 lo)
theorem afp(xs:List V)(lo hi:Option Int):(cutV xs lo hi).length<=xs.length:=by
 unfold cutV;rw[List.length_take,List.length_drop];omega
def rSlT(K:Fg9):V->Option Int->Option Int->Hp->VK->Prop:=fun x lo hi H Q=>∃a xs,x=.ref a/\SqT K H a xs /\
 ¬(HT.sIx xs.length 0 lo=0/\HT.sIx xs.length xs.length hi=xs.length)/\∀p,H p=none->Q (.ref p) (upd H p (.tup (cutV xs lo hi)))
theorem ax5:SlR X (rSlT X.K):=by
 intro zv s σ H x v vl vu lo hi sl Q I rx hs pl pu h;obtain⟨a,xs,rfl,hx,hw,q⟩:=h;cases rx;obtain⟨its,r,ht,hz⟩:=I.tuple hx;have hlen:its.toArray.size=xs.length:=by rw[List.size_toArray];exact r.length.symm
 refine⟨"tuple", _,PyProof.Rows.slot_tuple_getitem.lookup,ht.typeIs,?_⟩;refine HT.ado ht hs pl pu (by rw[hlen];exact hw) ?_ (by rw[hlen];exact hz)
 rw[hlen];refine⟨.ref s.heap.objs.size,_,I.laid (t':=s.toks) (o:=.tup (cutV xs lo hi)) (fun b ob q=>Heap.get?_push_of_some _ q) (Nat.le_refl _) ?_,rfl,q _ (I.hok.fresh (Nat.le_refl _))⟩
 exact⟨Nat.le_trans (afp xs lo hi) hz,_,(r.drop (HT.sIx xs.length 0 lo)).take (HT.sIx xs.length xs.length hi - HT.sIx xs.length 0 lo),IsTp.new _ _⟩
def a2u(K:Fg9):R2:=fun x y H Q=>∃a b xs ys,x=.ref a/\y=.ref b/\SqT K H a xs/\SqT K H b ys/\xs≠[]/\xs.length+ys.length<=sizeLine /\
 (ys=[]->Q (.ref a) H)/\(ys≠[]->∀p,H p=none->Q (.ref p) (upd H p (.tup (xs++ys))))
theorem Vals.nil_iff{xs:List V}{us:List Value}(r:Vals xs us):us=[]↔xs=[]:=by
 cases r with
 | nil=>simp
 | cons _ _=>simp
theorem avx:OpR X (binaryOp .Add) (a2u X.K):=by
 intro zv s σ H x y v u Q I rx ry h;obtain⟨a,b,xs,ys,rfl,rfl,ha,hb,hx,hz,q1,q2⟩:=h;cases rx;cases ry;obtain⟨its,r1,p1,_⟩:=I.tuple ha;obtain⟨its2,r2,p2,_⟩:=I.tuple hb;refine HT.axd p1 p2 (fun z=>hx (r1.nil_iff.mp z)) (fun z=>⟨.ref a,H,I,rfl,q1 (r2.nil_iff.mp z)⟩) (fun z =>?_) (by rw[<-r1.length,<-r2.length];exact hz)
 refine⟨.ref s.heap.objs.size,_,I.laid (t':=s.toks) (o:=.tup (xs++ys)) (fun b ob q=>Heap.get?_push_of_some _ q) (Nat.le_refl _) ?_,rfl,q2 (fun w=>z (r2.nil_iff.mpr w)) _ (I.hok.fresh (Nat.le_refl _))⟩
 exact⟨by rw[List.length_append];exact hz,_,r1.append r2,IsTp.new _ _⟩
end
def ixN(n:Nat)(i:Int):Option Nat:=if 0<=i then (if i < n then some i.toNat else none) else if -(n:Int)<=i then some (i+n).toNat else none
def atI{α:Type}(xs:List α)(i:Int):Option α:=(ixN xs.length i).bind fun j=>xs[j]?
theorem apa{n:Nat}{i:Int}{j:Nat}(h:ixN n i=some j):seqIndex? i n=some j/\j < n /\ -(n:Int)<=i/\i < n:=by
 unfold ixN at h
 by_cases h0:0<=i
 ·rw[if_pos h0] at h
  by_cases h1:i < n
  ·rw[if_pos h1] at h;have e:i.toNat=j:=Option.some.inj h;exact⟨by rw[seqIndex_of h0 h1,e],by omega,by omega,h1⟩
  ·rw[if_neg h1] at h;cases h
 ·rw[if_neg h0] at h
  by_cases h1 : -(n:Int)<=i
  ·rw[if_pos h1] at h;have e:(i+n).toNat=j:=Option.some.inj h;exact⟨by rw[seqIndex_neg (by omega) h1,e],by omega,h1,by omega⟩
  ·rw[if_neg h1] at h;cases h
theorem akx{α:Type}{xs:List α}{i:Int}{v:α}(h:atI xs i=some v):∃j,seqIndex? i xs.length=some j/\xs[j]? = some v/\j < xs.length /\ -(xs.length:Int)<=i/\i < xs.length:=by
 unfold atI at h;cases e:ixN xs.length i with
 | none=>rw[e] at h;cases h
 | some j =>
  rw[e] at h;obtain⟨h1,h2,h3,h4⟩:=apa e;exact⟨j,h1,h,h2,h3,h4⟩
theorem ahu{α:Type}{xs:List α}{j:Nat}{v:α}(h:xs[j]? = some v):atI xs (j:Int)=some v:=by
 have hj:j < xs.length:=(List.getElem?_eq_some_iff.mp h).1;have e:ixN xs.length (j:Int)=some j:=by
  unfold ixN;rw[if_pos (by omega),if_pos (by omega)];simp
 unfold atI;rw[e];exact h
theorem al7{α:Type}(xs:List α)(v:α):atI (xs++[v]) (-1)=some v:=by
 have hl:(xs++[v]).length=xs.length+1:=by simp
 have e:ixN (xs++[v]).length (-1)=some xs.length:=by
  unfold ixN;rw[hl,if_neg (by decide),if_pos (by omega)]
  congr 1
  omega
 unfold atI;rw[e];show(xs++[v])[xs.length]? = some v;simp
def aqu(b:Expr):Prop:=∀o i,subscripted b false o i=operate [o,i] (getItem o i)
def IxR(X:Cx)(r:R2):Prop :=
 ∀(value slice:Expr) (zv:List (Addr×Obj)) (s:Shared) (σ:St) (H:Hp) (x y:V) (v u:Value) (Q:VK),Inv X zv σ H s->RelV x v->RelV y u->r x y H Q ->
  subscripted slice false v u=operate [v,u] (getItem v u)->wpAny (model X.prog X.w) X.A (subscriptTail value slice v u) (EP X zv σ Q) X.xe s
def MtR(X:Cx)(id:String)(r:V->List V->Hp->VK->Prop):Prop :=
 ∀(zv:List (Addr×Obj)) (s:Shared) (σ:St) (H:Hp) (x:V) (xs:List V) (v:Value) (us:List Value) (Q:VK),Inv X zv σ H s->RelV x v->Vals xs us->r x xs H Q ->
  wpAny (model X.prog X.w) X.A (call (.builtin id) (v::us)) (EP X zv σ Q) X.xe s
section
variable{X:Cx}{a b:Expr}{ta tb:TE}{pos:Pos}
theorem IxR.or{r r':R2}(h:IxR X r)(h':IxR X r'):IxR X (fun x y H Q=>r x y H Q∨r' x y H Q):=by
 intro value slice zv s σ H x y v u Q I rx ry q hs;rcases q with q | q
 ·exact h value slice zv s σ H x y v u Q I rx ry q hs
 ·exact h' value slice zv s σ H x y v u Q I rx ry q hs
theorem MtR.or{id:String}{r r':V->List V->Hp->VK->Prop}(h:MtR X id r)(h':MtR X id r'):MtR X id (fun x xs H Q=>r x xs H Q∨r' x xs H Q):=by
 intro zv s σ H x xs v us Q I rx rs q;rcases q with q | q
 ·exact h zv s σ H x xs v us Q I rx rs q
 ·exact h' zv s σ H x xs v us Q I rx rs q
theorem a3a{r:R2}(hr:IxR X r)(ha:PE X a ta)(hb:PE X b tb)(hs:aqu b):PE X (.Subscript a b pos) (tOp r ta tb):=by
 intro zv s σ H Q I h;exact Subscript_ (binT ha hb I h fun v u s2 x y H2 I2 rx ry q=>hr a b zv s2 σ H2 x y v u Q I2 rx ry q (hs _ _))
def rIxL(K:Fg9):R2:=fun x y H Q=>∃p xs i v,x=.ref p/\y=.int i/\SqL K H p xs/\atI xs i=some v/\Q v H
def rIxT(K:Fg9):R2:=fun x y H Q=>∃p xs i v,x=.ref p/\y=.int i/\SqT K H p xs/\atI xs i=some v/\Q v H
theorem awd:IxR X (rIxL X.K):=by
 intro value slice zv s σ H x y v u Q I rx ry h hs;obtain⟨p,xs,i,z,rfl,rfl,hq,he,q⟩:=h;cases rx;obtain⟨t,rfl⟩:=ry;obtain⟨its,r,pl,hz⟩:=I.list hq;obtain⟨j,h1,h2,h3,h4,h5⟩:=akx he;obtain⟨w,ew,rw'⟩:=r.get h2;have hl:=r.length;have hn:=aiv;have fin:EP X zv σ Q w s:=⟨z,H,I,rw',q⟩
 by_cases h0:0<=i
 ·have hj:i.toNat=j:=by
   rw[seqIndex_of h0 h5] at h1;exact Option.some.inj h1
  exact item_listR pl.isList h0 (by omega) (by rw[hj];simpa using ew) fin hs
 ·have hj:(i+(its.toArray.size:Int)).toNat=j:=by
   rw[seqIndex_neg (by omega) h4] at h1
   rw[List.size_toArray,<-hl];exact Option.some.inj h1
  exact subscriptTail_builtinR (x:=w) pl.isList.typeIs slot_list_getitem.lookup
   (wpAny_getItem_list_neg (Q:=fun r s'=>r=w/\EP X zv σ Q r s') pl.isList (by omega) (by rw[List.size_toArray] <;> omega) (by omega) (by rw[hj];simpa using ew) ⟨rfl,fin⟩) hs
theorem azv:IxR X (rIxT X.K):=by
 intro value slice zv s σ H x y v u Q I rx ry h hs;obtain⟨p,xs,i,z,rfl,rfl,hq,he,q⟩:=h;cases rx;obtain⟨t,rfl⟩:=ry;obtain⟨its,r,pl,hz⟩:=I.tuple hq;obtain⟨j,h1,h2,h3,h4,h5⟩:=akx he;obtain⟨w,ew,rw'⟩:=r.get h2;have hl:=r.length;have hn:=aiv;have fin:EP X zv σ Q w s:=⟨z,H,I,rw',q⟩;exact subscriptTail_builtinR (x:=w) pl.typeIs slot_tuple_getitem.lookup
  (getItem_tuple (j:=j) (Q:=fun r s'=>r=w/\EP X zv σ Q r s') pl (by omega) (by omega) (by rw[List.size_toArray,<-hl];exact h1) (by simpa using ew) ⟨rfl,fin⟩) hs
theorem amx(its:List Value)(n j:Nat)(u:Value):Obj.mapSeq (·.setIfInBounds j u) { cls:=.type "list", data:=.seq its.toArray n }={ cls:=.type "list", data:=.seq (its.set j u).toArray n }:=by
 simp[Obj.mapSeq]
theorem Inv.lst{zv:List (Addr×Obj)}{σ:St}{H:Hp}{s:Shared}{p:Addr}{xs:List V}(I:Inv X zv σ H s)(h:H p=some (.lst xs)) :
  ∃(its:List Value) (n:Nat),Vals xs its/\s.heap.get? p=some { cls:=.type "list", data:=.seq its.toArray n }/\xs.length<=sizeLine:=by
 obtain⟨z,its,n,r,e⟩:=I.hok p _ h;exact⟨its,n,r,e,z⟩
theorem Inv.lstUpd{zv:List (Addr×Obj)}{σ:St}{H:Hp}{s:Shared}{p:Addr}{xs ys:List V}{its its':List Value}{n n':Nat}{f:Obj->Obj}(I:Inv X zv σ H s)(h:H p=some (.lst xs))
  (ho:s.heap.get? p=some { cls:=.type "list", data:=.seq its.toArray n }) (hf:f { cls:=.type "list", data:=.seq its.toArray n }={ cls:=.type "list", data:=.seq its'.toArray n' }) (r:Vals ys its') (hz:ys.length<=sizeLine) (t:Nat) :
  Inv X zv σ (upd H p (.lst ys)) { s with heap:=s.heap.update p f,toks:=t }:=by
 have e:(s.heap.update p f).get? p=some { cls:=.type "list", data:=.seq its'.toArray n' }:=by
  rw[Heap.get?_update_self f ho (by rw[hf] <;> rfl),hf]
 refine I.write (x:=p) (e:=p) (by rw[h];trivial) (.inl rfl) (fun b u hb q=>(Heap.get?_update_other _ _ (Ne.symm hb)).trans q) ⟨_,e⟩ ?_
 exact⟨hz,its',n',r,e⟩
def a2t:V->V->V->Hp->(Hp->Prop)->Prop:=fun o i v H Q=>∃p xs k j,o=.ref p/\i=.int k/\H p=some (.lst xs)/\ixN xs.length k=some j/\Q (upd H p (.lst (xs.set j v)))
theorem set_list:PSet X a2t:=by
 intro zv s σ H o i v ov iv u Q I ro ri rv h;obtain⟨p,xs,k,j,rfl,rfl,hp,hj,q⟩:=h;cases ro;obtain⟨t,rfl⟩:=ri;obtain⟨its,n,r,ho,hz⟩:=I.lst hp;obtain⟨h1,h2,h3,h4⟩:=apa hj;have hl:=r.length;have hn:=aiv;have I':Inv X zv σ (upd H p (.lst (xs.set j v))) { s with heap:=s.heap.update p (Obj.mapSeq (·.setIfInBounds j u)) } :=
  I.lstUpd hp ho (amx its n j u) (r.set rv j) (by rw[List.length_set];exact hz) s.toks
 by_cases h0:0<=k
 ·have hk:k.toNat=j:=by
   rw[seqIndex_of h0 h4] at h1;exact Option.some.inj h1
  exact PySem.W.ki_setAt ho h0 (by omega) (by rw[List.size_toArray,<-hl];exact h4) (by rw[hk];exact⟨_,I',q⟩)
 ·have hk:(k+(its.toArray.size:Int)).toNat=j:=by
   rw[seqIndex_neg (by omega) h3] at h1
   rw[List.size_toArray,<-hl];exact Option.some.inj h1
  exact PySem.W.ki_setBack ho (by omega) (by rw[List.size_toArray,<-hl];exact h3) (by omega) (by rw[hk];exact⟨_,I',q⟩)
theorem ah4(lo hi:Option Int)(n:Nat):(sliceBounds lo hi none n).1=((HT.sIx n 0 lo:Nat):Int)/\(sliceBounds lo hi none n).2.1=((HT.sIx n n hi:Nat):Int)/\(sliceBounds lo hi none n).2.2=1:=by
 refine⟨?_,?_,rfl⟩
 ·cases lo with
  | none=>simp[sliceBounds,HT.sIx]
  | some i =>
   simp only[sliceBounds,HT.sIx,Option.getD_none,show(1:Int) > 0 by decide,if_true]
   by_cases h:i < 0
   ·simp only[h,if_true] <;> omega
   ·simp only[h,if_false] <;> omega
 ·cases hi with
  | none=>simp[sliceBounds,HT.sIx]
  | some i =>
   simp only[sliceBounds,HT.sIx,Option.getD_none,show(1:Int) > 0 by decide,if_true]
   by_cases h:i < 0
   ·simp only[h,if_true] <;> omega
   ·simp only[h,if_false] <;> omega
theorem agw(its:List Value)(lo hi:Option Int):slicePick its.toArray lo hi none=((its.drop (HT.sIx its.length 0 lo)).take (HT.sIx its.length its.length hi - HT.sIx its.length 0 lo)).toArray:=by
 obtain⟨h1,h2,h3⟩:=ah4 lo hi its.toArray.size;unfold slicePick;rw[h1,h2,h3];simp only[sliceRange_one,pick_run,List.size_toArray] <;> rfl
def rSlL(K:Fg9):V->Option Int->Option Int->Hp->VK->Prop:=fun x lo hi H Q=>∃a xs,x=.ref a/\SqL K H a xs/\∀p,H p=none->Q (.ref p) (upd H p (.lst (cutV xs lo hi)))
theorem aob:SlR X (rSlL X.K):=by
 intro zv s σ H x v vl vu lo hi sl Q I rx hs pl pu h;obtain⟨a,xs,rfl,hx,q⟩:=h;cases rx;obtain⟨its,r,ht,hz⟩:=I.list hx;have hlen:=r.length;refine⟨"list", _,slot_list_getitem.lookup,ht.isList.typeIs,?_⟩;refine wpAny_getItem_list_slice ht.isList hs pl pu .none (by simp) ?_ (by rw[List.size_toArray] <;> omega)
 rw[agw,<-hlen];refine⟨.ref s.heap.objs.size,_,I.laid (t':=s.toks) (o:=.lst (cutV xs lo hi)) (fun b ob q=>Heap.get?_push_of_some _ q) (Nat.le_refl _) ?_,rfl,q _ (I.hok.fresh (Nat.le_refl _))⟩
 exact⟨Nat.le_trans (afp xs lo hi) hz,_,0,(r.drop (HT.sIx xs.length 0 lo)).take (HT.sIx xs.length xs.length hi - HT.sIx xs.length 0 lo),Heap.get?_push_size _ rfl⟩
theorem aji:yp X (.builtin "len") (fun xs H Q=>∃p ys,xs=[.ref p]/\(SqL X.K H p ys∨SqT X.K H p ys)/\Q (.int ys.length) H):=by
 intro zv s σ H xs us Q I r h;obtain⟨p,ys,rfl,hq,q⟩:=h;obtain⟨u,rfl,rx⟩:=vals1 r;cases rx;have hn:=aiv;rcases hq with hq | hq
 ·obtain⟨its,r',pl,hz⟩:=I.list hq;have hlen:=r'.length;exact Calls.call_len_list pl.isList (by simp only[List.size_toArray] <;> omega) ⟨.int ys.length,H,I.tok _,⟨s.toks+1,by rw[List.size_toArray,hlen]⟩,q⟩
 ·obtain⟨its,r',pl,hz⟩:=I.tuple hq;have hlen:=r'.length;exact len_tuple pl (by simp only[List.size_toArray] <;> omega) ⟨.int ys.length,H,I.tok _,⟨s.toks+1,by rw[List.size_toArray,hlen]⟩,q⟩
theorem yp.or{f:Value}{r r':List V->Hp->VK->Prop}(h:yp X f r)(h':yp X f r'):yp X f (fun xs H Q=>r xs H Q∨r' xs H Q):=by
 intro zv s σ H xs us Q I rs q;rcases q with q | q
 ·exact h zv s σ H xs us Q I rs q
 ·exact h' zv s σ H xs us Q I rs q
theorem ajh:yp X (.type "list") (fun xs H Q=>∃p ys,xs=[.ref p]/\(SqL X.K H p ys∨SqT X.K H p ys)/\∀l,H l=none->Q (.ref l) (upd H l (.lst ys))):=by
 intro zv s σ H xs us Q I r h;obtain⟨p,ys,rfl,hq,q⟩:=h;obtain⟨u,rfl,rx⟩:=vals1 r;cases rx;have fin:∀(its:List Value),Vals ys its->ys.length<=sizeLine->∀(h':Heap) (c':Nat),(∀b o',s.heap.get? b=some o'->h'.get? b=some o') ->
   h'.get? s.heap.objs.size=some { cls:=.type "list", dict:=none,data:=.seq its.toArray c',slots := #[] }->EP X zv σ Q (.ref s.heap.objs.size) { s with heap:=h' }:=fun its r' hz h' c' kp e =>
  ⟨.ref s.heap.objs.size,_,I.laid (t':=s.toks) kp (Nat.le_refl _) (show xj X.prog X.w _ h' _ (.lst ys) from⟨hz,its,c',r',e⟩),rfl,q _ (I.hok.fresh (Nat.le_refl _))⟩
 rcases hq with hq | hq
 ·obtain⟨its,r',pl,hz⟩:=I.list hq;have hlen:=r'.length;obtain⟨o,ho,hc,n,hd⟩:=pl.isList;exact call_list_seq p (.inl rfl) ho hc hd (fun h' c' kp e=>fin its r' hz h' c' kp e) (by simp only[List.size_toArray] <;> omega)
 ·obtain⟨its,r',pl,hz⟩:=I.tuple hq;have hlen:=r'.length;obtain⟨o,ho,hc,n,hd⟩:=pl;exact call_list_seq p (.inr rfl) ho hc hd (fun h' c' kp e=>fin its r' hz h' c' kp e) (by simp only[List.size_toArray] <;> omega)
theorem aao:yp X (.type "tuple") (fun xs H Q=>∃p ys,xs=[.ref p]/\((SqL X.K H p ys/\∀l,H l=none->Q (.ref l) (upd H l (.tup ys)))∨(SqT X.K H p ys/\Q (.ref p) H))):=by
 intro zv s σ H xs us Q I r h;obtain⟨p,ys,rfl,h⟩:=h;obtain⟨u,rfl,rx⟩:=vals1 r;cases rx;rcases h with⟨hq,q⟩ | ⟨hq,q⟩
 ·obtain⟨its,r',pl,hz⟩:=I.list hq;have hlen:=r'.length;refine call_tuple_list pl.isList (fun h' kp =>?_) (by simp only[List.size_toArray] <;> omega)
  have I1:Inv X zv σ H { s with heap:=h' }:=I.kept (t':=s.toks) kp
  have I2:Inv X zv σ (upd H h'.objs.size (.tup ys)) { s with heap:=h'.push { cls:=.type "tuple", data:=.seq its.toArray } } :=
   I1.laid (t':=s.toks) (fun b o e=>Heap.get?_push_of_some _ e) (Nat.le_refl _) (show xj X.prog X.w _ _ _ (.tup ys) from⟨hz,its,r',IsTp.new _ _⟩)
  exact⟨.ref h'.objs.size,_,I2,rfl,q _ (I1.hok.fresh (Nat.le_refl _))⟩
 ·obtain⟨its,r',pl,hz⟩:=I.tuple hq;exact call_tuple_same pl ⟨.ref p,H,I,rfl,q⟩
def tyV(K:Fg9)(T:String)(x:V)(H:Hp):Prop:=match x with
 | .str _=>T = "str"
 | .int _=>T = "int"
 | .ref p=>(T = "list" /\ ∃xs,SqL K H p xs)∨(T = "tuple" /\ ((∃o,K.lookup p=some o/\o.cls=.type "tuple" /\ o.dict=none)∨∃xs,H p=some (.tup xs))) ∨
   (T = "dict" /\ ((∃kvs,H p=some (.dK kvs))∨∃kvs,H p=some (.dT kvs)))∨(T = "set" /\ ∃S n,H p=some (.set S n))
 | _=>False
theorem axw{zv:List (Addr×Obj)}{σ:St}{H:Hp}{s:Shared}{T:String}{x:V}{v:Value}(I:Inv X zv σ H s)(r:RelV x v)(ty:tyV X.K T x H) :
  s.TypeIs v T/\∀a,v=.ref a->∃ob,s.heap.get? a=some ob/\ob.dict=none:=by
 cases x with
 | str z =>
  obtain⟨t,rfl⟩:=r;cases(show T = "str" from ty)
  exact⟨typeIs_str s z t,fun _ e=>nomatch e⟩
 | int i =>
  obtain⟨t,rfl⟩:=r;cases(show T = "int" from ty)
  exact⟨typeIs_int s i t,fun _ e=>nomatch e⟩
 | ref p =>
  cases r;rcases ty with⟨rfl,xs,hq⟩ | ⟨rfl,⟨o,hk,hc,hd⟩ | ⟨xs,hk⟩⟩ | ⟨rfl,hk⟩ | ⟨rfl,S,n,hk⟩
  ·obtain⟨its,_,pl,_⟩:=I.list hq;refine⟨pl.isList.typeIs,fun a e =>?_⟩
   cases e;obtain⟨o,n,e,c,hd,_⟩:=pl;exact⟨o,e,hd⟩
  ·refine⟨⟨o,I.kIn p o hk,hc⟩,fun a e =>?_⟩
   cases e;exact⟨o,I.kIn _ o hk,hd⟩
  ·obtain⟨_,_,_,o,e,hc,hd,_⟩:=I.hok p _ hk;refine⟨⟨o,e,hc⟩,fun a e2 =>?_⟩
   cases e2;exact⟨o,e,hd⟩
  ·have z:∃o,s.heap.get? p=some o/\o.ExactDict:=by
    rcases hk with⟨kvs,hk⟩ | ⟨kvs,hk⟩
    ·obtain⟨_,_,_,_,o,_,_,e,ex,_⟩:=I.hok p _ hk;exact⟨o,e,ex⟩
    ·obtain⟨_,_,_,_,o,_,_,e,ex,_⟩:=I.hok p _ hk;exact⟨o,e,ex⟩
   obtain⟨o,e,ex⟩:=z;refine⟨⟨o,e,ex.1⟩,fun a e2 =>?_⟩
   cases e2;exact⟨o,e,ex.2.1⟩
  ·obtain⟨o,_,_,_,e,ex,_⟩:=I.hok p _ hk;refine⟨⟨o,e,ex.1⟩,fun a e2 =>?_⟩
   cases e2;exact⟨o,e,ex.2.1⟩
 | _=>exact False.elim ty
def tBM(K:Fg9)(T:String)(r:V->List V->Hp->VK->Prop)(to:TE)(t:TA):TE:=fun σ H Q=>to σ H fun x H1=>tyV K T x H1/\t σ H1 fun xs H2=>r x xs H2 Q
variable{o e:Expr}{es:List Expr}{to:TE}{t:TA}{name:Str}{apos cpos:Pos}{T id:String}{r:V->List V->Hp->VK->Prop}
theorem ayx(pa:PlainAttrs T)(slot:Slot T name id)(hty:typeOf (.builtin id)=pure (.type "method_descriptor"))(hm:MtR X id r)(ho:PE X o to)(ha:PA X (e::es) t)
  (hbase:attributeBase o name X.env (eval o X.env)=eval o X.env:=by rfl)
  (hfew:((backTo cpos (starEach (e::es) X.env)).all (fun x => !x.1)&&(backToKw cpos (keywordEach [] X.env)).all (fun x=>x.1.isSome)
   && decide ((e::es).length+([]:List Keyword).length+(if ([]:List Keyword).isEmpty then 0 else 1) < 30))=true:=by rfl)
  (hline:(apos.endLine==cpos.line)=true:=by rfl) (hs:starEach (e::es) X.env=(false,eval e X.env)::starEach es X.env:=by rfl) (hplain:(backTo cpos (starEach es X.env)).any (·.1)=false:=by rfl) :
  PE X (.Call (.Attribute o name apos) (e::es) [] cpos) (tBM X.K T r to t):=by
 intro zv s σ H Q I h;refine wpAny_Call_method_late hbase hfew hline rfl (thn (ho zv s σ H _ I h) fun v s1 ⟨x,H1,I1,r1,ty,q1⟩ =>?_)
 obtain⟨h1,h2⟩:=axw I1 r1 ty;refine⟨T,id,pa,slot,hty,h1,h2,?_⟩;have hA:=ha cpos zv s1 σ H1 _ I1 q1;rw[hs] at hA ⊢
 refine Calls.callWith_builtin (by show(false||(backTo cpos (starEach es X.env)).any (·.1))=false;rw[hplain] <;> rfl) (Calls.evalArgs_plain ?_)
 exact thn hA fun us s2 ⟨vs,H2,I2,r2,q2⟩=>hm zv s2 σ H2 x vs v us Q I2 r1 r2 q2
end
def MtM(X:Cx)(id:String)(r:V->List V->Hp->VK->Prop):Prop :=
 ∀(zv:List (Addr×Obj)) (s:Shared) (σ:St) (H:Hp) (x:V) (xs:List V) (v:Value) (us:List Value) (Q:VK),Inv X zv σ H s->RelV x v->Vals xs us->r x xs H Q ->
  wpAny (model X.prog X.w) X.A (call (.builtin id) (v::us)) (EP X zv σ Q) X.xe s
theorem Vals.one:∀{x:V} {us:List Value},Vals [x] us->∃u,us=[u]/\RelV x u
 | _,_,.cons r .nil=>⟨_,rfl,r⟩
theorem Vals.two:∀{x y:V} {us:List Value},Vals [x,y] us->∃u v,us=[u,v]/\RelV x u/\RelV y v
 | _,_,_,.cons r (.cons q .nil)=>⟨_,_,rfl,r,q⟩
theorem Vals.zero:∀{us:List Value},Vals [] us->us=[]
 | _,.nil=>rfl
theorem Vals.eraseIdx:∀{xs:List V} {us:List Value} (i:Nat),Vals xs us->Vals (xs.eraseIdx i) (us.eraseIdx i)
 | _,_,_,.nil=>.nil
 | _,_,0,.cons _ t=>t
 | _,_,i+1,.cons r t=>.cons r (Vals.eraseIdx i t)
theorem Vals.reverse{xs:List V}{us:List Value}(h:Vals xs us):Vals xs.reverse us.reverse:=by
 induction h with
 | nil=>exact .nil
 | cons r t ih=>rw[List.reverse_cons,List.reverse_cons];exact Vals.append ih (.cons r .nil)
theorem Vals.rep{xs:List V}{us:List Value}(h:Vals xs us):∀k:Nat,Vals (List.replicate k xs).flatten (List.replicate k us).flatten
 | 0=>.nil
 | k+1=>by
  rw[List.replicate_succ,List.replicate_succ,List.flatten_cons,List.flatten_cons];exact Vals.append h (Vals.rep h k)
theorem foldl_rep(its:List Value):∀(k:Nat) (acc:List Value),
  List.foldl (fun x1 x2=>x1++x2) acc.toArray (List.replicate k its.toArray)=(acc++(List.replicate k its).flatten).toArray
 | 0,acc=>by simp
 | k+1,acc=>by
  have e:acc.toArray++its.toArray=(acc++its).toArray:=by simp
  have e2:(acc++its)++(List.replicate k its).flatten=acc++(List.replicate (k+1) its).flatten:=by
   rw[List.replicate_succ,List.flatten_cons,List.append_assoc]
  rw[<-e2,<-foldl_rep its k (acc++its),<-e,List.replicate_succ,List.foldl_cons]
section
variable{X:Cx}{zv:List (Addr×Obj)}{σ:St}{H:Hp}{s:Shared}{l b:Addr}{xs ys zs:List V}
theorem Inv.lset{its its':List Value}{n:Nat}{f:Array Value->Array Value}{t':Nat}(I:Inv X zv σ H s)(hH:H l=some (.lst xs))
  (e:s.heap.get? l=some { cls:=.type "list", data:=.seq its.toArray n }) (hf:f its.toArray=its'.toArray) (hv:Vals ys its') (hz:ys.length<=sizeLine) :
  Inv X zv σ (upd H l (.lst ys)) { s with heap:=s.heap.update l (Obj.mapSeq f),toks:=t' }:=by
 have q:=PySem.IsL.update e f;rw[hf] at q;refine I.write (x:=l) (e:=l) (by rw[hH];exact trivial) (.inl rfl) (fun b' u hb hu=>(Heap.get?_update_other s.heap (Obj.mapSeq f) (Ne.symm hb)).trans hu) ⟨_,q⟩ ?_
 exact⟨hz,its',_,hv,q⟩
theorem Inv.lnew{its:List Value}{t':Nat}(I:Inv X zv σ H s)(hv:Vals ys its)(hz:ys.length<=sizeLine) :
  Inv X zv σ (upd H s.heap.objs.size (.lst ys)) { s with heap:=s.heap.push { cls:=.type "list", data:=.seq its.toArray },toks:=t' } :=
 I.laid (fun _ _ q=>Heap.get?_push_of_some _ q) (Nat.le_refl _) ⟨hz,its,0,hv,Heap.get?_push_size _ rfl⟩
theorem Inv.fresh(I:Inv X zv σ H s):H s.heap.objs.size=none:=I.hok.fresh (Nat.le_refl _)
theorem Inv.lstM(I:Inv X zv σ H s)(hH:H l=some (.lst xs)):xs.length<=sizeLine/\∃(its:List Value) (n:Nat),Vals xs its/\xs.length=its.length/\s.heap.get? l=some { cls:=.type "list", data:=.seq its.toArray n }:=by
 obtain⟨z,its,n,r,e⟩:=I.hok l _ hH;exact⟨z,its,n,r,r.length,e⟩
theorem ar8{n:Nat}(h:n<=sizeLine):Builtin.List.listTooLong n=false:=by
 unfold Builtin.List.listTooLong;exact decide_eq_false (by omega)
end
section
variable{X:Cx}
def aoj:V->List V->Hp->VK->Prop:=fun x vs H Q=>∃l xs y,x=.ref l/\vs=[y]/\H l=some (.lst xs)/\xs.length < sizeLine/\Q .non (upd H l (.lst (xs++[y])))
theorem v8:MtM X "list.append" aoj:=by
 intro zv s σ H x vs v us Q I rx rv h;obtain⟨l,xs,y,rfl,rfl,hH,hz,q⟩:=h;cases rx;obtain⟨u,rfl,ru⟩:=rv.one;obtain⟨z,its,n,r,hl,e⟩:=I.lstM hH;refine call_meets F.slot_list_append ⟨_,e,rfl⟩ F.entry_list_append (F.args_list_append_2 _ _) (PySem.list_append l its.toArray n u (by rw[List.size_toArray];omega)) ⟨e,?_⟩
 refine⟨.non,_,I.lset (its':=its++[u]) hH e (by simp) (r.append (.cons ru .nil)) ?_,rfl,q⟩
 rw[List.length_append,List.length_singleton];omega
def rReverse:V->List V->Hp->VK->Prop:=fun x vs H Q=>∃l xs,x=.ref l/\vs=[]/\H l=some (.lst xs)/\Q .non (upd H l (.lst xs.reverse))
def rCat:R2:=fun x y H Q=>∃l b xs zs,x=.ref l/\y=.ref b/\H l=some (.lst xs)/\H b=some (.lst zs)/\xs.length+zs.length<=sizeLine/\∀p,H p=none->Q (.ref p) (upd H p (.lst (xs++zs)))
theorem ay4:OpR X (binaryOp .Add) rCat:=by
 intro zv s σ H x y v u Q I rx ry h;obtain⟨l,b,xs,zs,rfl,rfl,hH,hB,hz,q⟩:=h;cases rx;cases ry;obtain⟨z,its,n,r,hl,e⟩:=I.lstM hH;obtain⟨z2,its2,n2,r2,hl2,e2⟩:=I.lstM hB;refine PySem.P.add_list e e2 ?_ (by rw[List.size_toArray,List.size_toArray];omega)
 have ea:its.toArray++its2.toArray=(its++its2).toArray:=by simp
 rw[ea];exact⟨.ref _,_,I.lnew (t':=s.toks) (r.append r2) (by rw[List.length_append];omega),rfl,q _ I.fresh⟩
def rRep:R2:=fun x y H Q=>∃l k xs,x=.ref l/\y=.int k/\H l=some (.lst xs) /\ -(2 ^ 63)<=k/\k < 2 ^ 63/\xs.length*k.toNat<=sizeLine /\
 ∀p,H p=none->Q (.ref p) (upd H p (.lst (List.replicate k.toNat xs).flatten))
theorem len_rep{α:Type}(xs:List α)(k:Nat):(List.replicate k xs).flatten.length=k*xs.length:=by
 induction k with
 | zero=>simp
 | succ k ih=>rw[List.replicate_succ,List.flatten_cons,List.length_append,ih,Nat.succ_mul,Nat.add_comm]
theorem ay0:OpR X (binaryOp .Mult) rRep:=by
 intro zv s σ H x y v u Q I rx ry h;obtain⟨l,k,xs,rfl,rfl,hH,h1,h2,hz,q⟩:=h;cases rx;obtain⟨t,rfl⟩:=ry;obtain⟨z,its,n,r,hl,e⟩:=I.lstM hH;have hlen:its.toArray.size*k.toNat<=sizeLine:=by rw[List.size_toArray,<-hl];exact hz
 have hcap:¬its.toArray.size*k.toNat > (2 ^ 63 - 1) / 8:=by
  have:(sizeLine:Nat)<=(2 ^ 63 - 1) / 8:=by decide
  omega
 have hfit:¬(!Builtin.List.listFitsIndex k)=true:=by
  rw[fitsIndex_both h1 h2];exact Bool.false_ne_true
 have hlong:¬Builtin.List.listTooLong (its.toArray.size*k.toNat)=true:=by
  rw[ar8 hlen];exact Bool.false_ne_true
 have hnew:List.foldl (fun x1 x2=>x1++x2) #[] (List.replicate (if its.toArray.isEmpty=true then 0 else k.toNat) its.toArray)=(List.replicate k.toNat its).flatten.toArray:=by
  have f0:∀m:Nat,List.foldl (fun x1 x2=>x1++x2) #[] (List.replicate m its.toArray)=(List.replicate m its).flatten.toArray:=fun m=>by
   have:=foldl_rep its m [];rw[List.nil_append] at this;exact this
  rw[f0];cases its with
  | nil=>simp
  | cons a r'=>rw[if_neg (by simp)]
 refine wpAny_binaryOp_repeat_ref (T := "list") (U := "int") (by decide) ⟨_,e,rfl⟩ (fun s'=>typeIs_int s' k t) noFill_list_mul F.fills_int_mul F.slot_int_rmul repeat_list F.slot_int_index.lookup
  (call_meets F.slot_int_rmul (typeIs_int s k t) F.entry_int_rmul (F.args_int_rmul_2 _ _) (int___rmul___int_list k t l its.toArray n)
   ⟨e,rfl,⟨_,e,rfl⟩,call_meets F.slot_list_mul ⟨_,e,rfl⟩ F.entry_list_mul (F.args_list_mul_2 _ _) (AutoListH.list___mul___list_int_3 l its.toArray n k t hfit hcap hlong) ⟨e,?_⟩⟩)
 rw[hnew];exact⟨.ref _,_,I.lnew (t':=s.toks) (r.rep k.toNat) (by rw[len_rep,Nat.mul_comm];exact hz),rfl,q _ I.fresh⟩
end
section
variable{prog:Program}{w:World}{A:Around}{E:Value->Shared->Prop}{s:Shared}
end
section
variable{X:Cx}
end
end L2
namespace Att
open PySem PySem.W PySem.Calls PyProof.Rows
theorem ae5{P:Params}{h:Heap}:∀(ns:List Int) (vs:List Value),WellAll P h vs (ns.map WData.int)->IntsAre vs ns:=by
 intro ns
 induction ns with
 | nil =>
  intro vs w;rw[List.map_nil] at w;cases w;exact .nil
 | cons n ns ih =>
  intro vs w;rw[List.map_cons] at w;cases w with
  | cons a b =>
   cases a;exact .cons _ _ (ih _ b)
theorem aoe{l:OpenLaw}{n:Nat}(hn:l.most=some n){P:Params}{h:Heap}{args:List WData}{vals:List Value}
  (hpre:l.row.toRowW.claim.pre args=true) (hwl:WellAll P h vals args) :
  ∃a vs ns,vals=[Value.ref a]/\args=[WData.list (ns.map WData.int)]/\h.get? a=some { cls:=.type "list", data:=.seq vs.toArray }/\IntsAre vs ns/\ns.length<=n:=by
 have hsh:WShape.hasAll [] args [.list .int]=true:=(pre_splitW hpre).1;have hc:l.pre.holds [] { args:=args }=true:=(pre_splitW hpre).2;obtain⟨d,r,rfl,h1,h2⟩:=hasAllW_cons hsh;obtain rfl:=hasAllW_nil h2;obtain⟨xs,rfl,h3⟩:=hasW_list h1;obtain⟨ns,rfl⟩:=items_int h3;have hlen:ns.length<=n:=by
  unfold OpenLaw.pre at hc;have h4:(WTm.not (.lt (.lit (.int (n:Int))) (.len (.arg 0)))).holds [] { args:=[.list (ns.map .int)] }=true:=by
   have h4:=(holds_andW hc).1;rw[hn] at h4;exact h4
  have h5:=condW_of h4 (w_not (w_lt w_lit (w_len_list (w_arg rfl))));rw[List.length_map] at h5;refine Nat.le_of_not_lt fun q =>?_
  have q':(n:Int) < ((ns.length:Nat):Int):=by omega
  first
   | (rw[decide_eq_true q'] at h5;exact absurd h5 (by decide))
   | (simp at h5;omega)
 cases hwl with
 | cons w1 w2 =>
  cases w2;cases w1 with
  | list ho hall=>exact⟨_,_,ns,rfl,rfl,ho,ae5 ns _ hall,hlen⟩
theorem aon(l:OpenLaw)(args:List WData):l.row.toRowW.claim.post args (.bool true) args=true :=
 postW_of (r:=l.row.toRowW) (X:=(true==true))
  (show WShape.has [] (.bool true) .bool=true by first | rfl | decide | simp[WShape.has,WShape.arms,WShape.armsAll])
  (show(WTm.eq .res (.lit (.bool true))).value [] { args:=args,res:=some (.bool true),after:=args }=some (.bool (true==true)) from w_eq_bool (w_res rfl) w_lit) rfl
theorem akv{l:OpenLaw}{n:Nat}{q:Program}{loose:List Str}{XP:(Str->Option Value)->Heap->Prop}{YP:World->Heap->Prop}{d:DefRec}
  (hn:l.most=some n) (hdf:d.params.defaults=[])
  (call:∀(w:World) (s₀ s₁:Shared) (mg mb:Str->Option Value) (fa:Addr) (o:Obj) (pm cd doc:Value) (a:Addr) (vs:List Value) (ns:List Int),
   Ground q loose [] XP w s₀ mg mb s₁.heap->YP w s₁.heap ->
   s₁.heap.get? fa=some o->o.data=.func (docDef d.name d.params d.body d.scope pm cd doc)->s₁.heap.CodeRec cd d.name->mg d.name=some (.ref fa) ->
   s₁.heap.get? a=some { cls:=.type "list", data:=.seq vs.toArray }->IntsAre vs ns->ns.length<=n->s₁.gens = #[] ->
   codeAny (model l.prog w) callerA (.call (.ref fa) ⟨[.ref a],[]⟩) (fun r s'=>r=.ok (.ret (.bool true))/\OldK s₁.heap s'.heap/\s'.os=s₁.os/\AllBare s'.gens) s₁) :
  WalkO q loose XP YP l.row.toRowW d [] (fun f vs=>PySem.call f vs):=by
 intro w s₀ s₁ mg mb G Y fa o pm cd doc dV kV ho hd hcd hD hmg hg args vals as hpre hlay hrd hwl hlo;obtain rfl:dV=.none:=Dflts.none hD hdf;obtain rfl:kV=.none:=Dflts.noKw hD;obtain⟨a,vs,ns,rfl,rfl,hobj,hints,hlen⟩:=aoe hn hpre hwl;refine enter_call (codeAny_mono (call w s₀ s₁ mg mb fa o pm cd doc a vs ns G Y ho (fd_plain hd) hcd hmg hobj hints hlen hg) fun r s' hq =>?_)
 obtain⟨rfl,h2,h3,h4⟩:=hq;exact⟨.inl ⟨.bool true,.bool true,[],rfl,fun _=>rfl,.bool true,aon l _,fun _=>⟨List.Pairwise.nil,fun _ hm=>(nomatch hm)⟩⟩,h2,h3,h4⟩
section
variable{prog:Program}{w:World}{A:Around}{E:Value->Shared->Prop}{s:Shared}{K:Frag}
end
end Att
namespace L2
theorem ah0:∀{vs:List Value} {ns:List Int},IntsAre vs ns->Vals (ns.map V.int) vs
 | _,_,.nil=>.nil
 | _,_,.cons n t h=>.cons ⟨t,rfl⟩ (ah0 h)
def Only(H:Hp):Prop:=∀b,H b=none∨∃o xs,H b=some (.frz o (.lst xs))
theorem asj{P:Program}{w:World}{K:Fg9}{mg mb:Str->Option Value}{CX:CXT}{k:Nat}{fa a:Addr}{fd:FuncData}{x:Str}{sp:Sp}{s₁:Shared}{vs:List Value}{ns:List Int}
  (KX:K.In s₁.heap) (hns:s₁.heap.Ns mainGlobals mg) (hb:s₁.heap.Ns builtinsNs mb) (hbb:∀x:Str,x ≠ "__name__" -> mb x=bootBuiltins x) (hlim:s₁.heap.NoLimit) (hg:s₁.gens = #[])
  (ha:s₁.heap.get? a=some { cls:=.type "list", data:=.seq vs.toArray }) (hi:IntsAre vs ns) (hl:ns.length<=sizeLine) (hr:Room k callerA)
  (F:∀base:Heap,K.In base->base.Ns mainGlobals mg->FnOk P w K mg base CX k fa fd [x] sp) (hbind:∀(s:Shared) (u:Value),BindsTo s fd ⟨[u],[]⟩ [(x,u)])
  (hsp:∀H:Hp,Only H->SqL K H a (ns.map V.int)->sp [.ref a] H (fun v _=>v=.bl true) fun _ _ _=>False)
  (hCX:∀H e s',CX [] H s₁ (fun _ _ _=>False) e s'->False) :
  codeAny (model P w) callerA (.call (.ref fa) ⟨[.ref a],[]⟩) (fun r s'=>r=.ok (.ret (.bool true))/\OldK s₁.heap s'.heap/\s'.os=s₁.os/\AllBare s'.gens) s₁:=by
 have rv:=ah0 hi;have lenV:=hi.length;have core:∀H:Hp,Only H->SqL K H a (ns.map V.int)->HOk P w H s₁.heap->(∀b,H b≠none->b=a)->(H a≠none->K.lookup a=none) ->
   codeAny (model P w) callerA (.call (.ref fa) ⟨[.ref a],[]⟩) (fun r s'=>r=.ok (.ret (.bool true))/\OldK s₁.heap s'.heap/\s'.os=s₁.os/\AllBare s'.gens) s₁:=by
  intro H hO hS hok hA hK;have base_of:∀{b:Addr} {o:Obj},s₁.heap.get? b=some o->H b=none->(hidT s₁.heap H).get? b=some o:=fun e n=>asv e n
  have noA:∀{b:Addr} {o:Obj} {es:Array DictEntry} {ep:Nat},s₁.heap.get? b=some o->o.data=.dict es ep->H b=none:=fun{b o es ep} e d=>by
   cases q:H b with
   | none=>rfl
   | some u =>
    have e':b=a:=hA b (by rw[q];simp)
    subst e';rw[ha] at e;cases e;have d':Data.seq vs.toArray _=Data.dict es ep:=d;cases d'
  have nsK:∀{b:Addr} {m:Str->Option Value},s₁.heap.Ns b m->(hidT s₁.heap H).Ns b m:=fun{b m} ⟨o,es,ep,e,d,r⟩=>⟨o,es,ep,base_of e (noA e d),d,r⟩
  have hKb:K.In (hidT s₁.heap H):=fun b o e=>base_of (KX b o e) (by
   cases q:H b with
   | none=>rfl
   | some u =>
    have e':b=a:=hA b (by rw[q];simp)
    subst e';rw[hK (by rw[q];simp)] at e;cases e)
  have hM:Mod K mg (hidT s₁.heap H):=⟨hKb,nsK hns,⟨mb,nsK hb,hbb⟩,let ⟨mc,h1,h2⟩:=hlim;⟨mc,nsK h1,h2⟩⟩
  have e0:Env0 P w K mg (hidT s₁.heap H) callerA [] s₁ H:=⟨rfl,hM,fun b o e=>av0 e,Nat.le_of_eq (apf _ _),trivial,fun b hb=>absurd (show b∈([]:List Addr) from hb) (by simp),hok,.of_eq hg⟩
  refine codeAny_mono ((F _ hKb (nsK hns)).run callerA [] s₁ H ⟨[.ref a],[]⟩ [.ref a] [.ref a] _ _ hr e0 (hbind s₁ (.ref a)) (.cons rfl .nil) (hsp H hO hS)) fun r s' h =>?_
  cases r with
  | error e=>exact(hCX H e s' h).elim
  | ok fl =>
   cases fl with
   | next=>exact False.elim h
   | brk=>exact False.elim h
   | cont=>exact False.elim h
   | ret u =>
    obtain⟨v,H',os,bare,un,hok',r',q⟩:=h;have q':v=.bl true:=q;subst q';obtain rfl:u=Value.bool true:=r';refine⟨rfl,OldK.of_keep fun b o e =>?_,os,bare⟩
    cases q:H b with
    | none=>exact un.keep b o e q (by intro z;exact absurd (show b∈([]:List Addr) from z) (by simp)) (by simp)
    | some u =>
     rcases hO b with z | ⟨ob,xs,z⟩
     ·rw[q] at z;cases z
     ·have z2:=un.frzs b ob _ z;obtain⟨e1,_⟩:=hok b _ z;obtain⟨e2,_⟩:=hok' b _ z2;rw[e] at e1;cases e1;exact e2
 cases hk:K.lookup a with
 | some o =>
  have e:=KX a o hk;rw[ha] at e;cases e;refine core (fun _=>none) (fun _=>.inl rfl) (.inr ⟨_,vs.toArray,_,hk,rfl,rfl,rfl,by rw[List.size_toArray,lenV];exact hl,by simpa using rv⟩) (fun b u z=>by have z':(none:Option HO)=some u:=z;cases z') (fun b z=>absurd rfl z) fun z=>absurd rfl z
 | none =>
  refine core (fun b=>if b=a then some (.frz { cls:=.type "list", data:=.seq vs.toArray } (.lst (ns.map V.int))) else none) (fun b =>?_) (.inl (.inr ⟨{ cls:=.type "list", data:=.seq vs.toArray },if_pos rfl⟩)) (fun b u z =>?_) (fun b z =>?_) fun _=>hk
  ·by_cases hb:b=a
   ·exact .inr ⟨_,_,if_pos hb⟩
   ·exact .inl (if_neg hb)
  ·by_cases hb:b=a
   ·have z':=(if_pos hb).symm.trans z;cases z';subst hb;exact⟨ha,by rw[List.length_map];exact hl,vs,_,rv,ha⟩
   ·have z':=(if_neg hb).symm.trans z;cases z'
  ·by_cases hb:b=a
   ·exact hb
   ·exact absurd (if_neg hb) z
theorem aul{l:PySem.W.OpenLaw}{n k:Nat}{q:Program}{loose:List Str}{XP:(Str->Option Value)->Heap->Prop}{YP:World->Heap->Prop}{d:DefRec}{K:Params->Fg9}{CX:World->CXT}{sp:World->Sp}{x:Str}
  (hn:l.most=some n) (hn2:n<=sizeLine) (hdf:d.params.defaults=[]) (hr:Room k callerA)
  (hY:∀(w:World) (h:Heap),YP w h->(K w.params).In h)
  (F:∀(w:World) (mg:Str->Option Value) (fa:Addr) (h:Heap),(K w.params).In h->h.Ns mainGlobals mg->mg d.name=some (.ref fa) ->
   ∃fd:FuncData,(∀(s:Shared) (u:Value),BindsTo s fd ⟨[u],[]⟩ [(x,u)]) /\
    ∀base:Heap,(K w.params).In base->base.Ns mainGlobals mg->FnOk l.prog w (K w.params) mg base (CX w) k fa fd [x] (sp w))
  (hsp:∀(w:World) (H:Hp) (a:Addr) (ns:List Int),ns.length<=n->Only H->SqL (K w.params) H a (ns.map V.int)->sp w [.ref a] H (fun v _=>v=.bl true) fun _ _ _=>False)
  (hCX:∀(w:World) (H:Hp) (s:Shared) (e:Value) (s':Shared),CX w [] H s (fun _ _ _=>False) e s'->False) :
  PySem.W.WalkO q loose XP YP l.row.toRowW d [] (fun f vs=>PySem.call f vs):=by
 refine Att.akv hn hdf fun w s₀ s₁ mg mb fa o pm cd doc a vs ns G Y ho hd hcd hmg hobj hints hlen hg =>?_
 have KX:=hY w _ Y;obtain⟨fd,hb,hF⟩:=F w mg fa _ KX G.T.g hmg;exact asj KX G.T.g G.T.b G.T.builtins G.T.nolimit hg hobj hints (Nat.le_trans hlen hn2) hr hF hb (fun H hO hS=>hsp w H a ns hlen hO hS) fun H e s'=>hCX w H s₁ e s'
def dq(s:Stmt):Arguments:=match s with
 | .FunctionDef _ a _ _ _ _ _ _ _ _=>a
 | _=>{ posonlyargs:=[],args:=[],vararg:=none,kwonlyargs:=[],kw_defaults:=[],kwarg:=none,defaults:=[] }
def cz(s:Stmt):List Stmt:=match s with
 | .FunctionDef _ _ b _ _ _ _ _ _ _=>b
 | _=>[]
def aj(s:Stmt):Scope:=match s with
 | .FunctionDef _ _ _ _ _ _ sc _ _ _=>sc
 | _=>{ kind:=.function,names:=[],isGenerator:=false,isCoroutine:=false }
abbrev CX0:CXT:=fun _ _ _ _ _ _=>False
abbrev E0:XK:=fun _ _ _=>False
theorem avt{X:Cx}:agn CX0 X E0:=fun _ _ _ _ _ _ _ h=>h.elim
structure Fun (K:Fg9) (x qual:Str) (st:Stmt) (f:Addr) (fd:FuncData):Prop where
 ex:∃(oc:Value) (od:Option Addr) (kV doc pm:Value) (an:Option Addr) (cdv ct:Value) (osl:Array (Option Value)),
  fd=fnOf x qual (dq st) (cz st) (aj st) .none kV doc pm an cdv ct/\K.lookup f=some ⟨oc,od,.func fd,osl⟩/\codeIn K cdv qual=true
 kp:keepIn K (.ref f)=true
section
variable{P:Program}{w:World}{K:Fg9}{mg:Str->Option Value}{base:Heap}
theorem Fun.ok{x qual:Str}{st:Stmt}{f:Addr}{fd:FuncData}{N ps:List Str}{k:Nat}{sp:Sp}(F:Fun K x qual st f fd)(S:FnScope N ps (aj st))(len:∀vs H Q E,sp vs H Q E->vs.length=ps.length)
  (hbody:∀(cdv:Value) (A:Around) (outer:List Env) (s:Shared) (H:Hp) (vs:List V) (Q:VK) (E:XK),Room k (A.deeper (envOfC qual (aj st) s.heap.objs.size f cdv))->sp vs H Q E ->
   ∃t,PSs (cxOf CX0 P w K mg base N qual (aj st) f cdv A outer s H E).nox (cz st) t/\t { nx:=fun _ H'=>Q .non H',rt:=Q } (start N vs) H):FnOk P w K mg base CX0 (k+1) f fd ps sp:=by
 obtain⟨oc,od,kV,doc,pm,an,cdv,ct,osl,rfl,lk,hcd⟩:=F.ex;refine a5a lk hcd S len fun A outer s H vs Q E hr hsp =>?_
 obtain⟨t,h,q⟩:=hbody cdv A outer s H vs Q E hr hsp;exact⟨t,h.nox,q⟩
theorem Fun.binds{x qual:Str}{st:Stmt}{f:Addr}{fd:FuncData}{ps:List Str}(F:Fun K x qual st f fd)
  (h:∀(kV doc pm:Value) (an:Option Addr) (cdv ct:Value) (us:List Value),us.length=ps.length->bindArgs (fnOf x qual (dq st) (cz st) (aj st) .none kV doc pm an cdv ct) ⟨us,[]⟩=pure (ps.zip us)):Binds K fd ps []:=by
 obtain⟨oc,od,kV,doc,pm,an,cdv,ct,osl,rfl,lk,hcd⟩:=F.ex;exact .all (h kV doc pm an cdv ct)
theorem jg{x qual:Str}{st:Stmt}{f:Addr}{oc:Value}{od an:Option Addr}{osl:Array (Option Value)}{kV doc pm cdv ct:Value}(l:K.lookup f=some ⟨oc,od,.func (fnOf x qual (dq st) (cz st) (aj st) .none kV doc pm an cdv ct),osl⟩)
  (c:codeIn K cdv qual=true) (k:keepIn K (.ref f)=true):Fun K x qual st f (fnOf x qual (dq st) (cz st) (aj st) .none kV doc pm an cdv ct):=⟨⟨oc,od,kV,doc,pm,an,cdv,ct,osl,rfl,l,c⟩,k⟩
end
theorem aoa{n:Nat}(h:n<=1000):n < sizeLine:=Nat.lt_of_le_of_lt h (by decide)
section
variable{X:Cx}
theorem pv(i:Nat){x:Str}{pos:Pos}(hN:X.N[i]? = some x:=by rfl)(hv:Vis X.env.scope x:=by first | exact Or.inl rfl | exact Or.inr (Or.inl rfl) | exact Or.inr (Or.inr rfl))(hd:(x==("__debug__" : Str))=false:=by decide)
  (hcd:(x==("__classdict__" : Str))=false:=by decide):PE X (.Name x pos) (tVar i):=ayp hN hv hd hcd
end
theorem iteF{A B:Prop}(h:B):if false=true then A else B:=by
 rw[if_neg Bool.false_ne_true];exact h
theorem iteT{A B:Prop}(h:A):if true=true then A else B:=by
 rw[if_pos rfl];exact h
def Same(H H':Hp):Prop:=∀b o,H b=some o->H' b=some o
theorem Same.refl(H:Hp):Same H H:=fun _ _ h=>h
theorem Same.trans{H H1 H2:Hp}(a:Same H H1)(b:Same H1 H2):Same H H2:=fun c o h=>b c o (a c o h)
theorem Same.free{H H':Hp}(e:Same H H'){l:Addr}(h:H' l=Option.none):H l=Option.none:=by
 cases q:H l with
 | none=>rfl
 | some o =>
  rw[e l o q] at h;cases h
theorem Same.seq{K:Fg9}{H H':Hp}{a:Addr}{xs:List V}(e:Same H H')(h:SqL K H a xs):SqL K H' a xs:=by
 rcases h with(h | ⟨o,h⟩) | h
 ·exact .inl (.inl (e _ _ h))
 ·exact .inl (.inr ⟨o,e _ _ h⟩)
 ·exact .inr h
end L2
namespace Mn
open L2
def aa8(env:Env)(fr:List Str):List (Str×Addr):=fr.filterMap fun n=>(env.cells.lookup n).map fun c=>(n,c)
theorem afs{env:Env}{n:Str}{r:List Str}(e:env.cells.lookup n=none):aa8 env (n::r)=aa8 env r:=by
 unfold aa8;rw[List.filterMap_cons,e];rfl
theorem aca{env:Env}{n:Str}{r:List Str}{c:Addr}(e:env.cells.lookup n=some c):aa8 env (n::r)=(n,c)::aa8 env r:=by
 unfold aa8;rw[List.filterMap_cons,e];rfl
theorem look_same{x:Str}{c:Addr}{l:List (Str×Addr)}:List.lookup x ((x,c)::l)=some c:=by
 have hb:(x==x)=true:=beq_iff_eq.mpr rfl;simp only[List.lookup,hb]
theorem agi{x n:Str}{c:Addr}{l:List (Str×Addr)}(h:x≠n):List.lookup x ((n,c)::l)=l.lookup x:=by
 have hb:(x==n)=false:=beq_eq_false_iff_ne.mpr h;simp only[List.lookup,hb]
theorem uh{env:Env}:∀{fr:List Str} {x:Str} {c:Addr},(aa8 env fr).lookup x=some c->env.cells.lookup x=some c
 | [],x,c,h=>by
  have h':(none:Option Addr)=some c:=h;cases h'
 | n::r,x,c,h=>by
  cases e:env.cells.lookup n with
  | none =>
   rw[afs e] at h;exact uh h
  | some d =>
   rw[aca e] at h
   by_cases hx:x=n
   ·subst hx;rw[look_same] at h;rw[e];exact h
   ·rw[agi hx] at h;exact uh h
theorem abm{env:Env}:∀{fr:List Str} {x:Str} {c:Addr},x∈fr->env.cells.lookup x=some c->(aa8 env fr).lookup x=some c
 | [],x,c,hm,h=>absurd hm (by simp)
 | n::r,x,c,hm,h=>by
  by_cases hx:x=n
  ·subst hx;rw[aca h,look_same]
  ·have hm':x∈r:=(List.mem_cons.mp hm).elim (fun e=>absurd e hx) id
   cases e:env.cells.lookup n with
   | none =>
    rw[afs e];exact abm hm' h
   | some d =>
    rw[aca e,agi hx];exact abm hm' h
def ac8(XN fr:List Str):List Str->List (Option Nat)->Bool
 | [],[]=>true
 | _::N,none::r=>ac8 XN fr N r
 | x::N,some j::r=>XN[j]? == some x&&fr.contains x&&ac8 XN fr N r
 | _,_=>false
theorem aeo{XN fr:List Str}:∀{N:List Str} {src:List (Option Nat)} {i j:Nat} {x:Str},ac8 XN fr N src=true->N[i]? = some x->src[i]? = some (some j)->XN[j]? = some x/\x∈fr
 | [],[],i,j,x,_,h,_=>by simp at h
 | [],_::_,i,j,x,_,h,_=>by simp at h
 | _::_,[],i,j,x,_,_,h=>by simp at h
 | y::N,none::r,0,j,x,_,_,h=>by simp at h
 | y::N,none::r,i+1,j,x,hk,h1,h2=>aeo (N:=N) (src:=r) (i:=i) hk (by simpa using h1) (by simpa using h2)
 | y::N,some k::r,0,j,x,hk,h1,h2=>by
  simp only[ac8,Bool.and_eq_true] at hk;obtain⟨⟨a,b⟩,_⟩:=hk;simp at h1 h2;subst h1 h2;exact⟨by simpa using a,by simpa using b⟩
 | y::N,some k::r,i+1,j,x,hk,h1,h2=>by
  simp only[ac8,Bool.and_eq_true] at hk;exact aeo (N:=N) (src:=r) (i:=i) hk.2 (by simpa using h1) (by simpa using h2)
theorem aen{XN fr:List Str}:∀{N:List Str} {src:List (Option Nat)},ac8 XN fr N src=true->src.length=N.length
 | [],[],_=>rfl
 | [],_::_,h=>by simp[ac8] at h
 | _::_,[],h=>by simp[ac8] at h
 | _::N,none::r,h=>by
  have:=aen (N:=N) (src:=r) h;simp[this]
 | _::N,some k::r,h=>by
  simp only[ac8,Bool.and_eq_true] at h;have:=aen (N:=N) (src:=r) h.2;simp[this]
def pick(src:List (Option Nat))(σ:L2.St):L2.St:=src.map fun o=>o.bind fun j=>(σ[j]?).bind id
theorem aru{src:List (Option Nat)}{σ:L2.St}{i:Nat}{v:V}(h:(pick src σ)[i]? = some (some v)):∃j,src[i]? = some (some j)/\σ[j]? = some (some v):=by
 unfold pick at h;rw[List.getElem?_map] at h;cases e:src[i]? with
 | none=>rw[e] at h;cases h
 | some o =>
  rw[e] at h;have h':(o.bind fun j=>(σ[j]?).bind id)=some v:=Option.some.inj h
  cases o with
  | none=>cases h'
  | some j =>
   refine⟨j,rfl,?_⟩;have h2:(σ[j]?).bind id=some v:=h';cases q:σ[j]? with
   | none=>rw[q] at h2;cases h2
   | some z =>
    rw[q] at h2;have h3:z=some v:=h2;rw[h3]
def alz(env:Env)(XN:List Str)(scope:Scope)(fr N:List Str)(src:List (Option Nat)):Bool :=
 scope.names.all (fun y=>y.2 != .cell&&(y.2 != .local||scope.names.lookup y.1==some .local)&&(y.2 != .free||fr.contains y.1)) &&
 fr.all (fun x=>scope.names.lookup x==some .free&&(env.kindOf x==some .cell||env.kindOf x==some .free))&&ac8 XN fr N src
structure CompOk (env:Env) (XN:List Str) (scope:Scope) (fr N:List Str) (src:List (Option Nat)):Prop where
 cell:∀y∈scope.names,y.2≠.cell
 loc:∀y∈scope.names,y.2=.local->scope.names.lookup y.1=some .local
 free:∀y∈scope.names,y.2=.free->y.1∈fr
 frk:∀x∈fr,scope.names.lookup x=some .free
 out:∀x∈fr,env.kindOf x=some .cell∨env.kindOf x=some .free
 src:ac8 XN fr N src=true
theorem CompOk.of{env:Env}{XN:List Str}{scope:Scope}{fr N:List Str}{src:List (Option Nat)}(h:alz env XN scope fr N src=true):CompOk env XN scope fr N src:=by
 simp only[alz,Bool.and_eq_true,List.all_eq_true] at h;obtain⟨⟨h1,h2⟩,h3⟩:=h;refine⟨fun y hy =>?_,fun y hy e =>?_,fun y hy e =>?_,fun x hx =>?_,fun x hx =>?_,h3⟩
 ·have:=(h1 y hy).1.1
  simpa using this
 ·have:=(h1 y hy).1.2;rw[e] at this
  simpa using this
 ·have:=(h1 y hy).2;rw[e] at this
  simpa using this
 ·have:=(h2 x hx).1
  simpa using this
 ·have:=(h2 x hx).2
  simpa using this
theorem ad1{env:Env}:∀{names:List (Str×NameKind)} {x:Str} {k:NameKind},
  (names.map fun(n,k)=>if (k==NameKind.free&&env.scope.kind==.function&&env.kindOf n==some .cell) then (n,NameKind.cell) else (n,k)).lookup x=some k ->
  ∃k0,names.lookup x=some k0/\(k=k0∨(k0=.free/\k=.cell))
 | [],x,k,h=>by simp at h
 | (n,q)::r,x,k,h=>by
  by_cases hx:x=n
  ·subst hx;have hb:(x==x)=true:=beq_iff_eq.mpr rfl;refine⟨q,by simp only[List.lookup,hb],?_⟩
   by_cases hc:(q==NameKind.free&&env.scope.kind==.function&&env.kindOf x==some .cell)=true
   ·rw[List.map_cons] at h;simp only[hc,if_true,List.lookup,hb] at h;simp only[Bool.and_eq_true] at hc;exact .inr ⟨by simpa using hc.1.1,(Option.some.inj h).symm⟩
   ·rw[List.map_cons] at h;simp only[hc,List.lookup,hb] at h;exact .inl (by simpa using h.symm)
  ·have hb:(x==n)=false:=beq_eq_false_iff_ne.mpr hx;have h':(r.map fun(n,k)=>if (k==NameKind.free&&env.scope.kind==.function&&env.kindOf n==some .cell) then (n,NameKind.cell) else (n,k)).lookup x=some k:=by
    rw[List.map_cons] at h
    by_cases hc:(q==NameKind.free&&env.scope.kind==.function&&env.kindOf n==some .cell)=true
    ·simp only[hc,if_true,List.lookup,hb] at h;exact h
    ·have h2:List.lookup x ((if (q==NameKind.free&&env.scope.kind==.function&&env.kindOf n==some .cell)=true then (n,NameKind.cell) else (n,q))::(r.map fun(n,k)=>if (k==NameKind.free&&env.scope.kind==.function&&env.kindOf n==some .cell) then (n,NameKind.cell) else (n,k)))=some k:=h
     rw[if_neg hc] at h2;simp only[List.lookup,hb] at h2;exact h2
   obtain⟨k0,e,d⟩:=ad1 h';exact⟨k0,by simp only[List.lookup,hb];exact e,d⟩
theorem aax{env:Env}:∀{names:List (Str×NameKind)} {x:Str},names.lookup x=some .free ->
  (names.map fun(n,k)=>if (k==NameKind.free&&env.scope.kind==.function&&env.kindOf n==some .cell) then (n,NameKind.cell) else (n,k)).lookup x=some .free ∨
  (names.map fun(n,k)=>if (k==NameKind.free&&env.scope.kind==.function&&env.kindOf n==some .cell) then (n,NameKind.cell) else (n,k)).lookup x=some .cell
 | [],x,h=>by simp at h
 | (n,q)::r,x,h=>by
  by_cases hx:x=n
  ·subst hx;have hb:(x==x)=true:=beq_iff_eq.mpr rfl;simp only[List.lookup,hb] at h;have hq:q=.free:=Option.some.inj h;subst hq
   by_cases hc:(NameKind.free==NameKind.free&&env.scope.kind==.function&&env.kindOf x==some .cell)=true
   ·right
    rw[List.map_cons];simp only[hc,if_true,List.lookup,hb]
   ·left
    show List.lookup x ((if (NameKind.free==NameKind.free&&env.scope.kind==.function&&env.kindOf x==some .cell)=true then (x,NameKind.cell) else (x,NameKind.free))::_)=some NameKind.free
    rw[if_neg hc];simp only[List.lookup,hb]
  ·have hb:(x==n)=false:=beq_eq_false_iff_ne.mpr hx;simp only[List.lookup,hb] at h;rw[List.map_cons]
   by_cases hc:(q==NameKind.free&&env.scope.kind==.function&&env.kindOf n==some .cell)=true
   ·simp only[hc,if_true,List.lookup,hb];exact aax h
   ·simp only[hc,List.lookup,hb]
    simpa[List.lookup,hb] using aax (env:=env) h
def cxC(X:Cx)(N:List Str)(scope:Scope)(fr:List Str)(fp:List Addr)(s:Shared)(H:Hp):Cx where
 prog:=X.prog
 w:=X.w
 K:=X.K
 mg:=X.mg
 base:=X.base
 A:=X.A
 N:=N
 s₀:=s
 H₀:=H
 env:=compEnvC scope (aa8 X.env fr) s.heap.objs.size X.env
 outer:=X.stack
 stack:=X.stack
 ex:=fp
 fn:=fun _=>false
 calm:=X.calm
 pn:=[]
 xe:=fun _ _=>False
section
variable{X:Cx}{zv:List (Addr×Obj)}{σ:L2.St}{H:Hp}{s:Shared}{scope:Scope}{fr N:List Str}{src:List (Option Nat)}{fp:List Addr}
theorem a0j(I:Inv X zv σ H s)(C:CompOk X.env X.N scope fr N src)(hkind:scope.kind=.function)(hf:∀b∈fp,FpOk X zv H b)(hl:∀b∈fp,b < s.heap.objs.size):(cxC X N scope fr fp s H).Ok where
 mod:=I.ok.mod
 kind:=hkind
 glob:=I.ok.glob
 blt:=I.ok.blt
 above:=Nat.le_refl _
 inj:=fun x y c h1 h2=>I.ok.inj x y c (uh h1) (uh h2)
 has:=fun x hx=>by
  have mem:∀k,(k=NameKind.cell∨k=NameKind.free)->(cxC X N scope fr fp s H).env.kindOf x=some k->x∈fr:=fun k hk e=>by
   obtain⟨k0,e0,d⟩:=ad1 (env:=X.env) (names:=scope.names) e;have hm:=PySem.mem_of_lookup e0;rcases d with rfl | ⟨rfl,_⟩
   ·rcases hk with rfl | rfl
    ·exact absurd rfl (C.cell _ hm)
    ·exact C.free _ hm rfl
   ·exact C.free _ hm rfl
  have hm:x∈fr:=by
   rcases hx with e | e
   ·exact mem _ (.inl rfl) e
   ·exact mem _ (.inr rfl) e
  obtain⟨c,hc⟩:=I.ok.has x (C.out x hm);exact⟨c,abm hm hc⟩
 cab:=fun _ _ h _=>absurd h Bool.false_ne_true
 hd:=I.ok.hd
 frames:=I.ok.frames
 stk:=.inl rfl
 exf:=fun b hb=>⟨Nat.ne_of_lt (hl b hb),fun x c e=>(hf b hb).2.2.2.2.1 x c (uh e)⟩
 bs:=I.bs
 bsz:=Nat.le_trans I.ok.bsz I.sz
 noex:=fun b o e hb=>by
  rcases(hf b hb).2.2.2.1 with z | z
  ·exact I.ok.noex b o e z
  ·exact absurd (Nat.lt_of_lt_of_le (Heap.lt_size e) (Nat.le_trans I.ok.bsz z)) (Nat.lt_irrefl _)
 exfs:=fun b hb z=>by
  rcases List.mem_cons.mp (I.stkSub b z) with e | e
  ·exact(hf b hb).2.1 e
  ·exact(hf b hb).2.2.1 e
 funs:=I.stack
 frf:=I.stkFree
theorem asr(I:Inv X zv σ H s)(C:CompOk X.env X.N scope fr N src)(hkind:scope.kind=.function)(hf:∀b∈fp,FpOk X zv H b)(hl:∀b∈fp,b < s.heap.objs.size){h':Heap}{tk:Nat}{m:Str->Option Value}
  (hns:h'.Ns s.heap.objs.size m) (hk:∀b o,s.heap.get? b=some o->h'.get? b=some o):Inv (cxC X N scope fr fp s H) [] (pick src σ) H { s with heap:=h',toks:=tk } where
 ok:=a0j I C hkind hf hl
 os:=rfl
 bare:=I.bare
 base:=Un.kept hk
 loc:=by
  refine⟨m,hns,fun i x v h1 h2 h3 =>?_⟩
  obtain⟨j,hj,hv⟩:=aru h2;obtain⟨hN,hm⟩:=aeo C.src h1 hj;obtain⟨mo,_,hlo⟩:=I.loc;have vis:Vis X.env.scope x:=by
   rcases C.out x hm with e | e
   ·exact .inr (.inl e)
   ·exact .inr (.inr e)
  obtain⟨u,r,l⟩:=hlo j x v hN hv vis;refine⟨u,r,.inr ⟨?_,?_⟩⟩
  ·rcases aax (env:=X.env) (C.frk x hm) with e | e
   ·exact .inr e
   ·exact .inl e
  ·rcases l with⟨e,_⟩ | ⟨_,c,hc,z⟩
   ·rcases C.out x hm with q | q
    ·rw[q] at e;cases e
    ·rw[q] at e;cases e
   ·obtain⟨o,ho,hd⟩:=z;exact⟨c,abm hm hc,o,hk c o ho,hd⟩
 cell:=fun x c e=>by
  obtain⟨v,o,ho,hd⟩:=I.cell x c (uh e);exact⟨v,o,hk c o ho,hd⟩
 free:=I.hok.fresh (Nat.le_refl _)
 freeC:=fun x c e=>I.freeC x c (uh e)
 pin:=fun p hp=>absurd (show p∈([]:List (Addr×Obj)) from hp) (by simp)
 hok:=I.hok.kept hk
 len:=by
  unfold pick;rw[List.length_map];exact aen C.src
theorem ass{pins':List (Addr×Obj)}{σ':L2.St}{H':Hp}{s':Shared}{h'':Heap}(I:Inv X zv σ H s)(hf:∀b∈fp,FpOk X zv H b)(J:Inv (cxC X N scope fr fp s H) pins' σ' H' s')
  (hs:Heap.SameBut s.heap.objs.size s'.heap h''):Inv X zv σ H' { s' with heap:=h'' }:=by
 have k:∀b o,b≠s.heap.objs.size->s'.heap.get? b=some o->h''.get? b=some o:=fun b o hb e=>(hs.2 b hb).trans e
 have old:∀b o,s.heap.get? b=some o->b≠s.heap.objs.size:=fun b o e=>Nat.ne_of_lt (Heap.lt_size e)
 have un:Un (frs X.stack) fp H H' s.heap h'':=by
  have u:Un (frs X.stack) fp H H' s.heap s'.heap:=J.base;refine⟨fun b o e n hb hx=>k b o (old b o e) (u.keep b o e n hb hx),fun b o e n hb hx =>?_,u.free,fun b o e hx =>?_,u.tups,u.frzs,u.tbls⟩
  ·obtain⟨sl,q⟩:=u.slot b o e n hb hx;exact⟨sl,k b _ (old b o e) q⟩
  ·obtain⟨o',q⟩:=u.there b o e hx;exact⟨o',k b _ (old b o e) q⟩
 have hok:HOk X.prog X.w H' h'':=fun b u e=>by
  have nC:∀c z,H' c=some z->c≠s.heap.objs.size:=fun c z q w=>by
   have f:H' s.heap.objs.size=none:=J.free;rw[w,f] at q;cases q
  refine(J.hok b u e).stay (fun c v hc q=>k c v ?_ q) (fun _ q=>q) fun _ _ q=>q
  rcases hc with z | z
  ·rw[z];exact nC b u e
  ·exact nC c _ z
 have os:s'.os=s.os:=J.os;refine Inv.call' (s':={ s' with heap:=h'' }) I os un hok J.bare fun b hb =>?_
 obtain⟨_,f1,_,f3,f4,f5⟩:=hf b hb;exact⟨f3,f1,f4,f5⟩
end
def ajz(ifs:List Expr)(env:Env):Sem Bool:=forIn ifs true fun c r=>if r=true then do let ok <-isTrue c env (eval c env);pure (ForInStep.yield ok) else pure (ForInStep.yield r)
def PIf(X:Cx)(ifs:List Expr)(t:TT):Prop :=
 ∀(zv:List (Addr×Obj)) (s:Shared) (σ:L2.St) (H:Hp) (Q:Bool->Hp->Prop),Inv X zv σ H s->t σ H Q->wpAny (model X.prog X.w) X.A (ajz ifs X.env) (TP X zv σ Q) X.xe s
def tYes:TT:=fun _ H Q=>Q true H
theorem ave{X:Cx}:PIf X [] tYes:=fun zv s σ H Q I h=>by
 show wpAny _ _ (pure true) _ _ s;exact wpAny_pure ⟨H,I,h⟩
theorem avd{X:Cx}{c:Expr}{t:TT}(hc:PT X c t):PIf X [c] t:=fun zv s σ H Q I h=>by
 unfold ajz;rw[List.forIn_cons];rw[if_pos rfl];refine wpAny_bind (wpAny_bind (thn (hc zv s σ H _ I h) fun b s1 q=>wpAny_pure ?_))
 show wpAny _ _ (forIn [] b _) _ _ s1;exact wpAny_pure q
section
variable{prog:Program}{w:World}{A:Around}{R:Result->Shared->Prop}{s:Shared}
theorem compLoop{elt target iter:Expr}{ifs:List Expr}{scope:Scope}{pos:Pos}{it acc:Value}{env:Env}(I:Nat->Shared->Prop)
  (turn:∀n s,I n s->wpAny (model prog w) A (pyNext it) (fun r s₁=>match r with
   | none=>R (.ok .next) s₁
   | some v=>wpAny (model prog w) A (letOwnedTupleGo target it v) (fun _ s₁'=>wpAny (model prog w) A (assign target env v) (fun _ s₂ =>
     wpAny (model prog w) A (ajz ifs env) (fun ok s₃ =>
      if ok=true then wpAny (model prog w) A (eval elt env) (fun x s₄ =>
       wpAny (model prog w) A (call (.builtin "list.append") [acc,x]) (fun _ s₅=>∃m,m < n/\I m s₅) (fun _ _=>False) s₄) (fun _ _=>False) s₃
      else ∃m,m < n/\I m s₃) (fun _ _=>False) s₂) (fun _ _=>False) s₁') (fun _ _=>False) s₁) (fun _ _=>False) s)
  (n:Nat) (h:I n s) :
  codeAny (model prog w) A (.compLoop (.ListComp elt [⟨target,iter,ifs,0⟩] scope pos) 0 it acc env) R s:=by
 refine codeAny_loop rfl I (fun n s hI =>?_) n h
 show wpAny _ A ((compTurn (.ListComp elt [⟨target,iter,ifs,0⟩] scope pos) 0 it acc env).onRaise (fun x=>do noteFrame x env;theTreesLotGoes x)) _ _ s
 refine wpAny_noted ?_;rw[compTurn_list];refine wpAny_bind (wpAny_standAt (wpAny_bind (wpAny_mono (turn n s hI) (fun r s₁ h₁ =>?_) fun _ _ h'=>h'.elim)))
 cases r with
 | none=>exact wpAny_pure h₁
 | some v =>
  refine wpAny_bind (wpAny_mono h₁ (fun _ s₁' h₁' =>?_) fun _ _ h'=>h'.elim)
  refine wpAny_bind (wpAny_mono h₁' (fun _ s₂ h₂=>wpAny_bind (wpAny_mono h₂ (fun ok s₃ h₃ =>?_) fun _ _ h'=>h'.elim)) fun _ _ h'=>h'.elim)
  cases ok with
  | false=>exact wpAny_pure ⟨rfl,h₃⟩
  | true =>
   exact wpAny_bind (wpAny_bind (wpAny_mono h₃ (fun x s₄ h₄=>wpAny_bind (wpAny_mono h₄ (fun _ s₅ h₅=>wpAny_pure (wpAny_pure ⟨rfl,h₅⟩)) fun _ _ h'=>h'.elim)) fun _ _ h'=>h'.elim))
end
def a0x(J:It)(g:TG)(ti:TT)(te:TE)(Q:VK)(d:Addr)(σ0:L2.St)(H1:Hp):Prop :=
 ∃W:Nat->Nat->List V->L2.St->Hp->Prop,(∃m,W 0 m [] σ0 (upd H1 d (.lst [])))/\∀i m ys σ H2,W i m ys σ H2->H2 d=some (.lst ys) /\
  ((J.stop i H2/\Q (.ref d) H2)∨(J.go i H2/\∀x H3,J.yld i H2 x H3->g x σ H3 fun σ4 H4=>ti σ4 H4 fun b H5 =>
   if b=true then te σ4 H5 fun y H6=>H6 d=some (.lst ys)/\ys.length < sizeLine/\∃m',m' < m/\W (i+1) m' (ys++[y]) σ4 (upd H6 d (.lst (ys++[y]))) else ∃m',m' < m/\W (i+1) m' ys σ4 H5))
def ax0(wi:TI)(g:TG)(ti:TT)(te:TE)(src:List (Option Nat)):TE:=fun σ H Q=>wi σ H fun J H1=>∀d,H1 d=none->a0x J g ti te Q d (pick src σ) H1
theorem ap4{X:Cx}{tg iter elt:Expr}{ifs:List Expr}{scope:Scope}{pos:Pos}{J:It}{fp:List Addr}{it d:Addr}{tn:Nat->Heap->Prop}{g:TG}{ti:TT}{te:TE}{Q:VK}{R:Result->Shared->Prop}
  {W:Nat->Nat->List V->L2.St->Hp->Prop} {m0:Nat} {σ0:L2.St} {H0:Hp} {s:Shared} (hc:X.calm=true) (hE:X.xe=fun _ _=>False) (T:Turn X.prog X.w X.K tg J fp it tn)
  (hf:∀H':Hp,(∀b∈fp,H' b=none)->∀b∈fp,FpOk X [] H' b) (hg:PG X tg g) (ht:PIf X ifs ti) (he:PE X elt te)
  (turn:∀i m ys σ H2,W i m ys σ H2->H2 d=some (.lst ys) /\
   ((J.stop i H2/\Q (.ref d) H2)∨(J.go i H2/\∀x H3,J.yld i H2 x H3->g x σ H3 fun σ4 H4=>ti σ4 H4 fun b H5 =>
    if b=true then te σ4 H5 fun y H6=>H6 d=some (.lst ys)/\ys.length < sizeLine/\∃m',m' < m/\W (i+1) m' (ys++[y]) σ4 (upd H6 d (.lst (ys++[y]))) else ∃m',m' < m/\W (i+1) m' ys σ4 H5)))
  (w0:W 0 m0 [] σ0 H0) (I0:Inv X [] σ0 H0 s) (st0:tn 0 s.heap) (fr0:∀b∈fp,H0 b=none)
  (hR:∀σ' H' s',Inv X [] σ' H' s'->Q (.ref d) H'->R (.ok .next) s') :
  codeAny (model X.prog X.w) X.A (.compLoop (.ListComp elt [⟨tg,iter,ifs,0⟩] scope pos) 0 (.ref it) (.ref d) X.env) R s:=by
 have hE':∀e s',X.xe e s'->False:=fun e s' h=>by rw[hE] at h;exact h
 refine compLoop (fun n s'=>∃i ys σ' H',Inv X [] σ' H' s'/\tn i s'.heap/\(∀b∈fp,H' b=none)/\W i n ys σ' H') ?_ m0 ⟨0,[],σ0,H0,I0,st0,fr0,w0⟩
 rintro n s5 ⟨i,ys,σ5,H5,I5,st5,fr5,w5⟩
 obtain⟨hD,alt⟩:=turn i n ys σ5 H5 w5;rcases alt with⟨stop,qn⟩ | ⟨go,step⟩
 ·refine wpAny_mono (T.done X rfl rfl rfl hc i [] s5 σ5 H5 (fun _ _=>False) I5 (hf _ fr5) st5 stop) (fun r s6 ⟨hr,I6⟩ =>?_) fun _ _ e=>e
  subst hr;exact hR σ5 H5 s6 I6 qn
 ·refine wpAny_mono (T.item X rfl rfl rfl hc i [] s5 σ5 H5 (fun _ _=>False) I5 (hf _ fr5) st5 go) (fun r s6 ⟨u,hr,h6⟩ =>?_) fun _ _ e=>e
  subst hr;refine wpAny_mono h6 (fun _ s7 ⟨x,H7,I7,r7,y7,st7,fr7⟩ =>?_) fun _ _ e=>e
  have I7':=I7.pinned (hf _ fr7) (T.obj _ _ st7);have again:∀{σ':L2.St} {H':Hp} {s':Shared} {ys':List V} {m':Nat},Inv X ([]++aie fp s7.heap) σ' H' s'->W (i+1) m' ys' σ' H'->∃i ys σ' H',Inv X [] σ' H' s'/\tn i s'.heap/\(∀b∈fp,H' b=none)/\W i m' ys σ' H':=fun{σ' H' s' ys' m'} Ia wa=>by
   refine⟨i+1,ys',σ',H',Ia.unpinned,T.keep _ _ _ st7 fun b hb o e=>(Ia.pin (b,o) (List.mem_append_right _ (List.mem_append_right _ (abf hb e)))).1,fun b hb =>?_,wa⟩
   obtain⟨o,e,d⟩:=T.obj _ _ st7 b hb;exact(Ia.pin (b,o) (List.mem_append_right _ (List.mem_append_right _ (abf hb e)))).2.1
  refine wpAny_mono (hg _ s7 σ5 H7 x u _ I7' r7 (step x H7 y7)) (fun _ s8 ⟨σ8,H8,I8,q8⟩ =>?_) hE'
  refine wpAny_mono (ht _ s8 σ8 H8 _ I8 q8) (fun ok s9 ⟨H9,I9,q9⟩ =>?_) hE'
  cases ok with
  | false =>
   rw[if_neg Bool.false_ne_true] at q9 ⊢
   obtain⟨m',hm,wa⟩:=q9;exact⟨m',hm,again I9 wa⟩
  | true =>
   rw[if_pos rfl] at q9 ⊢
   refine wpAny_mono (he _ s9 σ8 H9 _ I9 q9) (fun z s10 ⟨y,H10,I10,r10,hd10,hz,m',hm,wa⟩ =>?_) hE'
   refine wpAny_mono (v8 _ s10 σ8 H10 (.ref d) [y] (.ref d) [z] (fun _ H'=>H'=upd H10 d (.lst (ys++[y]))) I10 rfl (.cons r10 .nil) ⟨d,ys,y,rfl,rfl,hd10,hz,rfl⟩) (fun _ s11 ⟨_,H11,I11,_,e11⟩ =>?_) hE'
   subst e11;exact⟨m',hm,again I11 wa⟩
theorem avp{X:Cx}{tg iter elt:Expr}{ifs:List Expr}{scope:Scope}{pos:Pos}{wi:TI}{g:TG}{ti:TT}{te:TE}(fr N:List Str)(src:List (Option Nat))(hc:X.calm=true)(hi:PI X tg iter wi)
  (hg:∀fp s H,PG (cxC X N scope fr fp s H) tg g) (ht:∀fp s H,PIf (cxC X N scope fr fp s H) ifs ti) (he:∀fp s H,PE (cxC X N scope fr fp s H) elt te)
  (hok:alz X.env X.N scope fr N src=true:=by rfl) (hkind:scope.kind=.function:=by rfl) (hclos:closureFor scope X.env=pure (aa8 X.env fr):=by rfl)
  (hs:∀x,foldedSetIterable iter X.env x=pure x:=by intro _;rfl):PE X (.ListComp elt [⟨tg,iter,ifs,0⟩] scope pos) (ax0 wi g ti te src):=by
 have C:=CompOk.of hok;intro zv s σ H Q I h;rw[eval_ListComp];refine wpAny_comprehension_free (use:=none) rfl hs hclos hkind C.loc (wpAny_mono (hi zv s σ H _ I h) (fun v s1 h1=>wpAny_mono h1 (fun itv s2 h2 =>?_) fun _ _ e=>e) fun _ _ e=>e)
 obtain⟨it,fp,tn,J,H2,e,I2,T,st2,f2,q2⟩:=h2;subst e;have hd0:H2 s2.heap.objs.size=none:=I2.hok.fresh (Nat.le_refl _);obtain⟨W,⟨m0,w0⟩,turn⟩:=q2 s2.heap.objs.size hd0;refine wpAny_newObj_type ?_;generalize hs3:({ s2 with heap:=s2.heap.push { cls:=.type "list", dict:=none,data:=.seq ([]:List Value).toArray } }:Shared)=s3
 have keep2:∀b o,s2.heap.get? b=some o->s3.heap.get? b=some o:=fun b o e=>by rw[<-hs3];exact Heap.get?_push_of_some _ e
 have I3:Inv X zv σ (upd H2 s2.heap.objs.size (.lst [])) s3:=by
  rw[<-hs3];exact I2.laid (t':=s2.toks) (fun b u q=>Heap.get?_push_of_some _ q) (Nat.le_refl _) ⟨Nat.zero_le _,[],0,.nil,Heap.get?_push_size _ rfl⟩
 have ne0:∀b∈fp,b≠s2.heap.objs.size:=fun b hb=>by
  obtain⟨o,e,_⟩:=T.obj _ _ st2 b hb;exact Nat.ne_of_lt (Heap.lt_size e)
 have f3:∀b∈fp,FpOk X zv (upd H2 s2.heap.objs.size (.lst [])) b:=fun b hb=>⟨by rw[cu (ne0 b hb)];exact(f2 b hb).1,(f2 b hb).2⟩
 have lt3:∀b∈fp,b < s3.heap.objs.size:=fun b hb=>by
  obtain⟨o,e,_⟩:=T.obj _ _ st2 b hb;exact Heap.lt_size (keep2 b o e)
 refine wpAny_newFunctionEnv C.cell (by intro y hy;simp at hy) (fun h₁ hns₁ hsb₁ =>?_) hkind
 have keep3:∀b o,s3.heap.get? b=some o->h₁.get? b=some o:=fun b o e=>hsb₁.extBut b o (Nat.ne_of_lt (Heap.lt_size e)) (Heap.get?_push_of_some _ e)
 have st4:tn 0 h₁:=T.keep _ _ _ st2 fun b hb o e=>keep3 b o (keep2 b o e)
 have I4:=asr (tk:=s3.toks+([]:List (Str×Value)).length) I3 C hkind f3 lt3 hns₁ keep3;have loop:=ap4 (X:=cxC X N scope fr fp s3 (upd H2 s2.heap.objs.size (.lst []))) (iter:=iter) (scope:=scope) (pos:=pos) (d:=s2.heap.objs.size)
  (R:=compPost (model X.prog X.w) X.A X.xe none (EP X zv σ Q) (.ref s2.heap.objs.size) s3.heap.objs.size) hc rfl T
  (fun H' hn b hb=>⟨hn b hb,Nat.ne_of_lt (lt3 b hb),I4.ok.exfs b hb,.inl hb,(I4.ok.exf b hb).2,fun p hp=>absurd (show p∈([]:List (Addr×Obj)) from hp) (by simp)⟩)
  (hg fp s3 _) (ht fp s3 _) (he fp s3 _) turn w0 I4 st4 (fun b hb=>(f3 b hb).1) (fun σ' H' s' I6 qn=>by
   obtain⟨m6,hn6,_⟩:=I6.loc;exact⟨m6,hn6,fun h'' hs''=>⟨.ref s2.heap.objs.size,H',ass I3 f3 I6 hs'',rfl,qn⟩⟩)
 exact codeAny_compStart_list loop (T.self _ 0 _ _ _ st4 loop)
def Keep(ws:List Addr)(H H':Hp):Prop:=∀b o,H b=some o->b∉ws->H' b=some o
theorem Keep.of{ws:List Addr}{H H':Hp}(h:Same H H'):Keep ws H H':=fun b o e _=>h b o e
theorem Keep.same{H H':Hp}(h:Keep [] H H'):Same H H':=fun b o e=>h b o e (by simp)
theorem Keep.trans{ws:List Addr}{H H1 H2:Hp}(a:Keep ws H H1)(b:Keep ws H1 H2):Keep ws H H2:=fun c o e n=>b c o (a c o e n) n
theorem Keep.refl(ws:List Addr)(H:Hp):Keep ws H H:=fun _ _ e _=>e
theorem Same.new{H:Hp}{p:Addr}(h:H p=none)(o:HO):Same H (upd H p o):=fun b u q=>by rw[cu (gr q h)];exact q
theorem Keep.put{H:Hp}{p:Addr}(o:HO):Keep [p] H (upd H p o):=fun b u q n=>by rw[cu (fun e=>n (by simp[e]))];exact q
theorem Keep.new{ws:List Addr}{H H1:Hp}{p:Addr}(g:Keep ws H H1)(h:H p=none)(o:HO):Keep ws H (upd H1 p o):=fun b u q n=>by rw[cu (gr q h)];exact g b u q n
theorem Keep.free{ws:List Addr}{H H':Hp}(e:Keep ws H H'){l:Addr}(h:H' l=none)(n:l∉ws):H l=none:=by
 cases q:H l with
 | none=>rfl
 | some o =>
  rw[e l o q n] at h;cases h
theorem Same.tup{K:Fg9}{H H':Hp}{a:Addr}{xs:List V}(e:Same H H')(h:SqT K H a xs):SqT K H' a xs:=by
 rcases h with(h | ⟨o,h⟩) | h
 ·exact .inl (.inl (e _ _ h))
 ·exact .inl (.inr ⟨o,e _ _ h⟩)
 ·exact .inr h
structure ItOf (J:It) (xs:List V) (S:Hp->Prop):Prop where
 go:∀i H,S H->i < xs.length->J.go i H
 yld:∀i H x H',S H->J.yld i H x H'->H'=H/\(i < xs.length->xs[i]? = some x)
 stop:∀i H,S H->xs.length<=i->J.stop i H
theorem asp{K:Fg9}{a:Addr}{xs:List V}:ItOf (Itt K a) xs fun H=>SqT K H a xs :=
 ⟨fun i H h hi=>⟨xs,xs[i],h,by simp[hi]⟩,fun i H x H' h y=>⟨y.1,fun _=>y.2 xs h⟩,fun i H h hi=>⟨xs,h,hi⟩⟩
theorem alo{K:Fg9}{a:Addr}{xs:List V}:ItOf (Itl K a) xs fun H=>SqL K H a xs :=
 ⟨fun i H h hi=>⟨xs,xs[i],h,by simp[hi]⟩,fun i H x H' h y=>⟨y.1,fun _=>y.2 xs h⟩,fun i H h hi=>⟨xs,h,hi⟩⟩
def ups(lo:Int)(n:Nat):List V:=(List.range n).map fun i=>V.int (lo+(i:Nat))
theorem agq(lo:Int)(n:Nat):(ups lo n).length=n:=by simp[ups]
theorem auo{lo:Int}{n i:Nat}(h:i < n):(ups lo n)[i]? = some (.int (lo+(i:Nat))):=by
 unfold ups;rw[List.getElem?_map,List.getElem?_range h];rfl
theorem asq{lo:Int}{n:Nat}:ItOf (Itr lo n) (ups lo n) fun _=>True :=
 ⟨fun i H _ hi=>by rw[agq] at hi;exact hi,fun i H x H' _ y=>⟨y.1,fun hi=>by rw[agq] at hi;rw[auo hi,y.2]⟩,fun i H _ hi=>by rw[agq] at hi;exact hi⟩
section
variable{X:Cx}
def rAll(K:Fg9):List V->Hp->VK->Prop:=fun xs H Q=>∃(p:Addr) (bs:List Bool),xs=[.ref p]/\SqL K H p (bs.map V.bl)/\Q (.bl (bs.all id)) H
theorem atj(hc:X.calm=true):yp X (.builtin "all") (rAll X.K):=by
 intro zv s σ H xs us Q I r h;obtain⟨p,bs,rfl,hq,q⟩:=h;obtain⟨u,rfl,ru⟩:=vals1 r;cases ru;obtain⟨its,rv,pl,hz⟩:=I.list hq;have hl:=pl.isList;have hlen:=rv.length;rw[List.length_map] at hlen;have hlt:p < s.heap.objs.size:=by obtain⟨_,e,_⟩:=hl;exact Heap.lt_size e
 refine call_all_walk (wpAny_pyIter_list hl ?_);refine⟨s.heap.objs.size,[s.heap.objs.size,p],[s.heap.objs.size],its.toArray.size,_,_,fun i=>(bs[i]?).getD true,rfl,Walks.list (A:=X.A.in1) (I.ok.hd hc) _ p (Nat.ne_of_lt hlt) its.toArray,
  ⟨⟨_,Heap.get?_push_size _ rfl,rfl,rfl⟩,hl.push _⟩,fun i v s' Q' E' hP hQ =>?_,fun h' tk hk =>?_⟩
 ·have hi:its[i]? = some v:=by simpa using hP
  cases e:bs[i]? with
  | none =>
   have h1:bs.length<=i:=List.getElem?_eq_none_iff.mp e;have h2:i < its.length:=(List.getElem?_eq_some_iff.mp hi).1;omega
  | some b =>
   obtain⟨u,hu,ru⟩:=rv.get (i:=i) (x:=V.bl b) (by rw[List.getElem?_map,e];rfl)
   rw[hi] at hu;cases hu;obtain rfl:v=Value.bool b:=ru;simp only[e,Option.getD_some] at hQ;exact wpAny_truthy_bool hQ
 ·have e:((List.range its.toArray.size).all fun i=>(bs[i]?).getD true)=bs.all id:=by
   rw[List.size_toArray,<-hlen];exact LSm.range_all bs
  rw[e];exact⟨.bl (bs.all id),H,I.kept (t':=tk) (LSm.kept_iter hk),rfl,q⟩
end
def Dfn(P:Program)(w:World)(K:Fg9)(mg:Str->Option Value)(base:Heap)(x:Str)(ps:List Str)(k:Nat)(sp:Sp):Prop :=
 ∃(f:Addr) (fd:FuncData),FnOk P w K mg base CX0 k f fd ps sp/\mg x=some (.ref f)/\keepIn K (.ref f)=true/\Binds K fd ps []
section
variable{X:Cx}{x:Str}{ps:List Str}{k:Nat}{sp:Sp}{e:Expr}{es:List Expr}{t:TA}{p pos:Pos}
theorem a3b(F:Dfn X.prog X.w X.K X.mg X.base x ps k sp)(hr:Room k X.A)(hg:Gl X x)(ha:PA X (e::es) t)(hdb:(x==("__debug__" : Str))=false:=by decide)
  (he:starEach (e::es) X.env=(false,eval e X.env)::starEach es X.env:=by rfl) (hpl:(backTo pos (starEach es X.env)).any (·.1)=false:=by rfl):PE X (.Call (.Name x p) (e::es) [] pos) (ax1 sp [] E0 t):=by
 obtain⟨f,fd,F,hm,hk,hb⟩:=F;exact avr F hr hg hm hk hb .nil avt ha hdb he hpl
theorem ayv{n:Int}(hg:Gl X x)(hm:∃t,X.mg x=some (.int n t))(hd:(x==("__debug__" : Str))=false:=by decide):PE X (.Name x pos) (tC (.int n)):=by
 obtain⟨t,hm⟩:=hm;exact avo hg hm ⟨t,rfl⟩ hd
theorem avl{T:String}(hg:Gl X x)(hm:X.mg x=none)(hv:bootBuiltins x=some (.type T))(hn:x ≠ "__name__" := by decide)(hd:(x==("__debug__" : Str))=false:=by decide):PE X (.Name x pos) (tC (.ty T)) :=
 avs hg hm hv rfl hn hd
end
section
variable{X:Cx}
end
section
variable{prog:Program}{w:World}{A:Around}{E:Value->Shared->Prop}{s:Shared}
theorem ath{t b:Addr}{vs ws:List Value}{Q:Value->Shared->Prop}(ht:IsTup s.heap t vs.toArray)(hb:IsTup s.heap b ws.toArray)(hv:vs=[])(h:Q (.ref b) s):wpAny (model prog w) A (binaryOp .Add (.ref t) (.ref b)) Q E s:=by
 obtain⟨⟨cls,dd,data,sl⟩,ho,hc,n,hd⟩:=id ht;obtain⟨⟨cls2,dd2,data2,sl2⟩,ho2,hc2,n2,hd2⟩:=id hb;simp only at hc hd hc2 hd2;subst hc hd hc2 hd2;exact concat_meets ⟨_,ho,rfl⟩ ⟨_,ho2,rfl⟩ noFill_tuple_add seq_tuple_add PySem.F.slot_tuple_add PySem.F.entry_tuple_add (PySem.F.args_tuple_add_2 _ _)
  (tuple_addW0 t b vs.toArray ws.toArray n n2 dd dd2 sl sl2 (by simp[hv])) ⟨ho,ho2,h⟩
end
section
variable{X:Cx}
end
section
variable{X:Cx}
end
theorem aas:fillsNumberSlot (.type "tuple") "mul" = pure false :=
 PySem.fillsNumberSlot_seq (id := "tuple.__mul__") (r:=some (.builtin "tuple.__rmul__")) F.slot_tuple_mul.lookup (by decide +kernel) F.slot_tuple_rmul.lookup (by decide +kernel)
theorem ad0:seqRepeat? (.type "tuple")=pure (some (.builtin "tuple.__mul__")):=by
 unfold seqRepeat?;rw[PySem.seqSlot_of (T := "tuple") (name := "__mul__") (id := "tuple.__mul__") F.slot_tuple_mul.lookup (by decide +kernel),PySem.seqSlot_of (T := "tuple") (name := "__rmul__") (id := "tuple.__rmul__") F.slot_tuple_rmul.lookup (by decide +kernel)]
 rfl
theorem abw(a:Int)(t:Tok)(l:Addr)(items:Array Value)(n:Nat)(dd:Option Addr)(sl:Array (Option Value)) :
  Meets (Builtin.«int.__rmul__» ⟨[.int a t,.ref l],[]⟩) (fun _ R s=>s.heap.get? l=some { cls:=.type "tuple", dict:=dd,data:=.seq items n,slots:=sl }/\R (.ok (.ret Value.notImplemented)) s) :=
 .of_wp fun prog w A R s h=>by obtain⟨hp,g,d,tk,os⟩:=s;obtain⟨hl,h⟩:=h;wp_walk;exact⟨_,rfl,h⟩
theorem amd(l:Addr)(items:Array Value)(n:Nat)(dd:Option Addr)(sl:Array (Option Value))(x:Int)(u:Tok)(h0:items.isEmpty=false)(h2:2<=x)(h63:x < 2 ^ 63)(hsz:items.size*x.toNat<=sizeLine) :
  Meets (Builtin.«tuple.__mul__» ⟨[.ref l,.int x u],[]⟩) (fun _ R s=>s.heap.get? l=some { cls:=.type "tuple", dict:=dd,data:=.seq items n,slots:=sl } /\
   R (.ok (.ret (Value.ref s.heap.objs.size))) { s with heap:=s.heap.push { cls:=Value.type "tuple", data:=Data.seq (List.foldl (fun x1 x2=>x1++x2) #[] (List.replicate x.toNat items)) },toks:=s.toks }) :=
 .of_wp fun prog w A R s h=>by
  obtain⟨hp,g,d,tk,os⟩:=s;obtain⟨hl,h⟩:=h;have c1:(decide (x < -2 ^ 63)||decide (x≥2 ^ 63))=false:=by
   rw[Bool.or_eq_false_iff];exact⟨decide_eq_false (by omega),decide_eq_false (by omega)⟩
  have c2:(items.isEmpty||x==1)=false:=by
   rw[h0,Bool.false_or,beq_eq_false_iff_ne];omega
  have c3:(decide (x<=0)||items.isEmpty)=false:=by
   rw[h0,Bool.or_false];exact decide_eq_false (by omega)
  have e4:((items.size:Int)*x)=((items.size*x.toNat:Nat):Int):=by
   have:x=(x.toNat:Int):=by omega
   rw[Int.natCast_mul,<-this]
  have h4:(sizeLine:Int)<=(2 ^ 63 - 1) / 8:=by decide
  have c4:¬((items.size:Int)*x > (2 ^ 63 - 1) / 8):=by rw[e4];omega
  have c5:Builtin.Tuple.tupleTooMany ((items.size:Int)*x)=false:=by
   unfold Builtin.Tuple.tupleTooMany;rw[e4];exact decide_eq_false (by omega)
  wp_walk;refine wpAny_ite_false (by rw[c1];rfl) ?_
  wp_walk;refine wpAny_ite_false (by rw[c2];rfl) ?_
  try dsimp only
  refine wpAny_ite_false (by rw[c3];rfl) ?_
  try dsimp only
  refine wpAny_ite_false (decide_eq_false c4) ?_
  try dsimp only
  refine wpAny_ite_false (by rw[c5];rfl) ?_
  have hso:sizeOk (.seq (List.foldl (fun x1 x2=>x1++x2) #[] (List.replicate x.toNat items))):=by
   show(List.foldl (fun x1 x2=>x1++x2) #[] (List.replicate x.toNat items)).size<=sizeLine
   have hn:=foldl_rep items.toList x.toNat [];rw[List.nil_append] at hn;have hn':List.foldl (fun x1 x2=>x1++x2) #[] (List.replicate x.toNat items)=(List.replicate x.toNat items.toList).flatten.toArray:=hn
   rw[hn',List.size_toArray,len_rep,Array.length_toList,Nat.mul_comm];exact hsz
  refine wpAny_bind (m:=Builtin.Tuple.tupleExact _) (wpAny_newObj_type (wpAny_pure ⟨_,rfl,h⟩) hso)
theorem ame(l:Addr)(items:Array Value)(n:Nat)(dd:Option Addr)(sl:Array (Option Value))(x:Int)(u:Tok)(hx:x=1) :
  Meets (Builtin.«tuple.__mul__» ⟨[.ref l,.int x u],[]⟩) (fun _ R s=>s.heap.get? l=some { cls:=.type "tuple", dict:=dd,data:=.seq items n,slots:=sl }/\R (.ok (.ret (Value.ref l))) s) :=
 .of_wp fun prog w A R s h=>by
  obtain⟨hp,g,d,tk,os⟩:=s;obtain⟨hl,h⟩:=h;have c1:(decide (x < -2 ^ 63)||decide (x≥2 ^ 63))=false:=by
   rw[Bool.or_eq_false_iff];exact⟨decide_eq_false (by omega),decide_eq_false (by omega)⟩
  have c2:(items.isEmpty||x==1)=true:=by rw[hx];simp
  wp_walk;exact⟨_,rfl,h⟩
section
variable{X:Cx}
theorem avw:OpR X (binaryOp .Mult) (fun x y H Q=>∃a xs,x=.ref a/\y=.int 1/\H a=some (.tup xs)/\Q (.ref a) H):=by
 intro zv s σ H x y v u Q I rx ry h;obtain⟨a,xs,rfl,rfl,ha,q⟩:=h;cases rx;obtain⟨t,rfl⟩:=ry;obtain⟨its,r1,p1,_⟩:=I.tuple (SqT.of ha);obtain⟨⟨cls,dd,data,sl⟩,ho,hc,n,hd⟩:=id p1;simp only at hc hd;subst hc hd;exact wpAny_binaryOp_repeat_ref (T := "tuple") (U := "int") (by decide) ⟨_,ho,rfl⟩ (fun s'=>typeIs_int s' 1 t) aas F.fills_int_mul F.slot_int_rmul ad0 F.slot_int_index.lookup
  (call_meets F.slot_int_rmul (typeIs_int s 1 t) F.entry_int_rmul (F.args_int_rmul_2 _ _) (abw 1 t a its.toArray n dd sl)
   ⟨ho,rfl,⟨_,ho,rfl⟩,call_meets F.slot_tuple_mul ⟨_,ho,rfl⟩ F.entry_tuple_mul (F.args_tuple_mul_2 _ _) (ame a its.toArray n dd sl 1 t rfl) ⟨ho,⟨.ref a,H,I,rfl,q⟩⟩⟩)
def aya:R2:=fun x y H Q=>∃a xs k,x=.ref a/\y=.int k/\H a=some (.tup xs)/\xs≠[]/\2<=k/\k < 2 ^ 63/\xs.length*k.toNat<=sizeLine/\∀p,H p=none->Q (.ref p) (upd H p (.tup (List.replicate k.toNat xs).flatten))
theorem ar5:OpR X (binaryOp .Mult) aya:=by
 intro zv s σ H x y v u Q I rx ry h;obtain⟨a,xs,k,rfl,rfl,ha,hx,h2,h63,hz,q⟩:=h;cases rx;obtain⟨t,rfl⟩:=ry;obtain⟨its,r1,p1,_⟩:=I.tuple (SqT.of ha);obtain⟨⟨cls,dd,data,sl⟩,ho,hc,n,hd⟩:=id p1;simp only at hc hd;subst hc hd;have hnew:List.foldl (fun x1 x2=>x1++x2) #[] (List.replicate k.toNat its.toArray)=(List.replicate k.toNat its).flatten.toArray:=by
  have:=foldl_rep its k.toNat [];rw[List.nil_append] at this;exact this
 refine wpAny_binaryOp_repeat_ref (T := "tuple") (U := "int") (by decide) ⟨_,ho,rfl⟩ (fun s'=>typeIs_int s' k t) aas F.fills_int_mul F.slot_int_rmul ad0 F.slot_int_index.lookup
  (call_meets F.slot_int_rmul (typeIs_int s k t) F.entry_int_rmul (F.args_int_rmul_2 _ _) (abw k t a its.toArray n dd sl)
   ⟨ho,rfl,⟨_,ho,rfl⟩,call_meets F.slot_tuple_mul ⟨_,ho,rfl⟩ F.entry_tuple_mul (F.args_tuple_mul_2 _ _) (amd a its.toArray n dd sl k t ?_ h2 h63 ?_) ⟨ho,?_⟩⟩)
 ·cases its with
  | nil=>exact absurd (r1.nil_iff.mp rfl) hx
  | cons _ _=>rfl
 ·rw[List.size_toArray,<-r1.length];exact hz
 ·rw[hnew];refine⟨.ref s.heap.objs.size,_,I.laid (t':=s.toks) (o:=.tup (List.replicate k.toNat xs).flatten) (fun b ob q=>Heap.get?_push_of_some _ q) (Nat.le_refl _) ?_,rfl,q _ (I.hok.fresh (Nat.le_refl _))⟩
  exact⟨by rw[len_rep,Nat.mul_comm];exact hz,_,r1.rep k.toNat,IsTp.new _ _⟩
end
section
variable{prog:Program}{w:World}{A:Around}{E:Value->Shared->Prop}{s:Shared}
theorem ab7{t sl:Addr}{items:Array Value}{vl vu:Value}{lo hi:Option Int}{Q:Value->Shared->Prop}(ht:IsTup s.heap t items)(hs:s.heap.IsSliceOf sl vl vu .none)(pl:IsPart vl lo)(pu:IsPart vu hi)
  (h1:HT.sIx items.size 0 lo=0) (h2:HT.sIx items.size items.size hi=items.size) (h:Q (.ref t) s):wpAny (model prog w) A (getItem (.ref t) (.ref sl)) Q E s:=by
 obtain⟨os,hos,hcs,hds⟩:=id hs;have hTs:s.TypeIs (.ref sl) "slice" := ⟨os,hos,hcs⟩;unfold getItem
 try with_reducible refine wpAny_holding ?_
 first | refine wpAny_bind (wpAny_pure ?_) | skip
 refine wpAny_bind (wpAny_sequenceKey ht.typeIs (by decide) ?_)
 refine wpAny_bind (wpAny_callSpecial?_slot (name:=Str.ofString "__getitem__") ht.typeIs PyProof.Rows.slot_tuple_getitem
  (wpAny_call_entry PyProof.Rows.slot_tuple_getitem ht.typeIs entry_tuple_getitem ?_ (args_tuple_getitem _ _)))
 show wpAny _ _ (Builtin.Tuple.tupleItemsOf (.ref t) >>= _) _ _ s;refine wpAny_bind (tupleItemsOf_ ht ?_);refine wpAny_bind (wpAny_typeOf hTs ?_);rw[if_pos (by decide)]
 refine wpAny_bind (HT.aaq hs pl pu ?_);have hyes:(((HT.sIx items.size 0 lo:Nat):Int)==0&&(1:Int)==1&&(HT.sIx items.size items.size hi - HT.sIx items.size 0 lo)==items.size)=true:=by
  rw[h1,h2];simp
 show wpAny _ _ (if (((HT.sIx items.size 0 lo:Nat):Int)==0&&(1:Int)==1&&(HT.sIx items.size items.size hi - HT.sIx items.size 0 lo)==items.size)=true then _ else _) _ _ s
 rw[if_pos hyes];refine wpAny_bind (wpAny_bind (wpAny_typeOf ht.typeIs (wpAny_pure ?_)));rw[if_pos (by decide)]
 exact wpAny_bind (wpAny_rule (wpAny_pure ⟨_,rfl,wpAny_pure h⟩))
end
section
variable{X:Cx}
end
section
variable{X:Cx}(K:Fg9)(hK:X.K=K)
include hK
variable{tg:Expr}
end
theorem jz:bootBuiltins "len" = some (.builtin "len"):=by decide +kernel
theorem ajm:bootBuiltins "all" = some (.builtin "all"):=by decide +kernel
theorem a0n:bootBuiltins "any" = some (.builtin "any"):=by decide +kernel
theorem aap:bootBuiltins "isinstance" = some (.builtin "isinstance"):=by decide +kernel
theorem aqm:bootBuiltins "max" = some (.builtin "max"):=by decide +kernel
theorem a0m:bootBuiltins "min" = some (.builtin "min"):=by decide +kernel
theorem aql:bootBuiltins "sorted" = some (.builtin "sorted"):=by decide +kernel
theorem aqo:bootBuiltins "divmod" = some (.builtin "divmod"):=by decide +kernel
theorem aqn:bootBuiltins "int" = some (.type "int"):=by decide +kernel
theorem axf:bootBuiltins "bool" = some (.type "bool"):=by decide +kernel
theorem jw:bootBuiltins "tuple" = some (.type "tuple"):=by decide +kernel
theorem adu:bootBuiltins "list" = some (.type "list"):=by decide +kernel
theorem atk:bootBuiltins "range" = some (.type "range"):=by decide +kernel
theorem a0l:bootBuiltins "set" = some (.type "set"):=by decide +kernel
theorem ajl:bootBuiltins "enumerate" = some (.type "enumerate"):=by decide +kernel
structure ExcK (K:Fg9) (C:Addr):Prop where
 ga:findIn K (.ref C) "__getattribute__" = some (some (.builtin "BaseException.__getattribute__"))
 gh:findIn K (.ref C) "__getattr__" = some none
 be:PySem.W.mroIn K C (.type "BaseException")=some true
 hd:PySem.W.hasDictIn K C=true
 cl:findIn K (.ref C) "__class__" = some (some (.builtin "object.__class__"))
 sp:PySem.W.specialIn K (.builtin "object.__class__") "__get__" = some (some (.builtin "getset_descriptor.__get__"))
 tk:PySem.W.takesIn K (.builtin "object.__class__")=some true
 ob:PySem.W.mroIn K C (.type "object")=some true
 no:∀T∈["int","bool","tuple","list","str","dict"],PySem.W.subIn K (.ref C) (.type T)=some false
theorem akm{K:Fg9}{C:Addr}{od:Option Obj}{name:Str}{a g:Value}(hc:(PySem.W.clsIn K C).isSome=true)(ha:findIn K (.ref C) name=some (some a))(hg:PySem.W.specialIn K a "__get__" = some (some g))(ht:PySem.W.takesIn K a=some true):PySem.W.findObj K C od name=some (.bind g a):=by
 obtain⟨cd,hc⟩:=Option.isSome_iff_exists.mp hc;unfold PySem.W.findObj;rw[hc,Option.bind_some,ha,Option.bind_some];simp[hg,ht]
section
variable{prog:Program}{w:World}{A:Around}{E:Value->Shared->Prop}{s:Shared}{K:Fg9}{x D:Addr}{ox:Obj}{od:Option Obj}{name:Str}
theorem as9{fill expr:Bool}{tk:Tok}{Q:Value->Shared->Prop}(X:K.In s.heap)(I:PySem.W.InstAt s.heap x ox D od)(k:ExcK K D)
  (h:wpAny (model prog w) A.in1 (Builtin.«object.__getattribute__» ⟨[.ref x,.str name tk],[]⟩)
   (fun fin s'=>match fin with | .done (.ret v)=>wpAny (model prog w) A (handedOut v) Q E s' | _=>False) (fun _ _=>False) s) :
  wpAny (model prog w) A (getAttrBy (.ref x) (.str name tk) fill expr) Q E s:=by
 obtain⟨hh,g,d,t,os⟩:=s;have L0:=I.type (M:=model prog w);have L1:=PySem.W.looks_findIn (M:=model prog w) X k.ga;have L2:=PySem.W.looks_findIn (M:=model prog w) X k.gh;have L3:PySem.W.Looks (model prog w) hh (isInstance (.ref x) (.type "BaseException")) true:=L0.andThen (PySem.W.looks_mroIn X k.be);unfold getAttrBy;refine wpAny_holding (wpAny_bind (L0.at (wpAny_bind (L1.at ?_))));have hx2:(Value.builtin "BaseException.__getattribute__" == Value.builtin "object.__getattribute__")=false:=by decide +kernel
 have hx1:(onTheHeap (Value.ref D)&&Value.builtin "BaseException.__getattribute__" == Value.builtin "object.__getattribute__")=false:=by rw[hx2,Bool.and_false]
 simp only[hx1,Bool.false_eq_true,if_false];unfold getAttrByItsOwn hookBefore;rw[if_pos (show onTheHeap (Value.ref D)=true from rfl)]
 refine wpAny_bind ?_;refine L2.at (wpAny_bind (wpAny_attempt (wpAny_holding ?_)));have hx0:(expr&&onTheHeap (Value.builtin "BaseException.__getattribute__"))=false:=by cases expr <;> rfl
 unfold callGetattribute;rw[if_neg (by rw[hx0];exact Bool.false_ne_true)]
 unfold boundAndCalled;refine wpAny_bind (wpAny_of_eq (PySem.F.attr_ValueError.ga.bind (.ref x)) ?_);have hk1:builtinKind "BaseException.__getattribute__" = some .slot:=by decide +kernel
 have hs1:splitId "BaseException.__getattribute__" = some ("BaseException","__getattribute__"):=by decide +kernel
 have ha1:=PySem.F.args_bexc_ga (.ref x) (.str name tk);dsimp only[List.cons_append,List.nil_append];refine wpAny_call (codeAny_call_builtin (id := "BaseException.__getattribute__") (args:=⟨[.ref x,.str name tk],[]⟩) PySem.F.attr_ValueError.ga.plain PySem.F.entry_bexc_ga ?_);refine PySem.W.check_slot (i := "BaseException.__getattribute__") (owner := "BaseException") (n := "__getattribute__") (self:=.ref x) (rest:=[.str name tk]) (kw:=[]) hk1 hs1 L3 ha1 ?_;refine wpAny_mono h (fun fin s' z =>?_) fun _ _ z=>z.elim
 rcases fin with(_ | _ | _ | _) | _ <;> first | exact z | exact z.elim
theorem ata{g a:Value}{tk:Tok}{P:Value->Shared->Prop}(X:K.In s.heap)(I:PySem.W.InstAt s.heap x ox D od)(hf:PySem.W.findObj K D od name=some (.bind g a))
  (h:wpAny (model prog w) A (call g [a,.ref x,.ref D]) P E s) :
  wpAny (model prog w) A (Builtin.«object.__getattribute__» ⟨[.ref x,.str name tk],[]⟩) (fun fin s'=>match fin with | .done (.ret v)=>P v s' | _=>False) E s:=by
 obtain⟨hh,gg,d,t,os⟩:=s;have L0:=I.type (M:=model prog w);have L1:=PySem.W.looks_find (M:=model prog w) X I hf;unfold Builtin.«object.__getattribute__»
 refine wpAny_bind (wpAny_pure (wpAny_bind (wpAny_pure (wpAny_bind (L0.at (wpAny_bind (L1.at ?_)))))));show wpAny _ _ (Builtin.ObjectAttr.bindTo g a (.ref x) (.ref D)) _ _ _;show wpAny _ _ (holding [a] (call g [a,.ref x,.ref D]) >>= ret) _ _ _;exact wpAny_bind (wpAny_holding (wpAny_mono h (fun v s' z=>wpAny_pure z) fun _ _ z=>z))
end
theorem asl{K:Fg9}{x D:Addr}(k:ExcK K D):PySem.W.KitX K (.ref x) (.ref D) (fun h=>∃ox od,PySem.W.InstAt h x ox D od) where
 ty:=fun _ _ _ ⟨_,_,I⟩=>I.type
 it:=fun _ _ X _=>by
  obtain⟨cdD,hcD,_⟩:=PySem.W.any_some k.hd;unfold PySem.W.clsIn at hcD;split at hcD
  ·rename_i c' d' cd' sl' ho;intro A' Q' E' s' k q;unfold isType loadHead;exact wpAny_bind (wpAny_loadPart (k _ _ (X _ _ ho)) (wpAny_pure q))
  ·cases hcD
 ne:=fun h tp dd its n sl X htp=>by
  obtain⟨cdD,hcD,_⟩:=PySem.W.any_some k.hd;refine Bool.eq_false_iff.mpr fun q =>?_
  have e:D=tp:=Value.ref.inj (beq_iff_eq.mp q);subst e;unfold PySem.W.clsIn at hcD;split at hcD
  ·rename_i c' d' cd' sl' ho;have z:=(X _ _ ho).symm.trans htp;cases z
  ·cases hcD
 ca:=fun{prog w A E Q s} X ⟨ox,od,I⟩ q=>by
  have hf:PySem.W.findObj K D od "__class__" = some (.bind (.builtin "getset_descriptor.__get__") (.builtin "object.__class__")):=akm (by obtain⟨cd,hc,_⟩:=PySem.W.any_some k.hd;rw[hc];rfl) k.cl k.sp k.tk
  unfold getAttr? getAttrBy?;refine wpAny_bind (wpAny_mkText (wpAny_bind (wpAny_attempt (as9 (s:={ s with toks:=s.toks+1 }) X I k (ata (s:={ s with toks:=s.toks+1 }) X I hf
   (wpAny_call (PySem.W.class_get (s:={ s with toks:=s.toks+1 }) (ox:=ox) (od:=od) X I k.ob (PySem.W.handed_on rfl (wpAny_pure q)))))))))
end Mn
namespace Dn
open L2 Mn
inductive D where
 | non | bl (b:Bool) | int (i:Int) | str (x:Str) | tup (l:List D) | lst (l:List D) | kst (l:List D) | dct (kvs:List (Key×D)) | exn (c:Str) (fs:List (Str×Int))
def exO(a C:Addr)(dx:Option Addr):Heap->Prop:=fun h=>∃oe vs,h.get? a=some oe/\oe.cls=.ref C/\oe.dict=dx/\oe.data=.fields vs
section
variable(K:Fg9)(F:Hp)
mutual
inductive Is:D->V->Prop
 | non:Is .non .non
 | bl (b:Bool):Is (.bl b) (.bl b)
 | int (i:Int):Is (.int i) (.int i)
 | str (x:Str):Is (.str x) (.str x)
 | tup {a:Addr} {vs:List V} {ds:List D} (e:F a=some (.tup vs)) (h:IsL ds vs):Is (.tup ds) (.ref a)
 | lst {a:Addr} {vs:List V} {ds:List D} (e:F a=some (.lst vs)) (h:IsL ds vs):Is (.lst ds) (.ref a)
 | kst {a:Addr} {vs:List V} {ds:List D} (e:SqL K F a vs) (h:IsL ds vs):Is (.kst ds) (.ref a)
 | dct {a:Addr} {kvs:List (Key×V)} {ds:List (Key×D)} (e:F a=some (.dK kvs)) (h:IsK ds kvs):Is (.dct ds) (.ref a)
 | exn {a C:Addr} {c:Str} {dx:Option Addr} {fs:List (Str×Int)} (e:F a=some (.ext (exO a C dx))) (hc:nsIn K mainGlobals c=some (some (.ref C))) (hk:ExcK K C)
   (hf:(dx=none/\fs=[])∨∃d,dx=some d/\F d=some (.xd (fs.map fun p=>(p.1,V.int p.2)))):Is (.exn c fs) (.ref a)
inductive IsL:List D->List V->Prop
 | nil:IsL [] []
 | cons {d:D} {v:V} {ds:List D} {vs:List V} (h:Is d v) (t:IsL ds vs):IsL (d::ds) (v::vs)
inductive IsK:List (Key×D)->List (Key×V)->Prop
 | nil:IsK [] []
 | cons {k:Key} {d:D} {v:V} {ds:List (Key×D)} {vs:List (Key×V)} (h:Is d v) (t:IsK ds vs):IsK ((k,d)::ds) ((k,v)::vs)
end
end
section
variable{K:Fg9}{F F':Hp}
mutual
theorem Is.mono(g:Same F F'):∀{d:D} {v:V},Is K F d v->Is K F' d v
 | _,_,.non=>.non
 | _,_,.bl b=>.bl b
 | _,_,.int i=>.int i
 | _,_,.str x=>.str x
 | _,_,.tup e h=>.tup (g _ _ e) (IsL.mono g h)
 | _,_,.lst e h=>.lst (g _ _ e) (IsL.mono g h)
 | _,_,.kst e h=>.kst (L2.Same.seq g e) (IsL.mono g h)
 | _,_,.dct e h=>.dct (g _ _ e) (IsK.mono g h)
 | _,_,.exn e hc hk hf=>.exn (g _ _ e) hc hk (hf.imp id fun⟨d,h1,h2⟩=>⟨d,h1,g _ _ h2⟩)
theorem IsL.mono(g:Same F F'):∀{ds:List D} {vs:List V},IsL K F ds vs->IsL K F' ds vs
 | _,_,.nil=>.nil
 | _,_,.cons h t=>.cons (Is.mono g h) (IsL.mono g t)
theorem IsK.mono(g:Same F F'):∀{ds:List (Key×D)} {vs:List (Key×V)},IsK K F ds vs->IsK K F' ds vs
 | _,_,.nil=>.nil
 | _,_,.cons h t=>.cons (Is.mono g h) (IsK.mono g t)
end
theorem IsL.length:∀{ds:List D} {vs:List V},IsL K F ds vs->ds.length=vs.length
 | _,_,.nil=>rfl
 | _,_,.cons _ t=>by simp[IsL.length t]
theorem IsL.append:∀{ds es:List D} {vs ws:List V},IsL K F ds vs->IsL K F es ws->IsL K F (ds++es) (vs++ws)
 | _,_,_,_,.nil,h=>h
 | _,_,_,_,.cons h t,k=>.cons h (IsL.append t k)
theorem IsL.take:∀{ds:List D} {vs:List V} (n:Nat),IsL K F ds vs->IsL K F (ds.take n) (vs.take n)
 | _,_,0,_=>by simpa using IsL.nil
 | _,_,_+1,.nil=>.nil
 | _,_,n+1,.cons h t=>.cons h (IsL.take n t)
theorem IsL.drop:∀{ds:List D} {vs:List V} (n:Nat),IsL K F ds vs->IsL K F (ds.drop n) (vs.drop n)
 | _,_,0,h=>h
 | _,_,_+1,.nil=>.nil
 | _,_,n+1,.cons _ t=>IsL.drop n t
theorem IsL.get:∀{ds:List D} {vs:List V} {i:Nat} {d:D},IsL K F ds vs->ds[i]? = some d->∃v,vs[i]? = some v/\Is K F d v
 | _,_,_,_,.nil,e=>by simp at e
 | _,_,0,_,.cons h _,e=>by simp at e;subst e;exact⟨_,rfl,h⟩
 | _,_,i+1,v,.cons _ t,e=>by
  obtain⟨d,h1,h2⟩:=IsL.get (i:=i) (d:=v) t (by simpa using e)
  exact⟨d,by simpa using h1,h2⟩
theorem IsL.set{d:D}{v:V}(h:Is K F d v):∀{ds:List D} {vs:List V} (i:Nat),IsL K F ds vs->IsL K F (ds.set i d) (vs.set i v)
 | _,_,_,.nil=>.nil
 | _,_,0,.cons _ t=>.cons h t
 | _,_,i+1,.cons q t=>.cons q (IsL.set h i t)
theorem IsL.rep{ds:List D}{vs:List V}(h:IsL K F ds vs):∀k:Nat,IsL K F (List.replicate k ds).flatten (List.replicate k vs).flatten
 | 0=>by simpa using IsL.nil
 | k+1=>by
  rw[List.replicate_succ,List.replicate_succ,List.flatten_cons,List.flatten_cons];exact h.append (IsL.rep h k)
theorem IsL.int_inv:∀{ns:List Int} {vs:List V},IsL K F (ns.map D.int) vs->vs=ns.map V.int
 | [],_,.nil=>rfl
 | n::r,_,.cons (.int _) t=>by rw[List.map_cons,IsL.int_inv t]
theorem IsL.bl_inv:∀{ns:List Bool} {vs:List V},IsL K F (ns.map D.bl) vs->vs=ns.map V.bl
 | [],_,.nil=>rfl
 | n::r,_,.cons (.bl _) t=>by rw[List.map_cons,IsL.bl_inv t]
theorem aed:∀ns:List Int,IsL K F (ns.map D.int) (ns.map V.int)
 | []=>.nil
 | n::r=>.cons (.int n) (aed r)
end
inductive Sl where
 | emp | val (d:D) | own (t:Option Nat) (l:List D) | box (c:Str) (fs:List (Str×(Nat ⊕ D)))
abbrev Ro:=List Sl
def Owns(ρ:Ro)(σ:L2.St)(i:Nat)(a:Addr):Prop:=(∃t l,ρ[i]? = some (.own t l))/\σ[i]? = some (some (.ref a))
def Own(ρ:Ro)(σ:L2.St)(a:Addr):Prop:=∃i,Owns ρ σ i a
def SlOk(K:Fg9)(tg:Nat->Addr)(F H:Hp):Sl->Option V->Prop
 | .emp,_=>True
 | .val d,o=>∃v,o=some v/\Is K F d v
 | .own t l,o=>∃a vs,o=some (.ref a)/\F a=none/\H a=some (.lst vs)/\IsL K F l vs/\∀k,t=some k->tg k=a
 | .box c fs,o=>∃a C dx fvs,o=some (.ref a)/\F a=none/\H a=some (.ins C dx fvs)/\nsIn K mainGlobals c=some (some (.ref C))/\(∀f,fs.lookup f=none->fvs.lookup f=none)/\(∀f k,fs.lookup f=some (.inl k)->fvs.lookup f=some (.ref (tg k)))/\∀f d,fs.lookup f=some (.inr d)->∃v,fvs.lookup f=some v/\Is K F d v
structure Good (K:Fg9) (tg:Nat->Addr) (F H:Hp) (ρ:Ro) (σ:L2.St):Prop where
 sub:Same F H
 len:ρ.length=σ.length
 sl:∀(i:Nat) (s:Sl) (o:Option V),ρ[i]? = some s->σ[i]? = some o->SlOk K tg F H s o
 inj:∀(i j:Nat) (a:Addr),Owns ρ σ i a->Owns ρ σ j a->i=j
structure Ext (O O':Addr->Prop) (F H F' H':Hp):Prop where
 sub:Same F F'
 new:∀a o,F' a=some o->F a=some o∨H a=none∨O a
 keep:∀a o,H a=some o->¬O a->H' a=some o
 own:∀a,O' a->O a∨H a=none
 there:∀a,H' a=none->H a=none
theorem Ext.refl(O:Addr->Prop)(F H:Hp):Ext O O F H F H:=⟨fun _ _ e=>e,fun _ _ e=>.inl e,fun _ _ e _=>e,fun _ h=>.inl h,fun _ h=>h⟩
theorem Ext.trans{O O1 O2:Addr->Prop}{F H F1 H1 F2 H2:Hp}(a:Ext O O1 F H F1 H1)(b:Ext O1 O2 F1 H1 F2 H2):Ext O O2 F H F2 H2 where
 sub:=a.sub.trans b.sub
 new:=fun c o e=>by
  rcases b.new c o e with q | q | q
  ·exact a.new c o q
  ·exact .inr (.inl (a.there c q))
  ·rcases a.own c q with z | z
   ·exact .inr (.inr z)
   ·exact .inr (.inl z)
 keep:=fun c o e n=>b.keep c o (a.keep c o e n) fun z=>by
  rcases a.own c z with q | q
  ·exact n q
  ·rw[e] at q;cases q
 own:=fun c z=>by
  rcases b.own c z with q | q
  ·exact a.own c q
  ·exact .inr (a.there c q)
 there:=fun c z=>a.there c (b.there c z)
section
variable{K:Fg9}{tg:Nat->Addr}{F H F' H':Hp}{ρ ρ':Ro}{σ:L2.St}
theorem Good.ownAt(G:Good K tg F H ρ σ){a:Addr}(h:Own ρ σ a):F a=none/\∃vs,H a=some (.lst vs):=by
 obtain⟨i,⟨t,l,e⟩,q⟩:=h;obtain⟨b,vs,e1,f,e2,_⟩:=G.sl i _ _ e q;cases e1;exact⟨f,vs,e2⟩
theorem Good.grow(G:Good K tg F H ρ σ)(s:Same F F')(s':Same F' H')(k:∀a,Own ρ σ a->F' a=none/\H' a=H a)(kb:∀a C dx fvs,F a=none->H a=some (.ins C dx fvs)->F' a=none/\H' a=H a):Good K tg F' H' ρ σ where
 sub:=s'
 len:=G.len
 inj:=G.inj
 sl:=fun i sl o e q=>by
  have z:=G.sl i sl o e q;cases sl with
  | emp=>trivial
  | val d =>
   obtain⟨v,e1,h⟩:=z;exact⟨v,e1,h.mono s⟩
  | box c fs =>
   obtain⟨a,C,dx,fvs,e1,e2,e3,e4,e7,e5,e6⟩:=z;obtain⟨f1,f2⟩:=kb a C dx fvs e2 e3;exact⟨a,C,dx,fvs,e1,f1,f2.trans e3,e4,e7,e5,fun f d h=>(e6 f d h).imp fun v h=>⟨h.1,h.2.mono s⟩⟩
  | own t l =>
   obtain⟨a,vs,e1,f,e2,h,ht⟩:=z;have w:=k a ⟨i,⟨t,l,e⟩,by rw[q,e1]⟩
   exact⟨a,vs,e1,w.1,by rw[w.2];exact e2,h.mono s,ht⟩
theorem Same.put{p:Addr}(s:Same F H)(h:H p=none)(o:HO):Same (upd F p o) (upd H p o):=fun b u e=>by
 by_cases hb:b=p
 ·subst hb;rw[ir] at e ⊢
  exact e
 ·rw[cu hb] at e ⊢
  exact s b u e
theorem Good.freeF(G:Good K tg F H ρ σ){p:Addr}(h:H p=none):F p=none:=by
 cases e:F p with
 | none=>rfl
 | some o=>rw[G.sub p o e] at h;cases h
theorem Good.own_ne(G:Good K tg F H ρ σ){p a:Addr}(h:H p=none)(w:Own ρ σ a):a≠p:=by
 obtain⟨_,vs,e⟩:=G.ownAt w;exact gr e h
theorem Good.new(G:Good K tg F H ρ σ){p:Addr}(h:H p=none)(o:HO):Good K tg (upd F p o) (upd H p o) ρ σ :=
 G.grow (Same.new (G.freeF h) o) (Same.put G.sub h o) (fun a w=>by
  rw[cu (G.own_ne h w),cu (G.own_ne h w)];exact⟨(G.ownAt w).1,rfl⟩) fun a C dx fvs h1 h2=>by
  rw[cu (gr h2 h),cu (gr h2 h)];exact⟨h1,rfl⟩
theorem Good.newX(G:Good K tg F H ρ σ){p:Addr}(h:H p=none)(o:HO):Ext (Own ρ σ) (Own ρ σ) F H (upd F p o) (upd H p o) where
 sub:=Same.new (G.freeF h) o
 new:=fun a u e=>by
  by_cases ha:a=p
  ·subst ha;exact .inr (.inl h)
  ·rw[cu ha] at e;exact .inl e
 keep:=fun a u e _=>by rw[cu (gr e h)];exact e
 own:=fun a w=>.inl w
 there:=fun a e=>by
  by_cases ha:a=p
  ·subst ha;exact h
  ·rw[cu ha] at e;exact e
theorem Good.fresh(G:Good K tg F H ρ σ){p:Addr}(h:H p=none)(o:HO):Good K tg F (upd H p o) ρ σ :=
 G.grow (Same.refl F) (fun b u e=>by rw[cu (gr (G.sub b u e) h)];exact G.sub b u e) (fun a w=>by
  rw[cu (G.own_ne h w)];exact⟨(G.ownAt w).1,rfl⟩) fun a C dx fvs h1 h2=>⟨h1,cu (gr h2 h)⟩
theorem Good.freshX(G:Good K tg F H ρ σ){p:Addr}(h:H p=none)(o:HO):Ext (Own ρ σ) (Own ρ σ) F H F (upd H p o) where
 sub:=Same.refl F
 new:=fun a u e=>.inl e
 keep:=fun a u e _=>by rw[cu (gr e h)];exact e
 own:=fun a w=>.inl w
 there:=fun a e=>by
  by_cases ha:a=p
  ·subst ha;exact h
  ·rw[cu ha] at e;exact e
theorem Good.freeze(G:Good K tg F H ρ σ){p:Addr}{o:HO}(h:H p=some o)(n:¬Own ρ σ p)(hf:F p=none)(hi:∀C dx fs,o≠.ins C dx fs:=by intro _ _ _ z;cases z):Good K tg (upd F p o) H ρ σ :=
 G.grow (Same.new hf o) (fun b u e=>by
  by_cases hb:b=p
  ·subst hb;rw[ir] at e;cases e;exact h
  ·rw[cu hb] at e;exact G.sub b u e) (fun a w=>by
  have:a≠p:=fun z=>n (z▸w)
  rw[cu this];exact⟨(G.ownAt w).1,rfl⟩) fun a C dx fvs h1 h2=>by
  have:a≠p:=fun z=>by
   subst z;rw[h] at h2;exact hi _ _ _ (Option.some.inj h2)
  rw[cu this];exact⟨h1,rfl⟩
end
end Dn
namespace Dn
open L2 Mn
structure Exn where
 cls:Str
 fs:List (Str×Int)
inductive Out (α:Type) where
 | ok (a:α) | exc (x:Exn)
abbrev M(α:Type):=Ro->Option (Out α×Ro)
def M.bind{α β:Type}(m:M α)(k:α->M β):M β:=fun ρ=>match m ρ with
 | some (.ok a,ρ1)=>k a ρ1
 | some (.exc x,ρ1)=>some (.exc x,ρ1)
 | none=>none
def ret{α:Type}(a:α):M α:=fun ρ=>some (.ok a,ρ)
def lift{α:Type}(o:Option α):M α:=fun ρ=>match o with
 | some a=>some (.ok a,ρ)
 | none=>none
section
variable{α β:Type}
theorem aq{m:M α}{k:α->M β}{ρ ρ2:Ro}{b:β}(h:m.bind k ρ=some (.ok b,ρ2)):∃a ρ1,m ρ=some (.ok a,ρ1)/\k a ρ1=some (.ok b,ρ2):=by
 unfold M.bind at h;split at h
 ·exact⟨_,_,by assumption,h⟩
 ·cases h
 ·cases h
theorem gj{o:Option α}{ρ ρ2:Ro}{b:α}(h:lift o ρ=some (.ok b,ρ2)):o=some b/\ρ2=ρ:=by
 unfold lift at h;split at h
 ·cases h;exact⟨rfl,rfl⟩
 ·cases h
theorem j9{a b:α}{ρ ρ2:Ro}(h:ret a ρ=some (.ok b,ρ2)):a=b/\ρ2=ρ:=by
 unfold ret at h;cases h;exact⟨rfl,rfl⟩
@[simp] theorem a0y(a:α)(k:α->M β):(ret a).bind k=k a:=rfl
@[simp] theorem azo(a:α):lift (some a)=ret a:=rfl
end
inductive Rv where
 | v (d:D) | fr (l:List D)
 | tf (d:D) (l:List D)
abbrev Rel(α:Type):=α->V->(H:Hp)->(O:Addr->Prop)->(F' H':Hp)->(O':Addr->Prop)->Prop
def relD(K:Fg9):Rel D:=fun d v _ _ F' _ _=>Is K F' d v
def Bor(K:Fg9)(F H:Hp)(d:D)(v:V):Prop:=Is K F d v∨∃a vs l,d=.lst l/\v=.ref a/\H a=some (.lst vs)/\IsL K F l vs
def relB(K:Fg9):Rel D:=fun d v _ _ F' H' _=>Bor K F' H' d v
def relR(K:Fg9):Rel Rv:=fun r v H O F' H' O'=>match r with
 | .v d=>Is K F' d v
 | .fr l=>∃a vs,v=.ref a/\(H a=none∨O a)/\F' a=none/\H' a=some (.lst vs)/\IsL K F' l vs/\¬O' a
 | .tf d l=>∃t u a vs,v=.ref t/\F' t=some (.tup [u,.ref a])/\Is K F' d u/\(H a=none∨O a)/\F' a=none/\H' a=some (.lst vs)/\IsL K F' l vs/\¬O' a
def T{α:Type}(K:Fg9)(rel:Rel α)(m:M α):TE:=fun σ H Q=>∃tg F ρ a ρ',Good K tg F H ρ σ/\m ρ=some (.ok a,ρ') /\
 ∀v H' F',Good K tg F' H' ρ' σ->Ext (Own ρ σ) (Own ρ' σ) F H F' H'->rel a v H (Own ρ σ) F' H' (Own ρ' σ)->Q v H'
structure EV (K:Fg9) (X:Cx) (e:Expr) (m:M D):Prop where
 go:X.K=K->PE X e (T K (relD K) m)
instance {K:Fg9} {X:Cx} {e:Expr} {m:M D}:CoeFun (EV K X e m) fun _=>X.K=K->PE X e (T K (relD K) m):=⟨EV.go⟩
structure EB (K:Fg9) (X:Cx) (e:Expr) (m:M D):Prop where
 go:X.K=K->PE X e (T K (relB K) m)
instance {K:Fg9} {X:Cx} {e:Expr} {m:M D}:CoeFun (EB K X e m) fun _=>X.K=K->PE X e (T K (relB K) m):=⟨EB.go⟩
structure ER (K:Fg9) (X:Cx) (e:Expr) (m:M Rv):Prop where
 go:X.K=K->PE X e (T K (relR K) m)
instance {K:Fg9} {X:Cx} {e:Expr} {m:M Rv}:CoeFun (ER K X e m) fun _=>X.K=K->PE X e (T K (relR K) m):=⟨ER.go⟩
theorem PE.imp{X:Cx}{e:Expr}{t t':TE}(h:PE X e t)(w:∀σ H Q,t' σ H Q->t σ H Q):PE X e t':=fun zv s σ H Q I q=>h zv s σ H Q I (w σ H Q q)
section
variable{K:Fg9}{X:Cx}{e a b:Expr}{pos:Pos}
theorem Bor.of{F H:Hp}{d:D}{v:V}(h:Is K F d v):Bor K F H d v:=.inl h
theorem EV.toB{m:M D}(h:EV K X e m):EB K X e m:=EB.mk fun hk=>PE.imp (h hk) fun σ H Q ⟨tg,F,ρ,d,ρ',G,em,q⟩=>⟨tg,F,ρ,d,ρ',G,em,fun v H' F' G' x r=>q v H' F' G' x (.inl r)⟩
def M.v(m:M D):M Rv:=m.bind fun d=>ret (.v d)
theorem EV.toR{m:M D}(h:EV K X e m):ER K X e m.v:=ER.mk fun hk=>PE.imp (h hk) fun σ H Q hq0=>by
 obtain⟨tg,F,ρ,r,ρ',G,em,q⟩:=hq0;obtain⟨d,ρ1,e1,e2⟩:=aq em;obtain⟨rfl,rfl⟩:=j9 e2;exact⟨tg,F,ρ,d,_,G,e1,fun v H' F' G' x r=>q v H' F' G' x r⟩
def Rv.d:Rv->D
 | .v d=>d
 | .fr l=>.lst l
 | .tf d l=>.tup [d,.lst l]
def M.d(m:M Rv):M D:=m.bind fun r=>ret r.d
theorem frz{tg:Nat->Addr}{O:Addr->Prop}{F H F' H':Hp}{ρ':Ro}{σ':L2.St}{r:Rv}{v:V}(G:Good K tg F' H' ρ' σ')(x:Ext O (Own ρ' σ') F H F' H')(h:relR K r v H O F' H' (Own ρ' σ')) :
  ∃F2,Good K tg F2 H' ρ' σ'/\Ext O (Own ρ' σ') F H F2 H'/\Is K F2 r.d v:=by
 cases r with
 | v d=>exact⟨F',G,x,h⟩
 | fr l =>
  obtain⟨a,vs,rfl,ha,hf,hh,hl,hn⟩:=h;refine⟨upd F' a (.lst vs),G.freeze hh hn hf,⟨x.sub.trans (Same.new hf _),fun b o e =>?_,x.keep,x.own,x.there⟩,.lst ir (hl.mono (Same.new hf _))⟩
  by_cases hb:b=a
  ·subst hb;exact .inr ha
  ·rw[cu hb] at e;exact x.new b o e
 | tf d l =>
  obtain⟨t,u,a,vs,rfl,ht,hd,ha,hf,hh,hl,hn⟩:=h;have hta:t≠a:=fun z=>by rw[z,hf] at ht;cases ht
  refine⟨upd F' a (.lst vs),G.freeze hh hn hf,⟨x.sub.trans (Same.new hf _),fun b o e =>?_,x.keep,x.own,x.there⟩,.tup (by rw[cu hta];exact ht) (.cons (hd.mono (Same.new hf _)) (.cons (.lst ir (hl.mono (Same.new hf _))) .nil))⟩
  by_cases hb:b=a
  ·subst hb;exact .inr ha
  ·rw[cu hb] at e;exact x.new b o e
theorem ER.toD{m:M Rv}(h:ER K X e m):EV K X e m.d:=EV.mk fun hk=>PE.imp (h hk) fun σ H Q hq0=>by
 obtain⟨tg,F,ρ,d,ρ',G,em,q⟩:=hq0;obtain⟨r,ρ1,e1,e2⟩:=aq em;obtain⟨rfl,rfl⟩:=j9 e2;refine⟨tg,F,ρ,r,_,G,e1,fun v H' F' G' x w =>?_⟩
 obtain⟨F2,G2,x2,i2⟩:=frz G' x w;exact q v H' F2 G2 x2 i2
def gf(i:Nat):M D:=fun ρ=>match ρ[i]? with
 | some (.val d)=>some (.ok d,ρ)
 | some (.own _ l)=>some (.ok (.lst l),ρ)
 | _=>none
theorem Good.at{tg:Nat->Addr}{F H:Hp}{ρ:Ro}{σ:L2.St}(G:Good K tg F H ρ σ){i:Nat}{s:Sl}(e:ρ[i]? = some s):∃o,σ[i]? = some o/\SlOk K tg F H s o:=by
 have hi:i < σ.length:=by rw[<-G.len];exact(List.getElem?_eq_some_iff.mp e).1
 exact⟨σ[i],List.getElem?_eq_getElem hi,G.sl i s _ e (List.getElem?_eq_getElem hi)⟩
theorem qu{tg:Nat->Addr}{F H:Hp}{ρ ρ':Ro}{σ:L2.St}(G:Good K tg F H ρ σ){i:Nat}{d:D}(em:gf i ρ=some (.ok d,ρ')):ρ'=ρ/\∃v,σ[i]? = some (some v)/\Bor K F H d v:=by
 unfold gf at em;split at em
 ·rename_i d' e';cases em;obtain⟨o,ho,v,rfl,hv⟩:=G.at e';exact⟨rfl,v,ho,.inl hv⟩
 ·rename_i t l e';cases em;obtain⟨o,ho,a,vs,rfl,hf,hh,hl,_⟩:=G.at e';exact⟨rfl,_,ho,.inr ⟨a,vs,l,rfl,rfl,hh,hl⟩⟩
 ·cases em
theorem gn{i:Nat}(h:PE X e (tVar i)):EB K X e (gf i):=EB.mk fun _=>PE.imp h fun σ H Q hq0=>by
 obtain⟨tg,F,ρ,d,ρ',G,em,q⟩:=hq0;obtain⟨rfl,v,ho,hv⟩:=qu G em;exact⟨v,ho,q v H F G (Ext.refl _ _ _) hv⟩
def ait(i:Nat):M Rv:=fun ρ=>match ρ[i]? with
 | some (.val d)=>some (.ok (.v d),ρ)
 | some (.own none l)=>some (.ok (.fr l),ρ.set i .emp)
 | _=>none
theorem Good.drop{tg:Nat->Addr}{F H:Hp}{ρ:Ro}{σ:L2.St}(G:Good K tg F H ρ σ)(i:Nat):Good K tg F H (ρ.set i .emp) σ:=by
 have sub:∀j t l,(List.set ρ i Sl.emp)[j]? = some (Sl.own t l)->(ρ:List Sl)[j]? = some (Sl.own t l):=fun j t l e=>by
  rw[List.getElem?_set] at e;split at e
  ·split at e <;> cases e
  ·exact e
 refine⟨G.sub,by rw[List.length_set];exact G.len,fun j s o e q =>?_,fun j k a ⟨⟨t,l,e⟩,q⟩ ⟨⟨t',l',e'⟩,q'⟩=>G.inj j k a ⟨⟨t,l,sub _ _ _ e⟩,q⟩ ⟨⟨t',l',sub _ _ _ e'⟩,q'⟩⟩
 rw[List.getElem?_set] at e;split at e
 ·split at e
  ·cases e;trivial
  ·cases e
 ·exact G.sl j s o e q
theorem acl{ρ:Ro}{σ:L2.St}{i:Nat}{a:Addr}(h:Own (ρ.set i .emp) σ a):Own ρ σ a/\∀t l,ρ[i]? = some (.own t l)->∀(inj:∀i j a,Owns ρ σ i a->Owns ρ σ j a->i=j),¬Owns ρ σ i a:=by
 obtain⟨j,⟨t,l,e⟩,q⟩:=h;rw[List.getElem?_set] at e;split at e
 ·split at e <;> cases e
 ·rename_i hne;have w:Owns ρ σ j a:=⟨⟨t,l,e⟩,q⟩;exact⟨⟨j,w⟩,fun t' l' _ inj z=>hne (inj _ _ _ z w)⟩
theorem afl{i:Nat}(h:PE X e (tVar i)):ER K X e (ait i):=ER.mk fun _=>PE.imp h fun σ H Q hq0=>by
 obtain⟨tg,F,ρ,d,ρ',G,em,q⟩:=hq0;unfold ait at em;split at em
 ·rename_i d' e';cases em;obtain⟨o,ho,v,rfl,hv⟩:=G.at e';exact⟨v,ho,q v H F G (Ext.refl _ _ _) hv⟩
 ·rename_i l e';cases em;obtain⟨o,ho,a,vs,rfl,hf,hh,hl,_⟩:=G.at e';have w:Owns ρ σ i a:=⟨⟨_,_,e'⟩,ho⟩;refine⟨_,ho,q _ H F (G.drop i) ⟨Same.refl _,fun _ _ e=>.inl e,fun _ _ e _=>e,fun b z=>.inl (acl z).1,fun _ z=>z⟩ ⟨a,vs,rfl,.inr ⟨i,w⟩,hf,hh,hl,fun z=>(acl z).2 _ _ e' G.inj w⟩⟩
 ·cases em
def mVar(i:Nat):M D:=fun ρ=>match ρ[i]? with
 | some (.val d)=>some (.ok d,ρ)
 | some (.own none l)=>some (.ok (.lst l),ρ.set i (.val (.lst l)))
 | _=>none
theorem ar3{ρ:Ro}{σ:L2.St}{i:Nat}{d:D}{a:Addr}(h:Own (ρ.set i (.val d)) σ a):Own (ρ.set i .emp) σ a:=by
 obtain⟨j,⟨t,l,e⟩,q⟩:=h;refine⟨j,⟨t,l,?_⟩,q⟩;rw[List.getElem?_set] at e ⊢
 split at e
 ·split at e <;> cases e
 ·rename_i hne;rw[if_neg hne];exact e
theorem Good.setv{tg:Nat->Addr}{F H:Hp}{ρ:Ro}{σ:L2.St}{i:Nat}{d:D}{v:V}(G:Good K tg F H (ρ.set i .emp) σ)(e:σ[i]? = some (some v))(h:Is K F d v):Good K tg F H (ρ.set i (.val d)) σ:=by
 have sub:∀j t l,(List.set ρ i (Sl.val d))[j]? = some (Sl.own t l)->(List.set ρ i Sl.emp)[j]? = some (Sl.own t l):=fun j t l z=>by
  rw[List.getElem?_set] at z ⊢
  split at z
  ·split at z <;> cases z
  ·rename_i hne;rw[if_neg hne];exact z
 refine⟨G.sub,by have:=G.len;rw[List.length_set] at this ⊢;exact this,fun j s o z q =>?_,fun j k a ⟨⟨t,l,z⟩,q⟩ ⟨⟨t',l',z'⟩,q'⟩=>G.inj j k a ⟨⟨t,l,sub _ _ _ z⟩,q⟩ ⟨⟨t',l',sub _ _ _ z'⟩,q'⟩⟩
 by_cases hij:i=j
 ·subst hij;rw[List.getElem?_set,if_pos rfl] at z;split at z
  ·cases z;rw[e] at q;cases q;exact⟨v,rfl,h⟩
  ·cases z
 ·refine G.sl j s o ?_ q;rw[List.getElem?_set,if_neg hij] at z ⊢
  exact z
theorem ao{i:Nat}(h:PE X e (tVar i)):EV K X e (mVar i):=EV.mk fun _=>PE.imp h fun σ H Q hq0=>by
 obtain⟨tg,F,ρ,d,ρ',G,em,q⟩:=hq0;unfold mVar at em;split at em
 ·rename_i d' e';cases em;obtain⟨o,ho,v,rfl,hv⟩:=G.at e';exact⟨v,ho,q v H F G (Ext.refl _ _ _) hv⟩
 ·rename_i l e';cases em;obtain⟨o,ho,a,vs,rfl,hf,hh,hl,_⟩:=G.at e';have w:Owns ρ σ i a:=⟨⟨_,_,e'⟩,ho⟩;have nown:¬Own (ρ.set i .emp) σ a:=fun z=>(acl z).2 _ _ e' G.inj w
  have G2:=(G.drop i).freeze hh nown hf;have i2:Is K (upd F a (.lst vs)) (.lst l) (.ref a):=.lst ir (hl.mono (Same.new hf _));refine⟨_,ho,q _ H _ (G2.setv ho i2) ⟨Same.new hf _,fun b o z =>?_,fun _ _ z _=>z,fun b z=>.inl (acl (ar3 z)).1,fun _ z=>z⟩ i2⟩
  by_cases hb:b=a
  ·subst hb;exact .inr (.inr ⟨i,w⟩)
  ·rw[cu hb] at z;exact .inl z
 ·cases em
theorem ev_c{d:D}{v:V}(h:PE X e (tC v))(hi:∀F,Is K F d v):EV K X e (ret d):=EV.mk fun _=>PE.imp h fun σ H Q hq0=>by
 obtain⟨tg,F,ρ,d',ρ',G,em,q⟩:=hq0;obtain⟨rfl,rfl⟩:=j9 em;exact q v H F G (Ext.refl _ _ _) (hi F)
theorem bf{i:Int}{j:Nat}:EV K X (.Constant (.int i) j pos) (ret (.int i)):=ev_c ayu fun _=>.int i
theorem ahm{i:Bool}{j:Nat}:EV K X (.Constant (.bool i) j pos) (ret (.bl i)):=ev_c a3c fun _=>.bl i
def T2(K:Fg9)(m:M (D×D))(σ:L2.St)(H:Hp)(R:V->V->Hp->Prop):Prop:=∃tg F ρ p ρ',Good K tg F H ρ σ/\m ρ=some (.ok p,ρ') /\
 ∀x y H' F',Good K tg F' H' ρ' σ->Ext (Own ρ σ) (Own ρ' σ) F H F' H'->Bor K F' H' p.1 x->Bor K F' H' p.2 y->R x y H'
structure E2 (K:Fg9) (X:Cx) (a b:Expr) (m:M (D×D)):Prop where
 go:X.K=K->∃ta tb,PE X a ta/\PE X b tb/\∀σ H R,T2 K m σ H R->ta σ H fun x H1=>tb σ H1 fun y H2=>R x y H2
instance {K:Fg9} {X:Cx} {a b:Expr} {m:M (D×D)}:CoeFun (E2 K X a b m) fun _=>X.K=K->∃ta tb,PE X a ta/\PE X b tb/\∀σ H R,T2 K m σ H R->ta σ H fun x H1=>tb σ H1 fun y H2=>R x y H2:=⟨E2.go⟩
def ik(m1 m2:M D):M (D×D):=m1.bind fun x=>m2.bind fun y=>ret (x,y)
def cj(i:Nat)(m2:M D):M (D×D):=(gf i).bind fun _=>m2.bind fun y=>(gf i).bind fun x=>ret (x,y)
theorem e2_v{m1 m2:M D}(ha:EV K X a m1)(hb:EB K X b m2):E2 K X a b (ik m1 m2):=E2.mk fun hk=>⟨_,_,ha hk,hb hk,fun σ H R hq0=>by
 obtain⟨tg,F,ρ,p,ρ',G,em,q⟩:=hq0;obtain⟨d1,ρ1,e1,em⟩:=aq em;obtain⟨d2,ρ2,e2,em⟩:=aq em;obtain⟨rfl,rfl⟩:=j9 em;exact⟨tg,F,ρ,d1,ρ1,G,e1,fun x H1 F1 G1 x1 r1=>⟨tg,F1,ρ1,d2,_,G1,e2,fun y H2 F2 G2 x2 r2=>q x y H2 F2 G2 (x1.trans x2) (.inl (r1.mono x2.sub)) r2⟩⟩⟩
theorem e2_n{i:Nat}{m2:M D}(ha:PE X a (tVar i))(hb:EB K X b m2):E2 K X a b (cj i m2):=E2.mk fun hk=>⟨_,_,ha,hb hk,fun σ H R hq0=>by
 obtain⟨tg,F,ρ,p,ρ',G,em,q⟩:=hq0;obtain⟨d0,ρ0,e0,em⟩:=aq em;obtain⟨d2,ρ2,e2,em⟩:=aq em;obtain⟨d1,ρ1,e1,em⟩:=aq em;obtain⟨rfl,rfl⟩:=j9 em;obtain⟨rfl,v,hv,_⟩:=qu G e0;exact⟨v,hv,tg,F,ρ0,d2,ρ2,G,e2,fun y H2 F2 G2 x2 r2=>by
  obtain⟨rfl,v',hv',b'⟩:=qu G2 e1;rw[hv] at hv';cases hv';exact q v y H2 F2 G2 x2 b' r2⟩⟩
end
section
variable{K:Fg9}{X:Cx}{e a b c:Expr}{es:List Expr}{pos p:Pos}
section
variable{F H:Hp}{x:V}
theorem Bor.lst{l:List D}(g:Same F H)(h:Bor K F H (.lst l) x):∃a vs,x=.ref a/\H a=some (.lst vs)/\IsL K F l vs:=by
 rcases h with h | ⟨a,vs,l',e1,e2,e3,h⟩
 ·cases h with
  | lst e h=>exact⟨_,_,rfl,g _ _ e,h⟩
 ·cases e1;exact⟨a,vs,e2,e3,h⟩
theorem Bor.tup{l:List D}(h:Bor K F H (.tup l) x):∃a vs,x=.ref a/\F a=some (.tup vs)/\IsL K F l vs:=by
 rcases h with h | ⟨a,vs,l',e1,_⟩
 ·cases h with
  | tup e h=>exact⟨_,_,rfl,e,h⟩
 ·cases e1
theorem Bor.kst{l:List D}(h:Bor K F H (.kst l) x):∃a vs,x=.ref a/\SqL K F a vs/\IsL K F l vs:=by
 rcases h with h | ⟨a,vs,l',e1,_⟩
 ·cases h with
  | kst e h=>exact⟨_,_,rfl,e,h⟩
 ·cases e1
theorem Bor.int{i:Int}(h:Bor K F H (.int i) x):x=.int i:=by
 rcases h with h | ⟨a,vs,l',e1,_⟩
 ·cases h;rfl
 ·cases e1
theorem Bor.bl{i:Bool}(h:Bor K F H (.bl i) x):x=.bl i:=by
 rcases h with h | ⟨a,vs,l',e1,_⟩
 ·cases h;rfl
 ·cases e1
theorem Bor.str{i:Str}(h:Bor K F H (.str i) x):x=.str i:=by
 rcases h with h | ⟨a,vs,l',e1,_⟩
 ·cases h;rfl
 ·cases e1
theorem Bor.non(h:Bor K F H .non x):x=.non:=by
 rcases h with h | ⟨a,vs,l',e1,_⟩
 ·cases h;rfl
 ·cases e1
end
def Res(K:Fg9)(tg:Nat->Addr)(F H:Hp)(ρ:Ro)(σ:L2.St)(r:Rv)(Q:VK):Prop :=
 ∀v H' F',Good K tg F' H' ρ σ->Ext (Own ρ σ) (Own ρ σ) F H F' H'->relR K r v H (Own ρ σ) F' H' (Own ρ σ)->Q v H'
section
variable{tg:Nat->Addr}{F H:Hp}{ρ:Ro}{σ:L2.St}{Q:VK}
theorem Res.same{d:D}{v:V}(G:Good K tg F H ρ σ)(q:Res K tg F H ρ σ (.v d) Q)(h:Is K F d v):Q v H:=q v H F G (Ext.refl _ _ _) h
theorem Res.tup{l:List D}{vs:List V}(G:Good K tg F H ρ σ)(q:Res K tg F H ρ σ (.v (.tup l)) Q)(h:IsL K F l vs){p:Addr}(hp:H p=none):Q (.ref p) (upd H p (.tup vs)) :=
 q _ _ _ (G.new hp _) (G.newX hp _) (.tup ir (h.mono (Same.new (G.freeF hp) _)))
theorem Res.lst{l:List D}{vs:List V}(G:Good K tg F H ρ σ)(q:Res K tg F H ρ σ (.fr l) Q)(h:IsL K F l vs){p:Addr}(hp:H p=none):Q (.ref p) (upd H p (.lst vs)) :=
 q _ _ _ (G.fresh hp _) (G.freshX hp _) ⟨p,vs,rfl,.inl hp,G.freeF hp,ir,h,fun z=>G.own_ne hp z rfl⟩
end
def rOf(K:Fg9)(g:D->D->Option Rv):R2:=fun x y H Q=>∃tg F ρ σ d1 d2 r,Good K tg F H ρ σ/\Bor K F H d1 x/\Bor K F H d2 y/\g d1 d2=some r/\Res K tg F H ρ σ r Q
structure OpD (K:Fg9) (X:Cx) (f:Value->Value->Sem Value) (g:D->D->Option Rv):Prop where
 go:X.K=K->OpR X f (rOf K g)
instance {K:Fg9} {X:Cx} {f:Value->Value->Sem Value} {g:D->D->Option Rv}:CoeFun (OpD K X f g) fun _=>X.K=K->OpR X f (rOf K g):=⟨OpD.go⟩
def mOp(g:D->D->Option Rv)(m:M (D×D)):M Rv:=m.bind fun p=>lift (g p.1 p.2)
theorem ala{g:D->D->Option Rv}{m:M (D×D)}{ta tb:TE}(h:∀σ H R,T2 K m σ H R->ta σ H fun x H1=>tb σ H1 fun y H2=>R x y H2)(σ:L2.St)(H:Hp)(Q:VK)(t:T K (relR K) (mOp g m) σ H Q):tOp (rOf K g) ta tb σ H Q:=by
 obtain⟨tg,F,ρ,r,ρ',G,em,q⟩:=t;obtain⟨p,ρ1,e1,em⟩:=aq em;obtain⟨e2,rfl⟩:=gj em;refine h σ H _ ⟨tg,F,ρ,p,_,G,e1,fun x y H' F' G' x' bx by'=>⟨tg,F',_,σ,p.1,p.2,r,G',bx,by',e2,fun v H2 F2 G2 x2 rr=>q v H2 F2 G2 (x'.trans x2) ?_⟩⟩
 cases r with
 | v d=>exact rr
 | fr l =>
  obtain⟨a,vs,ev,ha,w⟩:=rr;refine⟨a,vs,ev,?_,w⟩;rcases ha with ha | ha
  ·exact .inl (x'.there a ha)
  ·exact(x'.own a ha).symm
 | tf d l =>
  obtain⟨t,u,a,vs,ev,ht,hd,ha,w⟩:=rr;refine⟨t,u,a,vs,ev,ht,hd,?_,w⟩;rcases ha with ha | ha
  ·exact .inl (x'.there a ha)
  ·exact(x'.own a ha).symm
theorem di{op:Operator}{g:D->D->Option Rv}{m:M (D×D)}(ho:OpD K X (binaryOp op) g)(h:E2 K X a b m):ER K X (.BinOp a op b pos) (mOp g m):=ER.mk fun hk=>by
 obtain⟨ta,tb,ha,hb,h⟩:=h hk;exact PE.imp (a2z (ho hk) ha hb) (ala h)
theorem ad9{op:CmpOp}{g:D->D->Option Rv}{m:M (D×D)}(ho:OpD K X (compareOp op) g)(h:E2 K X a b m)(hm:behindInMarks op b=false):ER K X (.Compare a [op] [b] pos) (mOp g m):=ER.mk fun hk=>by
 obtain⟨ta,tb,ha,hb,h⟩:=h hk;exact PE.imp (avq (ho hk) ha hb hm) (ala h)
def capS:Nat:=16777216
theorem afv{n:Nat}(h:n<=capS):n<=sizeLine:=by rw[sizeLine_eq];exact h
def gAdd:D->D->Option Rv
 | .int i,.int j=>some (.v (.int (i+j)))
 | .tup l,.tup k=>if l.length+k.length<=capS then some (.v (.tup (l++k))) else none
 | .lst l,.lst k=>if l.length+k.length<=capS then some (.fr (l++k)) else none
 | .str i,.str j=>if i.length+j.length<=capS then some (.v (.str (i++j))) else none
 | _,_=>none
theorem jh:OpD K X (binaryOp .Add) gAdd:=OpD.mk fun hk=>by
 intro zv s σ0 H x y v u Q I rx ry ⟨tg,F,ρ,σ,d1,d2,r,G,b1,b2,eg,q⟩;subst hk;unfold gAdd at eg;split at eg
 ·cases eg;obtain rfl:=b1.int;obtain rfl:=b2.int;exact ay5 zv s σ0 H _ _ v u Q I rx ry ⟨_,_,rfl,rfl,Res.same G q (.int _)⟩
 ·split at eg
  ·rename_i hz;cases eg;obtain⟨a1,vs1,rfl,s1,i1⟩:=b1.tup;obtain⟨a2,vs2,rfl,s2,i2⟩:=b2.tup;have l1:=i1.length;have l2:=i2.length
   by_cases hx:vs1=[]
   ·subst hx;cases i1;cases rx;cases ry;obtain⟨its,r1,p1,_⟩:=I.tuple (SqT.of (G.sub _ _ s1));obtain⟨its2,r2,p2,_⟩:=I.tuple (SqT.of (G.sub _ _ s2));exact ath p1 p2 (r1.nil_iff.mpr rfl) ⟨.ref a2,H,I,rfl,Res.same G q (.tup s2 i2)⟩
   ·refine avx zv s σ0 H _ _ v u Q I rx ry ⟨a1,a2,vs1,vs2,rfl,rfl,SqT.of (G.sub _ _ s1),SqT.of (G.sub _ _ s2),hx,by rw[<-l1,<-l2];exact afv hz,fun e =>?_,fun _ p hp=>Res.tup G q (i1.append i2) hp⟩
    subst e;cases i2;exact Res.same G q (.tup s1 (by simpa using i1))
  ·cases eg
 ·split at eg
  ·rename_i hz;cases eg;obtain⟨a1,vs1,rfl,s1,i1⟩:=b1.lst G.sub;obtain⟨a2,vs2,rfl,s2,i2⟩:=b2.lst G.sub;have l1:=i1.length;have l2:=i2.length;exact ay4 zv s σ0 H _ _ v u Q I rx ry ⟨a1,a2,vs1,vs2,rfl,rfl,s1,s2,by rw[<-l1,<-l2];exact afv hz,fun p hp=>Res.lst G q (i1.append i2) hp⟩
  ·cases eg
 ·split at eg
  ·rename_i hz;cases eg;obtain rfl:=b1.str;obtain rfl:=b2.str;exact amq zv s σ0 H _ _ v u Q I rx ry ⟨_,_,rfl,rfl,afv hz,Res.same G q (.str _)⟩
  ·cases eg
 ·cases eg
def gInt(f:Int->Int->Option Int):D->D->Option Rv
 | .int i,.int j=>(f i j).map fun k=>.v (.int k)
 | _,_=>none
theorem aj4{op:Operator}{f:Int->Int->Option Int}{C:Int->Int->Prop}{g:Int->Int->Int}(h:OpR X (binaryOp op) (rI C fun i j=>.int (g i j)))(hf:∀i j k,f i j=some k->C i j/\k=g i j):OpD K X (binaryOp op) (gInt f):=OpD.mk fun hk=>by
 intro zv s σ0 H x y v u Q I rx ry ⟨tg,F,ρ,σ,d1,d2,r,G,b1,b2,eg,q⟩;unfold gInt at eg;split at eg
 ·rename_i i j;obtain rfl:=b1.int;obtain rfl:=b2.int;cases z:f i j with
  | none=>rw[z] at eg;cases eg
  | some k =>
   rw[z] at eg;cases eg;obtain⟨h1,rfl⟩:=hf i j k z;exact h zv s σ0 H _ _ v u Q I rx ry ⟨_,_,rfl,rfl,h1,Res.same G q (.int _)⟩
 ·cases eg
def fSub(i j:Int):Option Int:=some (i - j)
def fMul(i j:Int):Option Int:=if (-18446744073709551616 < i/\i < 18446744073709551616)∨(-18446744073709551616 < j/\j < 18446744073709551616) then some (i*j) else none
theorem ay9{i j:Int}(h0:0 < j)(h:j < 1000000000000000000000000000000000000000000000000000000000000):Builtin.divisionGoesByPylong i j=false:=by
 have e2:(2:Nat) ^ 200=1606938044258990275541962092341162602522202993782792835301376:=by decide +kernel
 have hl:j.natAbs.log2 < 200:=(Nat.log2_lt (by omega)).2 (by rw[e2];omega)
 have hd:¬(j.natAbs.log2 / 30+1 > 300):=by omega
 have hj:(j==0)=false:=by
  rw[beq_eq_false_iff_ne];omega
 unfold Builtin.divisionGoesByPylong;simp only[hj,Bool.false_eq_true,if_false,hd,decide_false,Bool.false_and]
theorem ar7:OpR X (binaryOp .FloorDiv) (rI (fun _ j=>0 < j/\j < 1000000000000000000000000000000000000000000000000000000000000) fun i j=>.int (i / j)):=opI fun i j _ _ _ _ _ hc q=>by
 have h1:(0:Int) < j:=hc.1;exact floordiv_int (by omega) (by rw[Int.fdiv_eq_ediv_of_nonneg i (by omega)];exact q) (.inl (ay9 hc.1 hc.2))
def fDiv(i j:Int):Option Int:=if 0 < j/\j < 1000000000000000000000000000000000000000000000000000000000000 then some (i / j) else none
def fMod(i j:Int):Option Int:=if 0 < j then some (i % j) else none
def fPow(i j:Int):Option Int:=if 0<=j/\j<=1000000/\i.natAbs < 18446744073709551616 then some (i ^ j.toNat) else none
theorem v7:OpD K X (binaryOp .Sub) (gInt fSub):=OpD.mk fun hk=>by
 intro zv s σ0 H x y v u Q I rx ry ⟨tg,F,ρ,σ,d1,d2,r,G,b1,b2,eg,q⟩;unfold gInt at eg;split at eg
 ·obtain rfl:=b1.int;obtain rfl:=b2.int;cases eg;exact ayz zv s σ0 H _ _ v u Q I rx ry ⟨_,_,rfl,rfl,Res.same G q (.int _)⟩
 ·cases eg
end
mutual
def toPy:D->PyData
 | .non=>.none
 | .bl b=>.bool b
 | .int i=>.int i
 | .str x=>.str x
 | .tup l=>.tuple (ac7 l)
 | .lst l=>.list (ac7 l)
 | .kst l=>.list (ac7 l)
 | .dct _=>.dict []
 | .exn _ _=>.dict []
def ac7:List D->List PyData
 | []=>[]
 | d::r=>toPy d::ac7 r
end
def okD:Nat->D->Bool
 | _,.non=>true
 | _,.bl _=>true
 | _,.int _=>true
 | _,.str x=>PyData.strOk x
 | n+1,.tup l=>l.all (okD n)
 | n+1,.lst l=>l.all (okD n)
 | n+1,.kst l=>l.all (okD n)
 | _,_=>false
theorem ahb{n:Nat}(ih:∀d,okD n d=true->(toPy d).canLay0=true/\(toPy d).depth<=n):∀l:List D,l.all (okD n)=true->PyData.canLayAll0 (ac7 l)=true/\PyData.depthAll (ac7 l)<=n
 | [],_=>⟨rfl,Nat.zero_le _⟩
 | d::r,h=>by
  rw[List.all_cons,Bool.and_eq_true] at h;obtain⟨h1,h2⟩:=ih d h.1;obtain⟨h3,h4⟩:=ahb ih r h.2;refine⟨?_,?_⟩
  ·show(PyData.canLay0 (toPy d)&&PyData.canLayAll0 (ac7 r))=true;rw[h1,h3];rfl
  ·show max (PyData.depth (toPy d)) (PyData.depthAll (ac7 r))<=n;omega
theorem abv:∀(n:Nat) (d:D),okD n d=true->(toPy d).canLay0=true/\(toPy d).depth<=n
 | n,.non,_=>⟨rfl,Nat.zero_le _⟩
 | n,.bl _,_=>⟨rfl,Nat.zero_le _⟩
 | n,.int _,_=>⟨rfl,Nat.zero_le _⟩
 | n,.str x,h=>by
  refine⟨?_,Nat.zero_le _⟩;cases n <;> exact h
 | n+1,.tup l,h=>by
  obtain⟨h1,h2⟩:=ahb (abv n) l h;exact⟨h1,Nat.succ_le_succ h2⟩
 | n+1,.lst l,h=>by
  obtain⟨h1,h2⟩:=ahb (abv n) l h;exact⟨h1,Nat.succ_le_succ h2⟩
 | n+1,.kst l,h=>by
  obtain⟨h1,h2⟩:=ahb (abv n) l h;exact⟨h1,Nat.succ_le_succ h2⟩
 | 0,.tup l,h=>by cases h
 | 0,.lst l,h=>by cases h
 | 0,.kst l,h=>by cases h
 | 0,.dct l,h=>by cases h
 | n+1,.dct l,h=>by cases h
 | 0,.exn _ _,h=>by cases h
 | n+1,.exn _ _,h=>by cases h
def eqD(a b:D):Bool:=PyData.eqv (toPy a) (toPy b)
def eqDs:List D->List D->Bool
 | [],[]=>true
 | a::r,b::t=>eqD a b&&eqDs r t
 | _,_=>false
theorem apw:∀a b:List D,PyData.eqvAll (ac7 a) (ac7 b)=eqDs a b
 | [],[]=>rfl
 | a::r,b::t=>by
  show(PyData.eqv (toPy a) (toPy b)&&PyData.eqvAll (ac7 r) (ac7 t))=_;rw[apw r t];rfl
 | [],_::_=>rfl
 | _::_,[]=>rfl
section
variable{K:Fg9}{X:Cx}
section
variable{zv:List (Addr×Obj)}{σ:L2.St}{F H:Hp}{s:Shared}
mutual
theorem aci(I:Inv X zv σ H s)(g:Same F H):∀{n:Nat} {d:D} {v:V} {u:Value},Is X.K F d v->okD n d=true->RelV v u->∃as,Reads s.heap u (toPy d) as
 | _,_,_,_,.non,_,r=>by cases r;exact⟨_,.none⟩
 | _,_,_,_,.bl b,_,r=>by cases r;exact⟨_,.bool b⟩
 | _,_,_,_,.int i,_,r=>by obtain⟨t,rfl⟩:=r;exact⟨_,.int i t⟩
 | _,_,_,_,.str i,_,r=>by obtain⟨t,rfl⟩:=r;exact⟨_,.str i t⟩
 | 0,_,_,_,.tup e h,k,r=>by cases k
 | n+1,_,_,_,.tup e h,k,r=>by
  cases r;obtain⟨its,rv,p1,_⟩:=I.tuple (SqT.of (g _ _ e));obtain⟨o,ho,hc,m,hd⟩:=p1;obtain⟨as,ra⟩:=aay I g h k rv;exact⟨_,.tuple ho hc hd (by simpa using ra)⟩
 | 0,_,_,_,.lst e h,k,r=>by cases k
 | n+1,_,_,_,.lst e h,k,r=>by
  cases r;obtain⟨its,rv,p1,_⟩:=I.list (SqL.of (g _ _ e));obtain⟨o,ho,hc,m,hd⟩:=p1.isList;obtain⟨as,ra⟩:=aay I g h k rv;exact⟨_,.list ho hc hd (by simpa using ra)⟩
 | 0,_,_,_,.kst e h,k,r=>by cases k
 | n+1,_,_,_,.kst e h,k,r=>by
  cases r;obtain⟨its,rv,p1,_⟩:=I.list (L2.Same.seq g e);obtain⟨o,ho,hc,m,hd⟩:=p1.isList;obtain⟨as,ra⟩:=aay I g h k rv;exact⟨_,.list ho hc hd (by simpa using ra)⟩
 | 0,_,_,_,.dct e h,k,r=>by cases k
 | n+1,_,_,_,.dct e h,k,r=>by cases k
 | 0,_,_,_,.exn ..,k,r=>by cases k
 | n+1,_,_,_,.exn ..,k,r=>by cases k
theorem aay(I:Inv X zv σ H s)(g:Same F H):∀{n:Nat} {ds:List D} {vs:List V} {us:List Value},IsL X.K F ds vs->ds.all (okD n)=true->Vals vs us->∃as,ReadsAll s.heap us (ac7 ds) as
 | _,_,_,_,.nil,_,r=>by cases r;exact⟨_,.nil⟩
 | n,_,_,_,.cons h t,k,r=>by
  rw[List.all_cons,Bool.and_eq_true] at k;cases r with
  | cons r1 r2 =>
   obtain⟨as,ra⟩:=aci I g h k.1 r1;obtain⟨bs,rb⟩:=aay I g t k.2 r2;exact⟨_,.cons ra rb⟩
end
theorem zb(I:Inv X zv σ H s)(g:Same F H){n:Nat}{d:D}{v:V}{u:Value}(h:Bor X.K F H d v)(k:okD n d=true)(r:RelV v u):∃as,Reads s.heap u (toPy d) as:=by
 rcases h with h | ⟨a,vs,l,rfl,rfl,e,h⟩
 ·exact aci I g h k r
 ·cases r;cases n with
  | zero=>cases k
  | succ n =>
   obtain⟨its,rv,p1,_⟩:=I.list (SqL.of e);obtain⟨o,ho,hc,m,hd⟩:=p1.isList;obtain⟨as,ra⟩:=aay I g h k rv;exact⟨_,.list ho hc hd (by simpa using ra)⟩
end
def gEq(neg:Bool)(a b:D):Option Rv:=if okD 30 a&&okD 30 b then some (.v (.bl (if neg then !eqD a b else eqD a b))) else none
theorem aih(hu:X.A.units+64 < cLine):OpD K X (compareOp .Eq) (gEq false):=OpD.mk fun hk=>by
 intro zv s σ0 H x y v u Q I rx ry ⟨tg,F,ρ,σ,d1,d2,r,G,b1,b2,eg,q⟩;subst hk;unfold gEq at eg;split at eg
 ·rename_i ho;rw[Bool.and_eq_true] at ho;cases eg;obtain⟨as,ra⟩:=zb I G.sub b1 ho.1 rx;obtain⟨bs,rb⟩:=zb I G.sub b2 ho.2 ry;obtain⟨c1,p1⟩:=abv _ _ ho.1;obtain⟨c2,p2⟩:=abv _ _ ho.2;exact PySem.SeqAt.compareEq_reads ra rb c1 c2 (by omega) ⟨.bl _,H,I,rfl,Res.same G q (.bl _)⟩
 ·cases eg
theorem aov(hu:X.A.units+64 < cLine):OpD K X (compareOp .NotEq) (gEq true):=OpD.mk fun hk=>by
 intro zv s σ0 H x y v u Q I rx ry ⟨tg,F,ρ,σ,d1,d2,r,G,b1,b2,eg,q⟩;subst hk;unfold gEq at eg;split at eg
 ·rename_i ho;rw[Bool.and_eq_true] at ho;cases eg;obtain⟨as,ra⟩:=zb I G.sub b1 ho.1 rx;obtain⟨bs,rb⟩:=zb I G.sub b2 ho.2 ry;obtain⟨c1,p1⟩:=abv _ _ ho.1;obtain⟨c2,p2⟩:=abv _ _ ho.2;exact PySem.SeqAt.compareNe_reads ra rb c1 c2 (by omega) ⟨.bl _,H,I,rfl,Res.same G q (.bl _)⟩
 ·cases eg
def itemsD:D->Option (List D)
 | .tup l=>some l
 | .lst l=>some l
 | .kst l=>some l
 | _=>none
def gIn(neg:Bool)(a b:D):Option Rv:=match itemsD b with
 | some l=>if okD 30 a&&l.all (okD 30) then some (.v (.bl (if neg then !l.any (fun y=>eqD y a) else l.any (fun y=>eqD y a)))) else none
 | none=>none
open Classical in
noncomputable def aaw(h:Heap)(dx:PyData)(u:Value):Bool:=decide (∃d as,Reads h u d as/\d.canLay0=true/\PyData.eqv d dx=true)
open Classical in
theorem ahn{h:Heap}{dx d:PyData}{u:Value}{as:List Addr}(r:Reads h u d as)(c:d.canLay0=true):aaw h dx u=PyData.eqv d dx:=by
 unfold aaw;cases e:PyData.eqv d dx with
 | true=>exact decide_eq_true ⟨d,as,r,c,e⟩
 | false =>
  refine decide_eq_false ?_
  rintro⟨d',as',r',c',e'⟩
  rw[<-PySem.SeqAt.Reads.unique d d' u as as' c r r'] at e';rw[e] at e';cases e'
theorem aad{zv:List (Addr×Obj)}{σ:L2.St}{F H:Hp}{s:Shared}(I:Inv X zv σ H s)(g:Same F H){a:D}{n:Nat}:∀{ds:List D} {vs:List V} {us:List Value},IsL X.K F ds vs->ds.all (okD n)=true->Vals vs us ->
  us.any (aaw s.heap (toPy a))=ds.any (fun y=>eqD y a)/\∀u∈us,∃d as,Reads s.heap u d as/\d.canLay0=true/\d.depth<=n
 | _,_,_,.nil,_,r=>by cases r;exact⟨rfl,fun u hu=>by cases hu⟩
 | _,_,_,.cons h t,k,r=>by
  rw[List.all_cons,Bool.and_eq_true] at k;cases r with
  | cons r1 r2 =>
   obtain⟨as,ra⟩:=aci I g h k.1 r1;obtain⟨c,p⟩:=abv _ _ k.1;obtain⟨e,z⟩:=aad I g (a:=a) t k.2 r2;refine⟨?_,fun u hu =>?_⟩
   ·rw[List.any_cons,List.any_cons,e,ahn ra c];rfl
   ·rcases List.mem_cons.mp hu with rfl | hu
    ·exact⟨_,as,ra,c,p⟩
    ·exact z u hu
theorem aaa{s:Shared}{A:Around}(hu:A.units+64 < cLine){us:List Value}{a:D}{v:Value}{as:List Addr}(ra:Reads s.heap v (toPy a) as)(ka:okD 30 a=true)(z:∀u∈us,∃d as,Reads s.heap u d as/\d.canLay0=true/\d.depth<=30) :
  ∀u∈us,SeqAt.EqAt A.in1 s u v (aaw s.heap (toPy a) u):=fun u hm=>by
 obtain⟨d,bs,rb,c,p⟩:=z u hm;obtain⟨c2,p2⟩:=abv _ _ ka;rw[ahn rb c];refine PySem.SeqAt.eqAt_reads d (toPy a) A.in1 s u v bs as rb ra c c2 ?_;show A.units+1+_ < _;omega
theorem ai7{a b:D}{neg:Bool}{r:Rv}(h:gIn neg a b=some r):∃l,itemsD b=some l/\okD 30 a=true/\l.all (okD 30)=true/\r=.v (.bl (if neg then !l.any (fun y=>eqD y a) else l.any (fun y=>eqD y a))):=by
 unfold gIn at h;split at h
 ·rename_i l e;split at h
  ·rename_i ho;rw[Bool.and_eq_true] at ho;cases h;exact⟨l,e,ho.1,ho.2,rfl⟩
  ·cases h
 ·cases h
theorem aer{F H:Hp}{d:D}{l:List D}{x:V}(g:Same F H)(e:itemsD d=some l)(h:Bor K F H d x):∃a vs,x=.ref a/\IsL K F l vs/\(SqL K H a vs∨SqT K H a vs):=by
 cases d with
 | tup k =>
  cases e;obtain⟨a,vs,rfl,e,h⟩:=h.tup;exact⟨a,vs,rfl,h,.inr (SqT.of (g _ _ e))⟩
 | lst k =>
  cases e;obtain⟨a,vs,rfl,e,h⟩:=h.lst g;exact⟨a,vs,rfl,h,.inl (SqL.of e)⟩
 | kst k =>
  cases e;obtain⟨a,vs,rfl,e,h⟩:=h.kst;exact⟨a,vs,rfl,h,.inl (L2.Same.seq g e)⟩
 | _=>cases e
theorem aow(hu:X.A.units+64 < cLine):OpD K X (compareOp .In) (gIn false):=OpD.mk fun hk=>by
 intro zv s σ0 H x y v u Q I rx ry ⟨tg,F,ρ,σ,d1,d2,r,G,b1,b2,eg,q⟩;subst hk;obtain⟨l,e,k1,k2,rfl⟩:=ai7 eg;obtain⟨as,ra⟩:=zb I G.sub b1 k1 rx;obtain⟨p,vs,rfl,hl,hs⟩:=aer G.sub e b2;cases ry;rcases hs with hs | hs
 ·obtain⟨its,rv,pl,_⟩:=I.list hs;obtain⟨ea,z⟩:=aad I G.sub (a:=d1) hl k2 rv;refine SeqAt.in_listAt (aaw s.heap (toPy d1)) pl.isList (fun w hw=>aaa hu ra k1 z w (by simpa using hw)) ⟨.bl _,H,I,rfl,?_⟩
  rw[show its.toArray.any (aaw s.heap (toPy d1))=its.any (aaw s.heap (toPy d1)) by simp,ea]
  exact Res.same G q (.bl _)
 ·obtain⟨its,rv,pl,_⟩:=I.tuple hs;obtain⟨ea,z⟩:=aad I G.sub (a:=d1) hl k2 rv;refine SeqAt.in_tupleAt (aaw s.heap (toPy d1)) pl (fun w hw=>aaa hu ra k1 z w (by simpa using hw)) ⟨.bl _,H,I,rfl,?_⟩
  rw[show its.toArray.any (aaw s.heap (toPy d1))=its.any (aaw s.heap (toPy d1)) by simp,ea]
  exact Res.same G q (.bl _)
theorem aif(hu:X.A.units+64 < cLine):OpD K X (compareOp .NotIn) (gIn true):=OpD.mk fun hk=>by
 intro zv s σ0 H x y v u Q I rx ry ⟨tg,F,ρ,σ,d1,d2,r,G,b1,b2,eg,q⟩;subst hk;obtain⟨l,e,k1,k2,rfl⟩:=ai7 eg;obtain⟨as,ra⟩:=zb I G.sub b1 k1 rx;obtain⟨p,vs,rfl,hl,hs⟩:=aer G.sub e b2;cases ry;rcases hs with hs | hs
 ·obtain⟨its,rv,pl,_⟩:=I.list hs;obtain⟨ea,z⟩:=aad I G.sub (a:=d1) hl k2 rv;refine SeqAt.notIn_listAt (aaw s.heap (toPy d1)) pl.isList (fun w hw=>aaa hu ra k1 z w (by simpa using hw)) ⟨.bl _,H,I,rfl,?_⟩
  rw[show its.toArray.any (aaw s.heap (toPy d1))=its.any (aaw s.heap (toPy d1)) by simp,ea]
  exact Res.same G q (.bl _)
 ·obtain⟨its,rv,pl,_⟩:=I.tuple hs;obtain⟨ea,z⟩:=aad I G.sub (a:=d1) hl k2 rv;refine SeqAt.notIn_tupleAt (aaw s.heap (toPy d1)) pl (fun w hw=>aaa hu ra k1 z w (by simpa using hw)) ⟨.bl _,H,I,rfl,?_⟩
  rw[show its.toArray.any (aaw s.heap (toPy d1))=its.any (aaw s.heap (toPy d1)) by simp,ea]
  exact Res.same G q (.bl _)
end
end Dn
namespace Dn
open L2 Mn
section
variable{K:Fg9}{X:Cx}{e a b c:Expr}{es:List Expr}{pos p:Pos}
theorem aox:OpD K X (binaryOp .FloorDiv) (gInt fDiv):=aj4 ar7 fun i j k h=>by
 unfold fDiv at h;split at h
 ·cases h;exact⟨by assumption,rfl⟩
 ·cases h
theorem aag:OpD K X (binaryOp .Mod) (gInt fMod):=aj4 ay3 fun i j k h=>by
 unfold fMod at h;split at h
 ·cases h;exact⟨by assumption,rfl⟩
 ·cases h
theorem avv:OpD K X (binaryOp .Pow) (gInt fPow):=aj4 ay1 fun i j k h=>by
 unfold fPow at h;split at h
 ·rename_i hc;cases h;exact⟨⟨hc.1,hc.2.1,hc.2.2⟩,rfl⟩
 ·cases h
def gMul:D->D->Option Rv
 | .int i,.int j=>(fMul i j).map fun k=>.v (.int k)
 | .tup l,.int k=>if k=1 then some (.v (.tup l)) else if l≠[]/\2<=k/\k < 9223372036854775808/\l.length*k.toNat<=capS then some (.v (.tup (List.replicate k.toNat l).flatten)) else none
 | .lst l,.int k=>if k.natAbs < 9223372036854775808/\l.length*k.toNat<=capS then some (.fr (List.replicate k.toNat l).flatten) else none
 | _,_=>none
theorem adf:OpD K X (binaryOp .Mult) gMul:=OpD.mk fun hk=>by
 intro zv s σ0 H x y v u Q I rx ry ⟨tg,F,ρ,σ,d1,d2,r,G,b1,b2,eg,q⟩;subst hk;unfold gMul at eg;split at eg
 ·rename_i i j;obtain rfl:=b1.int;obtain rfl:=b2.int;unfold fMul at eg;split at eg
  ·rename_i hc;cases eg;exact ay2 zv s σ0 H _ _ v u Q I rx ry ⟨_,_,rfl,rfl,hc,Res.same G q (.int _)⟩
  ·cases eg
 ·rename_i l k;split at eg
  ·rename_i hk1;subst hk1;cases eg;obtain⟨a1,vs1,rfl,s1,i1⟩:=b1.tup;obtain rfl:=b2.int;exact avw zv s σ0 H _ _ v u Q I rx ry ⟨a1,vs1,rfl,rfl,G.sub _ _ s1,Res.same G q (.tup s1 i1)⟩
  split at eg
  ·rename_i hc;obtain⟨h0,h2,h3,hz⟩:=hc;cases eg;obtain⟨a1,vs1,rfl,s1,i1⟩:=b1.tup;obtain rfl:=b2.int;have l1:=i1.length;refine ar5 zv s σ0 H _ _ v u Q I rx ry ⟨a1,vs1,k,rfl,rfl,G.sub _ _ s1,?_,h2,h3,by rw[<-l1];exact afv hz,fun p hp=>Res.tup G q (i1.rep _) hp⟩
   intro z;subst z;cases i1;exact h0 rfl
  ·cases eg
 ·rename_i l k;split at eg
  ·rename_i hc;obtain⟨hab,hz⟩:=hc;have h0 : -9223372036854775808<=k:=by omega
   have h2:k < 9223372036854775808:=by omega
   cases eg;obtain⟨a1,vs1,rfl,s1,i1⟩:=b1.lst G.sub;obtain rfl:=b2.int;have l1:=i1.length;exact ay0 zv s σ0 H _ _ v u Q I rx ry ⟨a1,k,vs1,rfl,rfl,s1,h0,h2,by rw[<-l1];exact afv hz,fun p hp=>Res.lst G q (i1.rep _) hp⟩
  ·cases eg
 ·cases eg
def gCmp(f:Int->Int->Bool):D->D->Option Rv
 | .int i,.int j=>some (.v (.bl (f i j)))
 | _,_=>none
theorem aj5{op:CmpOp}{f:Int->Int->Bool}(h:OpR X (compareOp op) (rI0 fun i j=>.bl (f i j))):OpD K X (compareOp op) (gCmp f):=OpD.mk fun hk=>by
 intro zv s σ0 H x y v u Q I rx ry ⟨tg,F,ρ,σ,d1,d2,r,G,b1,b2,eg,q⟩;unfold gCmp at eg;split at eg
 ·cases eg;obtain rfl:=b1.int;obtain rfl:=b2.int;exact h zv s σ0 H _ _ v u Q I rx ry ⟨_,_,rfl,rfl,Res.same G q (.bl _)⟩
 ·cases eg
theorem aig:OpD K X (compareOp .Lt) (gCmp fun i j=>decide (i < j)):=aj5 a3d
theorem atw:OpD K X (compareOp .Gt) (gCmp fun i j=>decide (j < i)):=aj5 a3e
theorem ad2:OpD K X (compareOp .GtE) (gCmp fun i j=>decide (j<=i)):=aj5 a3f
def gNeg:D->Option D
 | .int i=>some (.int (-i))
 | _=>none
def mUn(g:D->Option D)(m:M D):M D:=m.bind fun d=>lift (g d)
theorem ac2{m:M D}(h:EV K X a m):EV K X (.UnaryOp .USub a pos) (mUn gNeg m):=EV.mk fun hk=>PE.imp (a2y axv (h hk)) fun σ H Q hq0=>by
 obtain⟨tg,F,ρ,d,ρ',G,em,q⟩:=hq0;obtain⟨d1,ρ1,e1,em⟩:=aq em;obtain⟨e2,rfl⟩:=gj em;refine⟨tg,F,ρ,d1,_,G,e1,fun v H' F' G' x r =>?_⟩
 cases d1 with
 | int i =>
  cases e2;cases r;exact⟨i,rfl,q _ H' F' G' x (.int _)⟩
 | _=>cases e2
def asB:D->Option Bool
 | .bl b=>some b
 | _=>none
def gNot(d:D):Option D:=(asB d).map fun k=>.bl (!k)
theorem aqr{d:D}{k:Bool}(h:asB d=some k):d=.bl k:=by
 cases d with
 | bl b=>cases h;rfl
 | _=>cases h
theorem a0f{m:M D}(h:EV K X a m):EV K X (.UnaryOp .Not a pos) (mUn gNot m):=EV.mk fun hk=>PE.imp (ays (h hk)) fun σ H Q hq0=>by
 obtain⟨tg,F,ρ,d,ρ',G,em,q⟩:=hq0;obtain⟨d1,ρ1,e1,em⟩:=aq em;obtain⟨e2,rfl⟩:=gj em;refine⟨tg,F,ρ,d1,_,G,e1,fun v H' F' G' x r =>?_⟩
 cases d1 with
 | bl i =>
  cases e2;cases r;exact⟨i,rfl,q _ H' F' G' x (.bl _)⟩
 | _=>cases e2
def mAnd(m1 m2:M D):M D:=m1.bind fun d=>(lift (asB d)).bind fun k=>if k=true then m2 else ret (.bl false)
def mOr(m1 m2:M D):M D:=m1.bind fun d=>(lift (asB d)).bind fun k=>if k=true then ret (.bl true) else m2
theorem alu{op}{m:M D}(h:EV K X a m):EV K X (.BoolOp op [a] pos) m:=EV.mk fun hk=>ayr (h hk)
theorem alw{m1 m2:M D}{rest:List Expr}(h1:EV K X a m1)(h2:EV K X (.BoolOp .And (b::rest) pos) m2):EV K X (.BoolOp .And (a::b::rest) pos) (mAnd m1 m2):=EV.mk fun hk=>PE.imp (ayy (h1 hk) (h2 hk)) fun σ H Q hq0=>by
 obtain⟨tg,F,ρ,d,ρ',G,em,q⟩:=hq0;obtain⟨d1,ρ1,e1,em⟩:=aq em;obtain⟨k,ρ2,e2,em⟩:=aq em;obtain⟨e3,rfl⟩:=gj e2;obtain rfl:=aqr e3;refine⟨tg,F,ρ,_,_,G,e1,fun v H' F' G' x r =>?_⟩
 cases r;refine⟨k,rfl,?_⟩;cases k with
 | true=>exact iteT ⟨tg,F',_,d,ρ',G',em,fun v2 H2 F2 G2 x2 r2=>q v2 H2 F2 G2 (x.trans x2) r2⟩
 | false =>
  obtain⟨rfl,rfl⟩:=j9 (show ret (D.bl false) _=_ from em)
  exact iteF (q _ H' F' G' x (.bl _))
def TB(K:Fg9)(m:M Bool):TT:=fun σ H Q=>∃tg F ρ k ρ',Good K tg F H ρ σ/\m ρ=some (.ok k,ρ')/\∀H' F',Good K tg F' H' ρ' σ->Ext (Own ρ σ) (Own ρ' σ) F H F' H'->Q k H'
structure ET (K:Fg9) (X:Cx) (e:Expr) (m:M Bool):Prop where
 go:X.K=K->PT X e (TB K m)
instance {K:Fg9} {X:Cx} {e:Expr} {m:M Bool}:CoeFun (ET K X e m) fun _=>X.K=K->PT X e (TB K m):=⟨ET.go⟩
structure EW (K:Fg9) (X:Cx) (e:Expr) (m:M Bool):Prop where
 go:X.K=K->PW X e (TB K m)
instance {K:Fg9} {X:Cx} {e:Expr} {m:M Bool}:CoeFun (EW K X e m) fun _=>X.K=K->PW X e (TB K m):=⟨EW.go⟩
theorem PT.imp{t t':TT}(h:PT X e t)(w:∀σ H Q,t' σ H Q->t σ H Q):PT X e t':=fun zv s σ H Q I q=>h zv s σ H Q I (w σ H Q q)
theorem PW.imp{t t':TT}(h:PW X e t)(w:∀σ H Q,t' σ H Q->t σ H Q):PW X e t':=fun wh zv s σ H Q I q=>h wh zv s σ H Q I (w σ H Q q)
theorem EW.pt{m:M Bool}(h:EW K X e m):ET K X e m:=ET.mk fun hk=>(h hk).pt
def abq(m:M D):M Bool:=m.bind fun d=>lift (asB d)
theorem ara{m:M D}(σ:L2.St)(H:Hp)(Q:Bool->Hp->Prop)(t:TB K (abq m) σ H Q):tB (T K (relD K) m) σ H Q:=by
 obtain⟨tg,F,ρ,k,ρ',G,em,q⟩:=t;obtain⟨d1,ρ1,e1,em⟩:=aq em;obtain⟨e3,rfl⟩:=gj em;obtain rfl:=aqr e3;refine⟨tg,F,ρ,_,_,G,e1,fun v H' F' G' x r =>?_⟩
 cases r;exact⟨k,rfl,q H' F' G' x⟩
theorem aa3{m:M D}(h:EV K X e m)(he:∀whole,isTrue e X.env whole=(do let v <-whole;standAt e.pos;holding [v] (truthy v)):=by intro _;rfl):ET K X e (abq m):=ET.mk fun hk=>PT.imp (ayh (h hk) he) ara
def ph(g:D->D->Option Rv)(m:M (D×D)):M Bool:=abq (mOp g m).d
theorem qm{op:CmpOp}{g:D->D->Option Rv}{m:M (D×D)}(ho:OpD K X (compareOp op) g)(h:E2 K X a b m)(hm:behindInMarks op b=false):ET K X (.Compare a [op] [b] pos) (ph g m):=ET.mk fun hk=>by
 obtain⟨ta,tb,ha,hb,h⟩:=h hk;refine PT.imp (au8 (ho hk) ha hb hm) fun σ H Q t =>?_
 obtain⟨tg,F,ρ,k,ρ',G,em,q⟩:=t;obtain⟨d1,ρ1,e1,em⟩:=aq em;obtain⟨e3,rfl⟩:=gj em;obtain rfl:=aqr e3;obtain⟨r,ρ2,e1,em⟩:=aq e1;obtain⟨er,rfl⟩:=j9 em;refine ala h σ H _ ⟨tg,F,ρ,r,_,G,e1,fun v H' F' G' x w =>?_⟩
 cases r with
 | v d =>
  have er:d=.bl k:=er;subst er;have w:Is K F' (.bl k) v:=w;cases w;exact⟨k,rfl,q H' F' G' x⟩
 | fr l=>cases er
 | tf d l=>cases er
def ahd(m:M Bool):M Bool:=m.bind fun k=>ret (!k)
theorem afk{m:M Bool}(h:ET K X a m):ET K X (.UnaryOp .Not a pos) (ahd m):=ET.mk fun hk=>PT.imp (ayi (h hk)) fun σ H Q hq0=>by
 obtain⟨tg,F,ρ,k,ρ',G,em,q⟩:=hq0;obtain⟨d1,ρ1,e1,em⟩:=aq em;obtain⟨rfl,rfl⟩:=j9 em;exact⟨tg,F,ρ,d1,_,G,e1,fun H' F' G' x=>q H' F' G' x⟩
def awc(m1 m2:M Bool):M Bool:=m1.bind fun k=>if k=true then m2 else ret false
def mOrB(m1 m2:M Bool):M Bool:=m1.bind fun k=>if k=true then ret true else m2
theorem aw1{m:M Bool}(h:ET K X a m):EW K X (.BoolOp .And [a] pos) m:=EW.mk fun hk=>au6 (h hk)
theorem a0e{m1 m2:M Bool}{rest:List Expr}(h1:ET K X a m1)(h2:EW K X (.BoolOp .And (b::rest) pos) m2):EW K X (.BoolOp .And (a::b::rest) pos) (awc m1 m2):=EW.mk fun hk=>PW.imp (ayb (h1 hk) (h2 hk)) fun σ H Q hq0=>by
 obtain⟨tg,F,ρ,d,ρ',G,em,q⟩:=hq0;obtain⟨k,ρ1,e1,em⟩:=aq em;refine⟨tg,F,ρ,k,_,G,e1,fun H' F' G' x =>?_⟩
 cases k with
 | true=>exact iteT ⟨tg,F',_,d,ρ',G',em,fun H2 F2 G2 x2=>q H2 F2 G2 (x.trans x2)⟩
 | false =>
  obtain⟨rfl,rfl⟩:=j9 (show ret false _=_ from em)
  exact iteF (q H' F' G' x)
def aiu(f g:Int->Int->Bool)(m1 m2 m3:M D):M D:=m1.bind fun x=>m2.bind fun y=>match x,y with
 | .int i,.int j=>if f i j=true then m3.bind fun z=>match z with
  | .int k=>ret (.bl (g j k))
  | _=>lift none
  else ret (.bl false)
 | _,_=>lift none
theorem ap9{f g:Int->Int->Bool}{m1 m2 m3:M D}(σ:L2.St)(H:Hp)(Q:VK)(t:T K (relD K) (aiu f g m1 m2 m3) σ H Q) :
  atm (rI0 fun i j=>.bl (f i j)) (rI0 fun i j=>.bl (g i j)) (T K (relD K) m1) (T K (relD K) m2) (T K (relD K) m3) σ H Q:=by
 obtain⟨tg,F,ρ,d,ρ',G,em,q⟩:=t;obtain⟨d1,ρ1,e1,em⟩:=aq em;obtain⟨d2,ρ2,e2,em⟩:=aq em;have bad:∀{ρ:Ro},(lift (none:Option D)) ρ=some (.ok d,ρ')->False:=fun z=>by
  obtain⟨z,_⟩:=gj z;cases z
 cases d1 with
 | int i =>
  cases d2 with
  | int j =>
   refine⟨tg,F,ρ,_,ρ1,G,e1,fun v H1 F1 G1 x1 r1=>⟨tg,F1,ρ1,_,ρ2,G1,e2,fun v2 H2 F2 G2 x2 r2 =>?_⟩⟩
   cases r1;cases r2;refine⟨i,j,rfl,rfl,f i j,rfl,?_⟩;have em:(if f i j=true then m3.bind fun z=>match z with
    | .int k=>ret (.bl (g j k))
    | _=>lift none
    else ret (.bl false)) ρ2=some (.ok d,ρ'):=em
   by_cases hf:f i j=true
   ·rw[if_pos hf] at em ⊢
    obtain⟨d3,ρ3,e3,em⟩:=aq em;refine⟨tg,F2,ρ2,d3,ρ3,G2,e3,fun v3 H3 F3 G3 x3 r3 =>?_⟩
    cases d3 with
    | int k =>
     obtain⟨rfl,rfl⟩:=j9 (show ret (D.bl (g j k)) _=_ from em)
     cases r3;exact⟨j,k,rfl,rfl,q _ H3 F3 G3 ((x1.trans x2).trans x3) (.bl _)⟩
    | _=>exact(bad em).elim
   ·rw[if_neg hf] at em ⊢
    obtain⟨rfl,rfl⟩:=j9 em;exact q _ H2 F2 G2 (x1.trans x2) (.bl _)
  | _=>exact(bad em).elim
 | _=>cases d2 <;> exact(bad em).elim
theorem alv{op op':CmpOp}{f g:Int->Int->Bool}{m1 m2 m3:M D}(ho:OpR X (compareOp op) (rI0 fun i j=>.bl (f i j)))(ho':OpR X (compareOp op') (rI0 fun i j=>.bl (g i j)))(h1:EV K X a m1)(h2:EV K X b m2)(h3:EV K X c m3)
  (hm:lastMarks [op,op'] [b,c]=false:=by with_unfolding_all rfl):EV K X (.Compare a [op,op'] [b,c] pos) (aiu f g m1 m2 m3):=EV.mk fun hk=>PE.imp (ar0 ho ho' (h1 hk) (h2 hk) (h3 hk) hm) ap9
def mIf{α:Type}(m:M Bool)(m1 m2:M α):M α:=m.bind fun k=>if k=true then m1 else m2
end
section
variable{K:Fg9}{X:Cx}{e a b c:Expr}{es:List Expr}{pos p p2:Pos}
def TL(K:Fg9)(m:M (List D)):TA:=fun σ H Q=>∃tg F ρ ds ρ',Good K tg F H ρ σ/\m ρ=some (.ok ds,ρ')/\∀vs H' F',Good K tg F' H' ρ' σ->Ext (Own ρ σ) (Own ρ' σ) F H F' H'->IsL K F' ds vs->Q vs H'
structure ED (K:Fg9) (X:Cx) (es:List Expr) (m:M (List D)):Prop where
 go:X.K=K->PA X es (TL K m)
instance {K:Fg9} {X:Cx} {es:List Expr} {m:M (List D)}:CoeFun (ED K X es m) fun _=>X.K=K->PA X es (TL K m):=⟨ED.go⟩
theorem PA.imp{t t':TA}(h:PA X es t)(w:∀σ H Q,t' σ H Q->t σ H Q):PA X es t':=fun ps zv s σ H Q I q=>h ps zv s σ H Q I (w σ H Q q)
def mNil:M (List D):=ret []
def cg(m:M D)(ms:M (List D)):M (List D):=m.bind fun d=>ms.bind fun ds=>ret (d::ds)
theorem f9:ED K X [] mNil:=ED.mk fun _=>PA.imp age fun σ H Q hq0=>by
 obtain⟨tg,F,ρ,ds,ρ',G,em,q⟩:=hq0;obtain⟨rfl,rfl⟩:=j9 em;exact q [] H F G (Ext.refl _ _ _) .nil
theorem az{m:M D}{ms:M (List D)}(h:EV K X e m)(t:ED K X es ms)(hs:starEach (e::es) X.env=(false,eval e X.env)::starEach es X.env:=by rfl):ED K X (e::es) (cg m ms):=ED.mk fun hk=>PA.imp (yh (h hk) (t hk) hs) fun σ H Q hq0=>by
 obtain⟨tg,F,ρ,ds,ρ',G,em,q⟩:=hq0;obtain⟨d,ρ1,e1,em⟩:=aq em;obtain⟨r,ρ2,e2,em⟩:=aq em;obtain⟨rfl,rfl⟩:=j9 em;exact⟨tg,F,ρ,d,ρ1,G,e1,fun v H1 F1 G1 x1 r1=>⟨tg,F1,ρ1,r,_,G1,e2,fun vs H2 F2 G2 x2 r2=>q _ H2 F2 G2 (x1.trans x2) (.cons (r1.mono x2.sub) r2)⟩⟩
def gTup(ds:List D):Option D:=if ds.length<=capS then some (.tup ds) else none
def gLst(ds:List D):Option Rv:=if ds.length<=capS then some (.fr ds) else none
def mTup(m:M (List D)):M D:=m.bind fun ds=>lift (gTup ds)
def mLst(m:M (List D)):M Rv:=m.bind fun ds=>lift (gLst ds)
theorem apu{k}{m:M (List D)}(h:ED K X es m):EV K X (.Tuple es k pos) (mTup m):=EV.mk fun hk=>PE.imp (ayq (h hk)) fun σ H Q hq0=>by
 obtain⟨tg,F,ρ,d,ρ',G,em,q⟩:=hq0;obtain⟨ds,ρ1,e1,em⟩:=aq em;obtain⟨e2,rfl⟩:=gj em;unfold gTup at e2;split at e2
 ·rename_i hz;cases e2;refine⟨tg,F,ρ,ds,_,G,e1,fun vs H1 F1 G1 x1 r1=>⟨by rw[<-r1.length];exact afv hz,fun p hp=>q _ _ _ (G1.new hp _) (x1.trans (G1.newX hp _)) (.tup ir (r1.mono (Same.new (G1.freeF hp) _)))⟩⟩
 ·cases e2
theorem u5{m:M (List D)}(h:ED K X es m):ER K X (.List es pos) (mLst m):=ER.mk fun hk=>PE.imp (ayt (h hk)) fun σ H Q hq0=>by
 obtain⟨tg,F,ρ,d,ρ',G,em,q⟩:=hq0;obtain⟨ds,ρ1,e1,em⟩:=aq em;obtain⟨e2,rfl⟩:=gj em;unfold gLst at e2;split at e2
 ·rename_i hz;cases e2;refine⟨tg,F,ρ,ds,_,G,e1,fun vs H1 F1 G1 x1 r1=>⟨by rw[<-r1.length];exact afv hz,fun p hp=>q _ _ _ (G1.fresh hp _) (x1.trans (G1.freshX hp _)) ⟨p,vs,rfl,.inl (x1.there p hp),G1.freeF hp,ir,r1,fun z=>G1.own_ne hp z rfl⟩⟩⟩
 ·cases e2
inductive BorL (K:Fg9) (F H:Hp):List D->List V->Prop
 | nil:BorL K F H [] []
 | cons {d:D} {v:V} {ds:List D} {vs:List V} (h:Bor K F H d v) (t:BorL K F H ds vs):BorL K F H (d::ds) (v::vs)
def TA'(K:Fg9)(m:M (List D)):TA:=fun σ H Q=>∃tg F ρ ds ρ',Good K tg F H ρ σ/\m ρ=some (.ok ds,ρ')/\∀vs H' F',Good K tg F' H' ρ' σ->Ext (Own ρ σ) (Own ρ' σ) F H F' H'->BorL K F' H' ds vs->Q vs H'
structure EA (K:Fg9) (X:Cx) (es:List Expr) (m:M (List D)):Prop where
 go:X.K=K->PA X es (TA' K m)
instance {K:Fg9} {X:Cx} {es:List Expr} {m:M (List D)}:CoeFun (EA K X es m) fun _=>X.K=K->PA X es (TA' K m):=⟨EA.go⟩
def dw(i:Nat)(ms:M (List D)):M (List D):=(gf i).bind fun _=>ms.bind fun ds=>(gf i).bind fun d=>ret (d::ds)
theorem bw:EA K X [] mNil:=EA.mk fun _=>PA.imp age fun σ H Q hq0=>by
 obtain⟨tg,F,ρ,ds,ρ',G,em,q⟩:=hq0;obtain⟨rfl,rfl⟩:=j9 em;exact q [] H F G (Ext.refl _ _ _) .nil
theorem ea_v{m:M D}{ms:M (List D)}(h:EV K X e m)(t:EA K X es ms)(hs:starEach (e::es) X.env=(false,eval e X.env)::starEach es X.env:=by rfl):EA K X (e::es) (cg m ms):=EA.mk fun hk=>PA.imp (yh (h hk) (t hk) hs) fun σ H Q hq0=>by
 obtain⟨tg,F,ρ,ds,ρ',G,em,q⟩:=hq0;obtain⟨d,ρ1,e1,em⟩:=aq em;obtain⟨r,ρ2,e2,em⟩:=aq em;obtain⟨rfl,rfl⟩:=j9 em;exact⟨tg,F,ρ,d,ρ1,G,e1,fun v H1 F1 G1 x1 r1=>⟨tg,F1,ρ1,r,_,G1,e2,fun vs H2 F2 G2 x2 r2=>q _ H2 F2 G2 (x1.trans x2) (.cons (.inl (r1.mono x2.sub)) r2)⟩⟩
theorem ea_n{i:Nat}{ms:M (List D)}(h:PE X e (tVar i))(t:EA K X es ms)(hs:starEach (e::es) X.env=(false,eval e X.env)::starEach es X.env:=by rfl):EA K X (e::es) (dw i ms):=EA.mk fun hk=>PA.imp (yh h (t hk) hs) fun σ H Q hq0=>by
 obtain⟨tg,F,ρ,ds,ρ',G,em,q⟩:=hq0;obtain⟨d0,ρ0,e0,em⟩:=aq em;obtain⟨r,ρ2,e2,em⟩:=aq em;obtain⟨d,ρ1,e1,em⟩:=aq em;obtain⟨rfl,rfl⟩:=j9 em;obtain⟨rfl,v,hv,_⟩:=qu G e0;exact⟨v,hv,tg,F,ρ0,r,_,G,e2,fun vs H2 F2 G2 x2 r2=>by
  obtain⟨rfl,v',hv',b'⟩:=qu G2 e1;rw[hv] at hv';cases hv';exact q _ H2 F2 G2 x2 (.cons b' r2)⟩
def rcOf(K:Fg9)(g:List D->Option Rv):List V->Hp->VK->Prop:=fun vs H Q=>∃tg F ρ σ ds r,Good K tg F H ρ σ/\BorL K F H ds vs/\g ds=some r/\Res K tg F H ρ σ r Q
structure CallD (K:Fg9) (X:Cx) (f:Value) (g:List D->Option Rv):Prop where
 go:X.K=K->yp X f (rcOf K g)
instance {K:Fg9} {X:Cx} {f:Value} {g:List D->Option Rv}:CoeFun (CallD K X f g) fun _=>X.K=K->yp X f (rcOf K g):=⟨CallD.go⟩
def dz(g:List D->Option Rv)(m:M (List D)):M Rv:=m.bind fun ds=>lift (g ds)
theorem p7{O O1 O2:Addr->Prop}{F H F1 H1 F2 H2:Hp}{r:Rv}{v:V}(x:Ext O O1 F H F1 H1)(h:relR K r v H1 O1 F2 H2 O2):relR K r v H O F2 H2 O2:=by
 cases r with
 | v d=>exact h
 | fr l =>
  obtain⟨a,vs,ev,ha,w⟩:=h;refine⟨a,vs,ev,?_,w⟩;rcases ha with ha | ha
  ·exact .inl (x.there a ha)
  ·exact(x.own a ha).symm
 | tf d l =>
  obtain⟨t,u,a,vs,ev,ht,hd,ha,w⟩:=h;refine⟨t,u,a,vs,ev,ht,hd,?_,w⟩;rcases ha with ha | ha
  ·exact .inl (x.there a ha)
  ·exact(x.own a ha).symm
theorem al3{g:List D->Option Rv}{m:M (List D)}(σ:L2.St)(H:Hp)(Q:VK)(t:T K (relR K) (dz g m) σ H Q):tCB (rcOf K g) (TA' K m) σ H Q:=by
 obtain⟨tg,F,ρ,r,ρ',G,em,q⟩:=t;obtain⟨ds,ρ1,e1,em⟩:=aq em;obtain⟨e2,rfl⟩:=gj em;exact⟨tg,F,ρ,ds,_,G,e1,fun vs H' F' G' x' bl=>⟨tg,F',_,σ,ds,r,G',bl,e2,fun v H2 F2 G2 x2 rr=>q v H2 F2 G2 (x'.trans x2) (p7 x' rr)⟩⟩
section
variable{x:Str}{id Ty:String}{g:List D->Option Rv}{m:M (List D)}
theorem bj(hc:CallD K X (.builtin id) g)(hg:Gl X x)(hm:X.mg x=none)(hv:bootBuiltins x=some (.builtin id))(ha:EA K X (e::es) m)(hn:x ≠ "__name__" := by decide)(hdb:(x==("__debug__" : Str))=false:=by decide)
  (he:starEach (e::es) X.env=(false,eval e X.env)::starEach es X.env:=by rfl) (hpl:(backTo pos (starEach es X.env)).any (·.1)=false:=by rfl):ER K X (.Call (.Name x p) (e::es) [] pos) (dz g m):=ER.mk fun hk=>PE.imp (ag5 (hc hk) hg hm hv (ha hk) hn hdb he hpl) al3
theorem fu(hc:CallD K X (.type Ty) g)(hg:Gl X x)(hm:X.mg x=none)(hv:bootBuiltins x=some (.type Ty))(ha:EA K X (e::es) m)(hn:x ≠ "__name__" := by decide)(hdb:(x==("__debug__" : Str))=false:=by decide)
  (he:starEach (e::es) X.env=(false,eval e X.env)::starEach es X.env:=by rfl) (hpl:(backTo pos (starEach es X.env)).any (·.1)=false:=by rfl):ER K X (.Call (.Name x p) (e::es) [] pos) (dz g m):=ER.mk fun hk=>PE.imp (ack (hc hk) hg hm hv (ha hk) hn hdb he hpl) al3
end
theorem BorL.one{F H:Hp}{d:D}{vs:List V}(h:BorL K F H [d] vs):∃v,vs=[v]/\Bor K F H d v:=by
 cases h with
 | cons h t=>cases t;exact⟨_,rfl,h⟩
theorem BorL.two{F H:Hp}{d d':D}{vs:List V}(h:BorL K F H [d,d'] vs):∃v v',vs=[v,v']/\Bor K F H d v/\Bor K F H d' v':=by
 cases h with
 | cons h t =>
  obtain⟨v',rfl,h'⟩:=t.one;exact⟨_,_,rfl,h,h'⟩
def g1(f:D->Option Rv):List D->Option Rv
 | [d]=>f d
 | _=>none
def g2(f:D->D->Option Rv):List D->Option Rv
 | [d,d']=>f d d'
 | _=>none
theorem aft{f:D->Option Rv}{w:Value} (h:X.K=K->∀(zv:List (Addr×Obj)) (s:Shared) (σ0:L2.St) (H:Hp) (x:V) (u:Value) (Q:VK) (tg:Nat->Addr) (F:Hp) (ρ:Ro) (σ:L2.St) (d:D) (r:Rv),Inv X zv σ0 H s->RelV x u->Good K tg F H ρ σ->Bor K F H d x->f d=some r->Res K tg F H ρ σ r Q ->
  wpAny (model X.prog X.w) X.A (call w [u]) (EP X zv σ0 Q) X.xe s):CallD K X w (g1 f):=CallD.mk fun hk=>by
 intro zv s σ0 H xs us Q I r ⟨tg,F,ρ,σ,ds,rv,G,bl,eg,q⟩
 match ds,eg with
 | [d],eg =>
  obtain⟨v,rfl,bv⟩:=bl.one;obtain⟨u,rfl,ru⟩:=vals1 r;exact h hk zv s σ0 H v u Q tg F ρ σ d rv I ru G bv eg q
theorem jy:CallD K X (.builtin "len") (g1 fun d=>(itemsD d).map fun l=>.v (.int l.length)):=aft fun hk zv s σ0 H x u Q tg F ρ σ d r I ru G bd eg q=>by
 subst hk;cases e:itemsD d with
 | none=>rw[e] at eg;cases eg
 | some l =>
  rw[e] at eg;cases eg;obtain⟨a,vs,rfl,hl,hs⟩:=aer G.sub e bd;have q':=Res.same G q (.int _);rw[hl.length] at q';exact aji zv s σ0 H [.ref a] [u] Q I (.cons ru .nil) ⟨a,vs,rfl,hs,q'⟩
def rz:List D->Option (List Bool)
 | []=>some []
 | .bl b::r=>(rz r).map (b :: ·)
 | _::_=>none
theorem ajn:∀{l:List D} {bs:List Bool},rz l=some bs->l=bs.map D.bl
 | [],_,h=>by cases h;rfl
 | .bl b::r,bs,h=>by
  have h':(rz r).map (b :: ·)=some bs:=h;cases e:rz r with
  | none=>rw[e] at h';cases h'
  | some t =>
   rw[e] at h';cases h';rw[ajn e];rfl
 | .non::_,_,h=>by cases h
 | .int _::_,_,h=>by cases h
 | .str _::_,_,h=>by cases h
 | .tup _::_,_,h=>by cases h
 | .lst _::_,_,h=>by cases h
 | .kst _::_,_,h=>by cases h
 | .dct _::_,_,h=>by cases h
@[simp] theorem aac(bs:List Bool):rz (bs.map D.bl)=some bs:=by
 induction bs with
 | nil=>rfl
 | cons b r ih=>show(rz (r.map D.bl)).map (b :: ·)=_;rw[ih];rfl
def gAll:D->Option Rv
 | .lst l=>(rz l).map fun bs=>.v (.bl (bs.all id))
 | _=>none
theorem ajf(hc:X.calm=true):CallD K X (.builtin "all") (g1 gAll):=aft fun hk zv s σ0 H x u Q tg F ρ σ d r I ru G bd eg q=>by
 subst hk;cases d with
 | lst l =>
  have eg:(rz l).map (fun bs=>Rv.v (.bl (bs.all id)))=some r:=eg
  cases e:rz l with
  | none=>rw[e] at eg;cases eg
  | some bs =>
   rw[e] at eg;cases eg;obtain⟨a,vs,rfl,ea,hl⟩:=bd.lst G.sub;rw[ajn e] at hl;rw[hl.bl_inv] at ea;exact atj hc zv s σ0 H [.ref a] [u] Q I (.cons ru .nil) ⟨a,bs,rfl,SqL.of ea,Res.same G q (.bl _)⟩
 | _=>cases eg
def apm:D->Option Rv
 | .int i=>some (.v (.int i))
 | .bl k=>some (.v (.int (if k then 1 else 0)))
 | _=>none
theorem auh:CallD K X (.type "int") (g1 apm):=aft fun hk zv s σ0 H x u Q tg F ρ σ d r I ru G bd eg q=>by
 cases d with
 | int i =>
  cases eg;obtain rfl:=bd.int;exact ajj zv s σ0 H [_] [u] Q I (.cons ru .nil) (.inl ⟨i,rfl,Res.same G q (.int _)⟩)
 | bl k =>
  cases eg;obtain rfl:=bd.bl;exact ajj zv s σ0 H [_] [u] Q I (.cons ru .nil) (.inr ⟨k,rfl,Res.same G q (.int _)⟩)
 | _=>cases eg
theorem j7:CallD K X (.type "tuple") (g1 fun d=>(itemsD d).map fun l=>.v (.tup l)):=aft fun hk zv s σ0 H x u Q tg F ρ σ d r I ru G bd eg q=>by
 subst hk;cases d with
 | tup l =>
  cases eg;obtain⟨a,vs,rfl,ea,hl⟩:=bd.tup;exact aao zv s σ0 H [_] [u] Q I (.cons ru .nil) ⟨a,vs,rfl,.inr ⟨SqT.of (G.sub _ _ ea),Res.same G q (.tup ea hl)⟩⟩
 | lst l =>
  cases eg;obtain⟨a,vs,rfl,ea,hl⟩:=bd.lst G.sub;exact aao zv s σ0 H [_] [u] Q I (.cons ru .nil) ⟨a,vs,rfl,.inl ⟨SqL.of ea,fun p hp=>Res.tup G q hl hp⟩⟩
 | kst l =>
  cases eg;obtain⟨a,vs,rfl,ea,hl⟩:=bd.kst;exact aao zv s σ0 H [_] [u] Q I (.cons ru .nil) ⟨a,vs,rfl,.inl ⟨L2.Same.seq G.sub ea,fun p hp=>Res.tup G q hl hp⟩⟩
 | _=>cases eg
theorem afu:CallD K X (.type "list") (g1 fun d=>(itemsD d).map fun l=>.fr l):=aft fun hk zv s σ0 H x u Q tg F ρ σ d r I ru G bd eg q=>by
 subst hk;cases e:itemsD d with
 | none=>rw[e] at eg;cases eg
 | some l =>
  rw[e] at eg;cases eg;obtain⟨a,vs,rfl,hl,hs⟩:=aer G.sub e bd;exact ajh zv s σ0 H [_] [u] Q I (.cons ru .nil) ⟨a,vs,rfl,hs,fun p hp=>Res.lst G q hl hp⟩
theorem auf{f:D->D->Option Rv}{w:Value} (h:X.K=K->∀(zv:List (Addr×Obj)) (s:Shared) (σ0:L2.St) (H:Hp) (x y:V) (u v:Value) (Q:VK) (tg:Nat->Addr) (F:Hp) (ρ:Ro) (σ:L2.St) (d d':D) (r:Rv),Inv X zv σ0 H s->RelV x u->RelV y v->Good K tg F H ρ σ->Bor K F H d x->Bor K F H d' y->f d d'=some r->Res K tg F H ρ σ r Q ->
  wpAny (model X.prog X.w) X.A (call w [u,v]) (EP X zv σ0 Q) X.xe s):CallD K X w (g2 f):=CallD.mk fun hk=>by
 intro zv s σ0 H xs us Q I r ⟨tg,F,ρ,σ,ds,rv,G,bl,eg,q⟩
 match ds,eg with
 | [d,d'],eg =>
  obtain⟨v,v',rfl,bv,bv'⟩:=bl.two;obtain⟨u,w,rfl,ru,rw'⟩:=vals2 r;exact h hk zv s σ0 H v v' u w Q tg F ρ σ d d' rv I ru rw' G bv bv' eg q
theorem aqb(hc:X.calm=true):CallD K X (.builtin "max") (g2 (gInt fun i j=>some (if j > i then j else i))):=auf fun hk zv s σ0 H x y u v Q tg F ρ σ d d' r I ru rv G bd bd' eg q=>by
 unfold gInt at eg;split at eg
 ·cases eg;obtain rfl:=bd.int;obtain rfl:=bd'.int;exact aqg hc zv s σ0 H [_,_] [u,v] Q I (.cons ru (.cons rv .nil)) ⟨_,_,rfl,Res.same G q (.int _)⟩
 ·cases eg
theorem ajk:yp X (.builtin "divmod") (fun xs H Q=>∃i j,xs=[.int i,.int j]/\(0 < j/\j < 1000000000000000000000000000000000000000000000000000000000000)/\∀p,H p=none->Q (.ref p) (upd H p (.tup [.int (i / j),.int (i % j)]))):=by
 intro zv s σ H xs us Q I r h;obtain⟨i,j,rfl,hj,q⟩:=h;obtain⟨u,w',rfl,⟨t,rfl⟩,⟨t',rfl⟩⟩:=vals2 r;have h1:=hj.1;refine divmod_int (by omega) ?_ (.inl (ay9 hj.1 hj.2))
 rw[Int.fdiv_eq_ediv_of_nonneg i (by omega),Int.fmod_eq_emod_of_nonneg i (by omega)]
 refine⟨.ref s.heap.objs.size,_,?_,rfl,q _ (I.hok.fresh (Nat.le_refl _))⟩;exact I.laid (fun b o e=>Heap.get?_push_of_some _ e) (Nat.le_refl _) ⟨by simp only[List.length_cons,List.length_nil];rw[sizeLine_eq];decide,[.int (i / j) s.toks,.int (i % j) (s.toks+1)],.cons ⟨_,rfl⟩ (.cons ⟨_,rfl⟩ .nil),⟨_,Heap.get?_push_size s.heap rfl,rfl,rfl,0,rfl⟩⟩
def ahk:D->D->Option Rv
 | .int i,.int j=>if 0 < j/\j < 1000000000000000000000000000000000000000000000000000000000000 then some (.v (.tup [.int (i / j),.int (i % j)])) else none
 | _,_=>none
theorem aqc:CallD K X (.builtin "divmod") (g2 ahk):=auf fun hk zv s σ0 H x y u v Q tg F ρ σ d d' r I ru rv G bd bd' eg q=>by
 unfold ahk at eg;split at eg
 ·split at eg
  ·rename_i hc;cases eg;obtain rfl:=bd.int;obtain rfl:=bd'.int;exact ajk zv s σ0 H [_,_] [u,v] Q I (.cons ru (.cons rv .nil)) ⟨_,_,rfl,hc,fun p hp=>Res.tup G q (.cons (.int _) (.cons (.int _) .nil)) hp⟩
  ·cases eg
 ·cases eg
inductive Ty where
 | int | bool | tuple | list | str | dict
def Ty.nm:Ty->String
 | .int => "int" | .bool => "bool" | .tuple => "tuple" | .list => "list" | .str => "str" | .dict => "dict"
def tyD:D->Value
 | .non=>.type "NoneType"
 | .bl _=>.type "bool"
 | .int _=>.type "int"
 | .str _=>.type "str"
 | .tup _=>.type "tuple"
 | .lst _=>.type "list"
 | .kst _=>.type "list"
 | .dct _=>.type "dict"
 | .exn _ _=>.type "NoneType"
def isTy:Ty->D->Bool
 | .int,.int _=>true
 | .int,.bl _=>true
 | .bool,.bl _=>true
 | .tuple,.tup _=>true
 | .list,.lst _=>true
 | .list,.kst _=>true
 | .str,.str _=>true
 | .dict,.dct _=>true
 | _,_=>false
theorem atz(t:Ty)(d:D):PySem.W.kitOne K (tyD d) (.type t.nm)=some (isTy t d):=by
 cases d <;> cases t <;> kernel_rfl
theorem aqh{X:Cx}:yp X (.builtin "isinstance") (fun xs H Q=>∃F d x t,xs=[x,.ty (Ty.nm t)]/\Same F H/\Bor X.K F H d x/\Q (.bl (isTy t d)) H):=by
 intro zv s σ H xs us Q I r ⟨F,d,x,t,e,g,h,q⟩;subst e;obtain⟨u,w',rfl,r1,r2⟩:=vals2 r;obtain rfl:w'=Value.type t.nm:=r2;have fin:∀tk,EP X zv σ Q (.bool (isTy t d)) { s with toks:=tk }:=fun tk=>⟨.bl _,H,I.tok tk,rfl,q⟩
 have go:TyOf X.K H x (tyD d)->wpAny (model X.prog X.w) X.A (call (.builtin "isinstance") [u,.type t.nm]) (EP X zv σ Q) X.xe s:=fun ty=>apd I r1 ty (atz t d) fin
 cases d with
 | non=>obtain rfl:=h.non;exact go .non
 | bl b=>obtain rfl:=h.bl;exact go (.bl b)
 | int b=>obtain rfl:=h.int;exact go (.int b)
 | str b=>obtain rfl:=h.str;exact go (.str b)
 | tup b=>obtain⟨a,vs,rfl,e,_⟩:=h.tup;exact go (.tup (g _ _ e))
 | lst b=>obtain⟨a,vs,rfl,e,_⟩:=h.lst g;exact go (.lst e)
 | kst b =>
  obtain⟨a,vs,rfl,e,_⟩:=h.kst;cases(show u=Value.ref a from r1)
  obtain⟨its,_,pl,_⟩:=I.list (L2.Same.seq g e);obtain⟨o,ho,hc,n,hd⟩:=pl.isList;exact PySem.W.kia_one PySem.W.kitx_list I.kIn ⟨o,ho,hc⟩ (atz t (.kst b)) (fun z=>nomatch z) fin
 | dct b =>
  rcases h with h | ⟨a,vs,l',e1,_⟩
  ·cases h with
   | dct e h=>exact go (.dK (g _ _ e))
  ·cases e1
 | exn c fs =>
  rcases h with h | ⟨a,vs,l',e1,_⟩
  ·cases h with
   | @exn a C c dx fs e hc hk hf =>
    cases(show u=Value.ref a from r1)
    obtain⟨⟨oe,ws,h1,h2,h3,h4⟩,_⟩:=(show xj X.prog X.w H s.heap a (.ext (exO a C dx)) from I.hok a _ (g _ _ e))
    have hno:PySem.W.notCls oe=true:=by unfold PySem.W.notCls;rw[h4]
    have ia:∃ox od,PySem.W.InstAt s.heap a ox C od:=by
     rcases hf with⟨rfl,_⟩ | ⟨d,rfl,hd⟩
     ·exact⟨oe,none,h1,h2,hno,by rw[h3];trivial⟩
     ·obtain⟨mA,⟨od,_,_,e1,_⟩,_⟩:=(show xj X.prog X.w H s.heap d (.xd _) from I.hok d _ (g _ _ hd))
      exact⟨oe,some od,h1,h2,hno,by rw[h3];exact e1⟩
    have kq:PySem.W.kitOne X.K (.ref C) (.type t.nm)=some false:=by
     have h5:PySem.W.subIn X.K (.ref C) (.type t.nm)=some false:=hk.no _ (by cases t <;> simp[Ty.nm])
     have h6:PySem.W.kitMeta t.nm=true:=by cases t <;> kernel_rfl
     unfold PySem.W.kitOne PySem.W.kitCls;rw[if_neg (by simp)]
     show(if PySem.W.kitMeta t.nm=true then PySem.W.subIn X.K (.ref C) (.type t.nm) else none)=some false
     rw[if_pos h6];exact h5
    have e7:isTy t (.exn c fs)=false:=by cases t <;> rfl
    exact PySem.W.kia_one (asl hk) I.kIn ia kq (fun z=>nomatch z) fun tk=>e7▸fin tk
  ·cases e1
def mIsi(t:Ty)(m:M D):M D:=m.bind fun d=>ret (.bl (isTy t d))
theorem apv{t:Ty}{tn:Expr}{m:M D}{x:Str}(ht:PE X tn (tC (.ty t.nm)))(hg:Gl X x)(hm:X.mg x=none)(hv:bootBuiltins x=some (.builtin "isinstance"))(h:EB K X e m)(hn:x ≠ "__name__" := by decide)(hdb:(x==("__debug__" : Str))=false:=by decide)
  (h1:starEach [tn] X.env=(false,eval tn X.env)::starEach [] X.env:=by rfl) (he:starEach [e,tn] X.env=(false,eval e X.env)::starEach [tn] X.env:=by rfl) (hpl:(backTo pos (starEach [tn] X.env)).any (·.1)=false:=by rfl) :
  EV K X (.Call (.Name x p) [e,tn] [] pos) (mIsi t m):=EV.mk fun hk=>by
 refine PE.imp (ag5 aqh hg hm hv (yh (h hk) (yh ht age h1) he) hn hdb he hpl) fun σ H Q ⟨tg,F,ρ,d,ρ',G,em,q⟩ =>?_
 obtain⟨d1,ρ1,e1,em⟩:=aq em;obtain⟨rfl,rfl⟩:=j9 em;subst hk;exact⟨tg,F,ρ,d1,_,G,e1,fun v H' F' G' x bv=>⟨F',d1,v,t,rfl,G'.sub,bv,q _ H' F' G' x (.bl _)⟩⟩
def gIx(d i:D):Option Rv:=match i with
 | .int k=>(itemsD d).bind fun l=>(atI l k).map fun x=>.v x
 | _=>none
theorem a0q{F:Hp}{l:List D}{vs:List V}{k:Int}{d:D}(h:IsL K F l vs)(e:atI l k=some d):∃v,atI vs k=some v/\Is K F d v:=by
 unfold atI at e ⊢
 rw[h.length] at e;cases q:ixN vs.length k with
 | none=>rw[q] at e;cases e
 | some j =>
  rw[q] at e;obtain⟨v,e1,e2⟩:=h.get (i:=j) e;exact⟨v,e1,e2⟩
theorem ixd:X.K=K->IxR X (rOf K gIx):=fun hk=>by
 intro value slice zv s σ0 H x y v u Q I rx ry ⟨tg,F,ρ,σ,d1,d2,r,G,b1,b2,eg,q⟩ hs;subst hk;cases d2 with
 | int k =>
  have eg:(itemsD d1).bind (fun l=>(atI l k).map fun x=>Rv.v x)=some r:=eg
  cases e:itemsD d1 with
  | none=>rw[e] at eg;cases eg
  | some l =>
   rw[e] at eg;have eg:(atI l k).map (fun x=>Rv.v x)=some r:=eg
   cases e2:atI l k with
   | none=>rw[e2] at eg;cases eg
   | some d =>
    rw[e2] at eg;cases eg;obtain⟨a,vs,rfl,hl,hq⟩:=aer G.sub e b1;obtain rfl:=b2.int;obtain⟨z,hz,iz⟩:=a0q hl e2;rcases hq with hq | hq
    ·exact awd value slice zv s σ0 H _ _ v u Q I rx ry ⟨a,vs,k,z,rfl,rfl,hq,hz,Res.same G q iz⟩ hs
    ·exact azv value slice zv s σ0 H _ _ v u Q I rx ry ⟨a,vs,k,z,rfl,rfl,hq,hz,Res.same G q iz⟩ hs
 | _=>cases eg
theorem m8{m:M (D×D)}(h:E2 K X a b m)(hs:aqu b):ER K X (.Subscript a b pos) (mOp gIx m):=ER.mk fun hk=>by
 obtain⟨ta,tb,ha,hb,h⟩:=h hk;exact PE.imp (a3a (ixd hk) ha hb hs) (ala h)
def TOp(K:Fg9)(m:M (Option Int)):TO:=fun σ H Q=>∃tg F ρ o ρ',Good K tg F H ρ σ/\m ρ=some (.ok o,ρ')/\∀H' F',Good K tg F' H' ρ' σ->Ext (Own ρ σ) (Own ρ' σ) F H F' H'->Q o H'
structure EO (K:Fg9) (X:Cx) (e:Option Expr) (m:M (Option Int)):Prop where
 go:X.K=K->PO X e (TOp K m)
instance {K:Fg9} {X:Cx} {e:Option Expr} {m:M (Option Int)}:CoeFun (EO K X e m) fun _=>X.K=K->PO X e (TOp K m):=⟨EO.go⟩
theorem PO.imp{eo:Option Expr}{t t':TO}(h:PO X eo t)(w:∀σ H Q,t' σ H Q->t σ H Q):PO X eo t':=fun zv s σ H Q I q=>h zv s σ H Q I (w σ H Q q)
theorem aho:EO K X none (ret none):=EO.mk fun _=>PO.imp avc fun σ H Q hq0=>by
 obtain⟨tg,F,ρ,o,ρ',G,em,q⟩:=hq0;obtain⟨rfl,rfl⟩:=j9 em;exact q H F G (Ext.refl _ _ _)
def asI:D->Option Int
 | .int i=>some i
 | _=>none
theorem aea{d:D}{k:Int}(h:asI d=some k):d=.int k:=by
 cases d with
 | int b=>cases h;rfl
 | _=>cases h
def ais(m:M D):M (Option Int):=m.bind fun d=>lift ((asI d).map some)
theorem adt{m:M D}(h:EV K X e m):EO K X (some e) (ais m):=EO.mk fun hk=>PO.imp (avb (h hk)) fun σ H Q hq0=>by
 obtain⟨tg,F,ρ,o,ρ',G,em,q⟩:=hq0;obtain⟨d,ρ1,e1,em⟩:=aq em;obtain⟨e2,rfl⟩:=gj em;refine⟨tg,F,ρ,d,_,G,e1,fun v H' F' G' x r =>?_⟩
 cases d with
 | int i =>
  cases e2;cases r;exact⟨i,rfl,q H' F' G' x⟩
 | _=>cases e2
def cutD(l:List D)(lo hi:Option Int):List D:=(l.drop (HT.sIx l.length 0 lo)).take (HT.sIx l.length l.length hi - HT.sIx l.length 0 lo)
theorem ap3{F:Hp}{l:List D}{vs:List V}(h:IsL K F l vs)(lo hi:Option Int):IsL K F (cutD l lo hi) (cutV vs lo hi):=by
 unfold cutD cutV;rw[h.length];exact(h.drop _).take _
def gCut(d:D)(lo hi:Option Int):Option Rv:=match d with
 | .tup l=>some (.v (.tup (cutD l lo hi)))
 | .lst l=>some (.fr (cutD l lo hi))
 | .kst l=>some (.fr (cutD l lo hi))
 | _=>none
def rsOf(K:Fg9):V->Option Int->Option Int->Hp->VK->Prop:=fun x lo hi H Q=>∃tg F ρ σ d r,Good K tg F H ρ σ/\Bor K F H d x/\gCut d lo hi=some r/\Res K tg F H ρ σ r Q
theorem sld(hk:X.K=K):SlR X (rsOf K):=by
 intro zv s σ0 H x v vl vu lo hi sl Q I rx hs pl pu ⟨tg,F,ρ,σ,d,r,G,bd,eg,q⟩;subst hk;cases d with
 | tup l =>
  cases eg;obtain⟨a,vs,rfl,ea,hl⟩:=bd.tup
  by_cases hw:HT.sIx vs.length 0 lo=0/\HT.sIx vs.length vs.length hi=vs.length
  ·have ec:cutD l lo hi=l:=by
    unfold cutD;rw[hl.length,hw.1,hw.2,List.drop_zero,Nat.sub_zero,<-hl.length,List.take_length]
   rw[ec] at q;cases rx;obtain⟨its,r,ht,hz⟩:=I.tuple (SqT.of (G.sub _ _ ea));have hlen:its.toArray.size=vs.length:=by rw[List.size_toArray];exact r.length.symm
   refine⟨"tuple", _,PyProof.Rows.slot_tuple_getitem.lookup,ht.typeIs,?_⟩;exact ab7 ht hs pl pu (by rw[hlen];exact hw.1) (by rw[hlen];exact hw.2) ⟨.ref a,H,I,rfl,Res.same G q (.tup ea hl)⟩
  ·exact ax5 zv s σ0 H _ v vl vu lo hi sl Q I rx hs pl pu ⟨a,vs,rfl,SqT.of (G.sub _ _ ea),hw,fun p hp=>Res.tup G q (ap3 hl lo hi) hp⟩
 | lst l =>
  cases eg;obtain⟨a,vs,rfl,ea,hl⟩:=bd.lst G.sub;exact aob zv s σ0 H _ v vl vu lo hi sl Q I rx hs pl pu ⟨a,vs,rfl,SqL.of ea,fun p hp=>Res.lst G q (ap3 hl lo hi) hp⟩
 | kst l =>
  cases eg;obtain⟨a,vs,rfl,ea,hl⟩:=bd.kst;exact aob zv s σ0 H _ v vl vu lo hi sl Q I rx hs pl pu ⟨a,vs,rfl,L2.Same.seq G.sub ea,fun p hp=>Res.lst G q (ap3 hl lo hi) hp⟩
 | _=>cases eg
def mCut(m:M D)(ml mh:M (Option Int)):M Rv:=m.bind fun d=>ml.bind fun lo=>mh.bind fun hi=>lift (gCut d lo hi)
def ao6(i:Nat)(ml mh:M (Option Int)):M Rv:=(gf i).bind fun _=>ml.bind fun lo=>mh.bind fun hi=>(gf i).bind fun d=>lift (gCut d lo hi)
theorem aub{m:M D}{ml mh:M (Option Int)}{lo hi:Option Expr}(h:EV K X a m)(hl:EO K X lo ml)(hh:EO K X hi mh):ER K X (.Subscript a (.Slice lo hi none p2) pos) (mCut m ml mh):=ER.mk fun hk=>PE.imp (ak8 (sld hk) (h hk) (hl hk) (hh hk)) fun σ H Q hq0=>by
 obtain⟨tg,F,ρ,r,ρ',G,em,q⟩:=hq0;obtain⟨d,ρ1,e1,em⟩:=aq em;obtain⟨o1,ρ2,e2,em⟩:=aq em;obtain⟨o2,ρ3,e3,em⟩:=aq em;obtain⟨e4,rfl⟩:=gj em;refine⟨tg,F,ρ,d,ρ1,G,e1,fun v H1 F1 G1 x1 r1=>⟨tg,F1,ρ1,o1,ρ2,G1,e2,fun H2 F2 G2 x2=>⟨tg,F2,ρ2,o2,_,G2,e3,fun H3 F3 G3 x3 =>?_⟩⟩⟩
 exact⟨tg,F3,_,σ,d,r,G3,.inl ((r1.mono x2.sub).mono x3.sub),e4,fun v' H4 F4 G4 x4 rr=>q v' H4 F4 G4 (((x1.trans x2).trans x3).trans x4) (p7 ((x1.trans x2).trans x3) rr)⟩
theorem akn{i:Nat}{ml mh:M (Option Int)}{lo hi:Option Expr}(h:PE X a (tVar i))(hl:EO K X lo ml)(hh:EO K X hi mh):ER K X (.Subscript a (.Slice lo hi none p2) pos) (ao6 i ml mh):=ER.mk fun hk=>PE.imp (ak8 (sld hk) h (hl hk) (hh hk)) fun σ H Q hq0=>by
 obtain⟨tg,F,ρ,r,ρ',G,em,q⟩:=hq0;obtain⟨d0,ρ0,e0,em⟩:=aq em;obtain⟨o1,ρ2,e2,em⟩:=aq em;obtain⟨o2,ρ3,e3,em⟩:=aq em;obtain⟨d,ρ4,e1,em⟩:=aq em;obtain⟨e4,rfl⟩:=gj em;obtain⟨rfl,v,hv,_⟩:=qu G e0;refine⟨v,hv,tg,F,ρ0,o1,ρ2,G,e2,fun H2 F2 G2 x2=>⟨tg,F2,ρ2,o2,_,G2,e3,fun H3 F3 G3 x3 =>?_⟩⟩
 obtain⟨rfl,v',hv',b'⟩:=qu G3 e1;rw[hv] at hv';cases hv';exact⟨tg,F3,_,σ,d,r,G3,b',e4,fun v' H4 F4 G4 x4 rr=>q v' H4 F4 G4 ((x2.trans x3).trans x4) (p7 (x2.trans x3) rr)⟩
end
inductive Fl where
 | nx | ret (r:Rv) | brk | cont | exc (x:Exn)
abbrev Sd:=Ro->Option (Fl×Ro)
section
variable{K:Fg9}{X:Cx}{e a b c tgt:Expr}{es:List Expr}{pos p p2:Pos}{st:Stmt}{ss:List Stmt}
def FlOk(K:Fg9)(tg:Nat->Addr)(ρ:Ro)(σ:L2.St)(F H:Hp)(E:Ends)(fl:Fl)(ρ':Ro):Prop:=match fl with
 | .nx=>∀σ' H' F',Good K tg F' H' ρ' σ'->Ext (Own ρ σ) (Own ρ' σ') F H F' H'->E.nx σ' H'
 | .brk=>∀σ' H' F',Good K tg F' H' ρ' σ'->Ext (Own ρ σ) (Own ρ' σ') F H F' H'->E.bk σ' H'
 | .cont=>∀σ' H' F',Good K tg F' H' ρ' σ'->Ext (Own ρ σ) (Own ρ' σ') F H F' H'->E.ct σ' H'
 | .ret r=>∀v σ' H' F',Good K tg F' H' ρ' σ'->Ext (Own ρ σ) (Own ρ' σ') F H F' H'->relR K r v H (Own ρ σ) F' H' (Own ρ' σ')->E.rt v H'
 | .exc _=>False
def TSd(K:Fg9)(g:Sd):TS:=fun E σ H=>∃tg F ρ fl ρ',Good K tg F H ρ σ/\g ρ=some (fl,ρ')/\FlOk K tg ρ σ F H E fl ρ'
structure SV (K:Fg9) (X:Cx) (st:Stmt) (g:Sd):Prop where
 go:X.K=K->PS X st (TSd K g)
instance {K:Fg9} {X:Cx} {st:Stmt} {g:Sd}:CoeFun (SV K X st g) fun _=>X.K=K->PS X st (TSd K g):=⟨SV.go⟩
structure SVs (K:Fg9) (X:Cx) (ss:List Stmt) (g:Sd):Prop where
 go:X.K=K->PSs X ss (TSd K g)
instance {K:Fg9} {X:Cx} {ss:List Stmt} {g:Sd}:CoeFun (SVs K X ss g) fun _=>X.K=K->PSs X ss (TSd K g):=⟨SVs.go⟩
theorem PS.imp{t t':TS}(h:PS X st t)(w:∀E σ H,t' E σ H->t E σ H):PS X st t':=fun zv s σ H E I q=>h zv s σ H E I (w E σ H q)
theorem PSs.imp{t t':TS}(h:PSs X ss t)(w:∀E σ H,t' E σ H->t E σ H):PSs X ss t':=fun zv s σ H E I q=>h zv s σ H E I (w E σ H q)
theorem FlOk.back{tg:Nat->Addr}{ρ ρ1 ρ':Ro}{σ σ1:L2.St}{F H F1 H1:Hp}{E:Ends}{fl:Fl}(x:Ext (Own ρ σ) (Own ρ1 σ1) F H F1 H1)(h:FlOk K tg ρ σ F H E fl ρ'):FlOk K tg ρ1 σ1 F1 H1 E fl ρ':=by
 cases fl with
 | nx=>exact fun σ' H' F' G' x'=>h σ' H' F' G' (x.trans x')
 | brk=>exact fun σ' H' F' G' x'=>h σ' H' F' G' (x.trans x')
 | cont=>exact fun σ' H' F' G' x'=>h σ' H' F' G' (x.trans x')
 | ret r=>exact fun v σ' H' F' G' x' rr=>h v σ' H' F' G' (x.trans x') (p7 x rr)
 | exc _=>exact h
def dNx:Sd:=fun ρ=>some (.nx,ρ)
def dBrk:Sd:=fun ρ=>some (.brk,ρ)
def a5m:Sd:=fun ρ=>some (.cont,ρ)
def dSeq(g k:Sd):Sd:=fun ρ=>match g ρ with
 | some (.nx,ρ1)=>k ρ1
 | r=>r
theorem mq:SVs K X [] dNx:=SVs.mk fun _=>PSs.imp aok fun E σ H hq0=>by
 obtain⟨tg,F,ρ,fl,ρ',G,em,q⟩:=hq0;cases em;exact q σ H F G (Ext.refl _ _ _)
theorem au{g:Sd}(h:SV K X st g):SVs K X [st] g:=SVs.mk fun hk=>au9 (h hk)
theorem ak{g k:Sd}(h:SV K X st g)(t:SVs K X ss k):SVs K X (st::ss) (dSeq g k):=SVs.mk fun hk=>PSs.imp (ag4 (h hk) (t hk)) fun E σ H hq0=>by
 obtain⟨tg,F,ρ,fl,ρ',G,em,q⟩:=hq0;unfold dSeq at em;split at em
 ·rename_i ρ1 e1;exact⟨tg,F,ρ,.nx,ρ1,G,e1,fun σ' H' F' G' x=>⟨tg,F',ρ1,fl,ρ',G',em,q.back x⟩⟩
 ·rename_i hn;refine⟨tg,F,ρ,fl,ρ',G,em,?_⟩;cases fl with
  | nx=>exact absurd em (hn ρ')
  | brk=>exact q
  | cont=>exact q
  | ret r=>exact q
  | exc _=>exact q
theorem ags:SV K X st (fun _=>none):=SV.mk fun _=>PS.imp ars fun E σ H ⟨tg,F,ρ,fl,ρ',G,em,q⟩=>by cases em
def dM{α:Type}(m:M α)(k:α->Sd):Sd:=fun ρ=>match m ρ with
 | some (.ok x,ρ1)=>k x ρ1
 | some (.exc x,ρ1)=>some (.exc x,ρ1)
 | none=>none
theorem kj{α:Type}{m:M α}{k:α->Sd}{ρ ρ':Ro}{fl:Fl}{P:Prop}(h:dM m k ρ=some (fl,ρ'))(hx:FlOk K tg ρ0 σ0 F0 H0 E0' fl ρ')(go:∀x ρ1,m ρ=some (.ok x,ρ1)->k x ρ1=some (fl,ρ')->P):P:=by
 unfold dM at h;split at h
 ·exact go _ _ (by assumption) h
 ·cases h;exact(show False from hx).elim
 ·cases h
def dRet(m:M Rv):Sd:=dM m fun r ρ=>some (.ret r,ρ)
theorem iu{m:M Rv}(h:ER K X e m):SV K X (.Return (some e) pos) (dRet m):=SV.mk fun hk=>PS.imp (ayj (h hk)) fun E σ H ⟨tg,F,ρ,fl,ρ',G,em,q⟩=>kj em q fun r ρ1 e1 em=>by
 cases em;exact⟨tg,F,ρ,r,_,G,e1,fun v H' F' G' x rr=>q v σ H' F' G' x rr⟩
def dIf(m:M Bool)(g k:Sd):Sd:=dM m fun z=>if z=true then g else k
theorem yu{m:M Bool}{g k:Sd}{ss':List Stmt}(h:ET K X c m)(h1:SVs K X ss g)(h2:SVs K X ss' k):SV K X (.If c ss ss' pos) (dIf m g k):=SV.mk fun hk=>PS.imp (a2x (h hk) (h1 hk) (h2 hk)) fun E σ H ⟨tg,F,ρ,fl,ρ',G,em,q⟩=>kj em q fun z ρ1 e1 em=>by
 refine⟨tg,F,ρ,z,ρ1,G,e1,fun H' F' G' x =>?_⟩
 cases z with
 | true=>exact iteT ⟨tg,F',ρ1,fl,ρ',G',em,q.back x⟩
 | false=>exact iteF ⟨tg,F',ρ1,fl,ρ',G',em,q.back x⟩
def abt{α:Type}(m:M α):Sd:=dM m fun _ ρ=>some (.nx,ρ)
theorem qw{m:M Rv}(h:ER K X e m)(hs:swapsWith e none pos.line X.env=pure false:=by rfl):SV K X (.Expr e pos) (abt m):=SV.mk fun hk=>PS.imp (ava (h hk) hs) fun E σ H ⟨tg,F,ρ,fl,ρ',G,em,q⟩=>kj em q fun r ρ1 e1 em=>by
 cases em;exact⟨tg,F,ρ,r,_,G,e1,fun v H' F' G' x rr=>q σ H' F' G' x⟩
section
variable{tg:Nat->Addr}{F H:Hp}{ρ:Ro}{σ:L2.St}
theorem ade{i:Nat}{s:Sl}{v:V}{b:Addr}(hl:ρ.length=σ.length)(h:Own (List.set ρ i s) (List.set σ i (some v)) b):Own ρ σ b∨((∃t l,s=.own t l)/\v=.ref b):=by
 obtain⟨j,⟨t,l,e⟩,q⟩:=h;rw[List.getElem?_set] at e q
 by_cases hj:i=j
 ·subst hj;rw[if_pos rfl] at e q;split at e
  ·rename_i hi;rw[if_pos (by rw[<-hl];exact hi)] at q
   cases e;cases q;exact .inr ⟨⟨t,l,rfl⟩,rfl⟩
  ·cases e
 ·rw[if_neg hj] at e q;exact .inl ⟨j,⟨t,l,e⟩,q⟩
theorem Good.put(G:Good K tg F H ρ σ){s:Sl}{v:V}(i:Nat)(h:SlOk K tg F H s (some v))(n:∀t l a,s=.own t l->v=.ref a->¬Own ρ σ a):Good K tg F H (List.set ρ i s) (List.set σ i (some v)) where
 sub:=G.sub
 len:=by rw[List.length_set,List.length_set];exact G.len
 sl:=fun j s' o e q=>by
  rw[List.getElem?_set] at e q
  by_cases hj:i=j
  ·subst hj;rw[if_pos rfl] at e q;split at e
   ·rename_i hi;rw[if_pos (by rw[<-G.len];exact hi)] at q
    cases e;cases q;exact h
   ·cases e
  ·rw[if_neg hj] at e q;exact G.sl j s' o e q
 inj:=fun j k a ⟨⟨t,l,e⟩,q⟩ ⟨⟨t',l',e'⟩,q'⟩=>by
  rw[List.getElem?_set] at e q e' q'
  by_cases hj:i=j
  ·subst hj;rw[if_pos rfl] at e q
   by_cases hk:i=k
   ·exact hk
   ·rw[if_neg hk] at e' q';split at e
    ·rename_i hi;rw[if_pos (by rw[<-G.len];exact hi)] at q
     cases e;cases q;exact absurd ⟨k,⟨t',l',e'⟩,q'⟩ (n t l a rfl rfl)
    ·cases e
  ·rw[if_neg hj] at e q
   by_cases hk:i=k
   ·subst hk;rw[if_pos rfl] at e' q';split at e'
    ·rename_i hi;rw[if_pos (by rw[<-G.len];exact hi)] at q'
     cases e';cases q';exact absurd ⟨j,⟨t,l,e⟩,q⟩ (n t' l' a rfl rfl)
    ·cases e'
   ·rw[if_neg hk] at e' q';exact G.inj j k a ⟨⟨t,l,e⟩,q⟩ ⟨⟨t',l',e'⟩,q'⟩
def Rv.sl:Rv->Sl
 | .v d=>.val d
 | .fr l=>.own none l
 | .tf _ _=>.emp
theorem Good.store{F0 H0:Hp}{O:Addr->Prop}(G:Good K tg F H ρ σ)(x:Ext O (Own ρ σ) F0 H0 F H){r:Rv}{v:V}(i:Nat)(h:relR K r v H0 O F H (Own ρ σ)) :
  Good K tg F H (List.set ρ i r.sl) (List.set σ i (some v))/\Ext O (Own (List.set ρ i r.sl) (List.set σ i (some v))) F0 H0 F H:=by
 cases r with
 | v d =>
  refine⟨G.put i ⟨v,rfl,h⟩ (fun t l a e=>by cases e),x.sub,x.new,x.keep,fun b w =>?_,x.there⟩
  rcases ade G.len w with w | ⟨⟨t,l,e⟩,_⟩
  ·exact x.own b w
  ·cases e
 | fr l =>
  obtain⟨a,vs,rfl,ha,hf,hh,hl,hn⟩:=h;refine⟨G.put i ⟨a,vs,rfl,hf,hh,hl,fun k e=>by cases e⟩ (fun t l' b _ e2=>by cases e2;exact hn),x.sub,x.new,x.keep,fun b w =>?_,x.there⟩
  rcases ade G.len w with w | ⟨_,e⟩
  ·exact x.own b w
  ·cases e;exact ha.symm
 | tf d l =>
  refine⟨G.put i trivial (fun t l a e=>by cases e),x.sub,x.new,x.keep,fun b w =>?_,x.there⟩
  rcases ade G.len w with w | ⟨⟨t,l,e⟩,_⟩
  ·exact x.own b w
  ·cases e
end
def dSet(i:Nat)(m:M Rv):Sd:=dM m fun r ρ=>some (.nx,List.set ρ i r.sl)
theorem ig{i:Nat}{x:Str}{m:M Rv}(hN:X.N.Nodup)(hi:X.N[i]? = some x)(hx:Loc X.env.scope x)(h:ER K X e m)(hs:swapsWith e (some (.Name x p)) pos.line X.env=pure false:=by rfl)(hf:X.fn x=true∨X.env.scope.names.lookup x=some .local:=by first | exact .inl rfl | exact .inr rfl | assumption) :
  SV K X (.Assign [.Name x p] e pos) (dSet i m):=SV.mk fun hk=>PS.imp (atu hN hi hx (h hk) hs hf) fun E σ H ⟨tg,F,ρ,fl,ρ',G,em,q⟩=>kj em q fun r ρ1 e1 em=>by
 cases em;refine⟨tg,F,ρ,r,ρ1,G,e1,fun v H' F' G' x rr =>?_⟩
 obtain⟨G2,x2⟩:=G'.store x i rr;exact q _ H' F' G2 x2
def TGd(K:Fg9)(b:D->Ro->Option Ro):TG:=fun v σ H Q=>∃tg F ρ d ρ',Good K tg F H ρ σ/\Is K F d v/\b d ρ=some ρ'/\∀σ' H' F',Good K tg F' H' ρ' σ'->Ext (Own ρ σ) (Own ρ' σ') F H F' H'->Q σ' H'
structure GV (K:Fg9) (X:Cx) (e:Expr) (b:D->Ro->Option Ro):Prop where
 go:X.K=K->PG X e (TGd K b)
instance {K:Fg9} {X:Cx} {e:Expr} {b:D->Ro->Option Ro}:CoeFun (GV K X e b) fun _=>X.K=K->PG X e (TGd K b):=⟨GV.go⟩
theorem PG.imp{t t':TG}(h:PG X e t)(w:∀v σ H Q,t' v σ H Q->t v σ H Q):PG X e t':=fun zv s σ H v u Q I r q=>h zv s σ H v u Q I r (w v σ H Q q)
def bh(i:Nat):D->Ro->Option Ro:=fun d ρ=>some (List.set ρ i (.val d))
theorem Good.storeV{tg:Nat->Addr}{F H:Hp}{ρ:Ro}{σ:L2.St}(G:Good K tg F H ρ σ){d:D}{v:V}(i:Nat)(h:Is K F d v):Good K tg F H (List.set ρ i (.val d)) (List.set σ i (some v))/\Ext (Own ρ σ) (Own (List.set ρ i (.val d)) (List.set σ i (some v))) F H F H :=
 G.store (r:=.v d) (Ext.refl _ _ _) i h
theorem bz{i:Nat}{x:Str}(hN:X.N.Nodup)(hi:X.N[i]? = some x)(hx:Loc X.env.scope x)(hf:X.fn x=true∨X.env.scope.names.lookup x=some .local:=by first | exact .inl rfl | exact .inr rfl | assumption):GV K X (.Name x pos) (bh i):=GV.mk fun _=>PG.imp (avk hN hi hx hf) fun v σ H Q hq0=>by
 obtain⟨tg,F,ρ,d,ρ',G,h,em,q⟩:=hq0;cases em;obtain⟨G2,x2⟩:=G.storeV i h;exact q _ H F G2 x2
def TGsd(K:Fg9)(b:List D->Ro->Option Ro):TGs:=fun vs σ H Q=>∃tg F ρ ds ρ',Good K tg F H ρ σ/\IsL K F ds vs/\b ds ρ=some ρ'/\∀σ' H' F',Good K tg F' H' ρ' σ'->Ext (Own ρ σ) (Own ρ' σ') F H F' H'->Q σ' H'
structure GVs (K:Fg9) (X:Cx) (es:List Expr) (b:List D->Ro->Option Ro):Prop where
 go:X.K=K->PGs X es (TGsd K b)
instance {K:Fg9} {X:Cx} {es:List Expr} {b:List D->Ro->Option Ro}:CoeFun (GVs K X es b) fun _=>X.K=K->PGs X es (TGsd K b):=⟨GVs.go⟩
theorem PGs.imp{t t':TGs}(h:PGs X es t)(w:∀v σ H Q,t' v σ H Q->t v σ H Q):PGs X es t':=fun zv s σ H v u Q I r q=>h zv s σ H v u Q I r (w v σ H Q q)
def bNil:List D->Ro->Option Ro:=fun ds ρ=>match ds with
 | []=>some ρ
 | _=>none
def gq(b:D->Ro->Option Ro)(bs:List D->Ro->Option Ro):List D->Ro->Option Ro:=fun ds ρ=>match ds with
 | d::r=>(b d ρ).bind (bs r)
 | _=>none
theorem uc:GVs K X [] bNil:=GVs.mk fun _=>PGs.imp avj fun vs σ H Q hq0=>by
 obtain⟨tg,F,ρ,ds,ρ',G,h,em,q⟩:=hq0;cases ds with
 | nil=>cases em;cases h;exact⟨rfl,q σ H F G (Ext.refl _ _ _)⟩
 | cons _ _=>cases em
theorem fj{b:D->Ro->Option Ro}{bs:List D->Ro->Option Ro}(h1:GV K X e b)(h2:GVs K X es bs)(hs:(assignEach (e::es) X.env).map (·.2)=assign e X.env::(assignEach es X.env).map (·.2):=by rfl):GVs K X (e::es) (gq b bs):=GVs.mk fun hk=>PGs.imp (arx (h1 hk) (h2 hk) hs) fun vs σ H Q hq0=>by
 obtain⟨tg,F,ρ,ds,ρ',G,h,em,q⟩:=hq0;cases h with
 | nil=>cases em
 | @cons d v ds vs hd ht =>
  have em:(b d ρ).bind (bs ds)=some ρ':=em;cases e1:b d ρ with
  | none=>rw[e1] at em;cases em
  | some ρ1 =>
   rw[e1] at em;exact⟨v,vs,rfl,tg,F,ρ,d,ρ1,G,hd,e1,fun σ' H' F' G' x=>⟨tg,F',ρ1,ds,ρ',G',ht.mono x.sub,em,fun σ2 H2 F2 G2 x2=>q σ2 H2 F2 G2 (x.trans x2)⟩⟩
def bTup(n:Nat)(bs:List D->Ro->Option Ro):D->Ro->Option Ro:=fun d ρ=>match d with
 | .tup l=>if l.length=n then bs l ρ else none
 | _=>none
theorem zr{k n:Nat}{bs:List D->Ro->Option Ro}(hc:X.calm=true)(h:GVs K X es bs)(hn:(assignEach es X.env).length=n:=by rfl)(hst:(assignEach es X.env).findIdx? (·.1)=none:=by rfl):GV K X (.Tuple es k pos) (bTup n bs):=GV.mk fun hk=>PG.imp (ayo hc (h hk) hn hst) fun v σ H Q hq0=>by
 obtain⟨tg,F,ρ,d,ρ',G,hd,em,q⟩:=hq0;cases hd with
 | @tup a vs ds e hl =>
  have em:(if ds.length=n then bs ds ρ else none)=some ρ':=em
  split at em
  ·rename_i hz;exact⟨a,vs,rfl,SqT.of (G.sub _ _ e),by rw[<-hl.length];exact hz,tg,F,ρ,ds,ρ',G,hl,em,q⟩
  ·cases em
 | _=>cases em
def dAsg(m:M D)(b:D->Ro->Option Ro):Sd:=dM m fun d ρ=>(b d ρ).map fun ρ'=>(.nx,ρ')
theorem ax3{m:M D}{b:D->Ro->Option Ro}(h:EV K X e m)(hg:GV K X tgt b)(hs:swapsWithSole [tgt] e pos.line X.env=pure false:=by rfl)(hw:swappedStores [tgt] e X.env=pure none:=by rfl)
  (h1:(assignEach [tgt] X.env).map (·.2)=[assign tgt X.env]:=by rfl):SV K X (.Assign [tgt] e pos) (dAsg m b):=SV.mk fun hk=>PS.imp (aom (h hk) (hg hk) hs hw h1) fun E σ H ⟨tg,F,ρ,fl,ρ',G,em,q⟩=>kj em q fun d ρ1 e1 em=>by
 refine⟨tg,F,ρ,d,ρ1,G,e1,fun v H' F' G' x r =>?_⟩
 cases e2:b d ρ1 with
 | none=>rw[e2] at em;cases em
 | some ρ2 =>
  rw[e2] at em;cases em;exact⟨tg,F',ρ1,d,_,G',r,e2,fun σ2 H2 F2 G2 x2=>q σ2 H2 F2 G2 (x.trans x2)⟩
def dPar(i j:Nat)(m:M (List D)):Sd:=dM m fun ds ρ=>match ds with
 | [d,d']=>some (.nx,List.set (List.set ρ i (.val d)) j (.val d'))
 | _=>none
theorem ax2{i j:Nat}{x y:Str}{px py pt:Pos}{kt k2 pt2}{m:M (List D)}(hc:X.calm=true)(hN:X.N.Nodup)(hi:X.N[i]? = some x)(hj:X.N[j]? = some y)(hij:i≠j)
  (hx:X.env.scope.names.lookup x=some .local) (hy:X.env.scope.names.lookup y=some .local) (h:ED K X [a,b] m)
  (hw:swappedStores [.Tuple [.Name x px,.Name y py] kt pt] (.Tuple [a,b] k2 pt2) X.env=pure (some [x,y]):=by rfl)
  (hs:swapsWithSole [.Tuple [.Name x px,.Name y py] kt pt] (.Tuple [a,b] k2 pt2) pos.line X.env=pure false:=by rfl) :
  SV K X (.Assign [.Tuple [.Name x px,.Name y py] kt pt] (.Tuple [a,b] k2 pt2) pos) (dPar i j m):=SV.mk fun hk=>PS.imp (ayk hc hN hi hj hij hx hy (h hk) hw hs) fun E σ H ⟨tg,F,ρ,fl,ρ',G,em,q⟩=>kj em q fun ds ρ1 e1 em=>by
 refine⟨tg,F,ρ,ds,ρ1,G,e1,fun vs H' F' G' x r =>?_⟩
 match ds,em with
 | [d,d'],em =>
  cases em;cases r with
  | @cons _ v _ _ h1 r =>
   cases r with
   | @cons _ v' _ _ h2 r =>
    cases r;obtain⟨G2,x2⟩:=G'.storeV i h1;obtain⟨G3,x3⟩:=G2.storeV j h2;exact⟨v,v',rfl,q _ H' F' G3 ((x.trans x2).trans x3)⟩
theorem Good.mut{tg:Nat->Addr}{F H:Hp}{ρ:Ro}{σ:L2.St}(G:Good K tg F H ρ σ){i:Nat}{t:Option Nat}{l l':List D}{a:Addr}{ys:List V}(e:(ρ:List Sl)[i]? = some (.own t l))(q:σ[i]? = some (some (.ref a)))(h:IsL K F l' ys) :
  Good K tg F (upd H a (.lst ys)) (List.set ρ i (.own t l')) σ/\Ext (Own ρ σ) (Own (List.set ρ i (.own t l')) σ) F H F (upd H a (.lst ys)):=by
 obtain⟨a',vs,e1,hf,hh,hl,ht⟩:=G.sl i _ _ e q;cases e1;have ow:∀j b,Owns (List.set ρ i (.own t l')) σ j b->Owns ρ σ j b:=fun j b ⟨⟨t2,l2,e2⟩,q2⟩=>by
  rw[List.getElem?_set] at e2
  by_cases hj:i=j
  ·subst hj;exact⟨⟨t,l,e⟩,q2⟩
  ·rw[if_neg hj] at e2;exact⟨⟨t2,l2,e2⟩,q2⟩
 have me:Own ρ σ a:=⟨i,⟨t,l,e⟩,q⟩;refine⟨⟨fun b o z =>?_,by rw[List.length_set];exact G.len,fun j s o e2 q2 =>?_,fun j k b w1 w2=>G.inj j k b (ow _ _ w1) (ow _ _ w2)⟩,Same.refl F,fun _ _ z=>.inl z,fun b o z n =>?_,fun b ⟨j,w⟩=>.inl ⟨j,ow j b w⟩,fun b z =>?_⟩
 ·have hb:b≠a:=fun z2=>by
   subst z2;rw[hf] at z;cases z
  rw[cu hb];exact G.sub b o z
 ·rw[List.getElem?_set] at e2
  by_cases hj:i=j
  ·subst hj;rw[if_pos rfl] at e2;split at e2
   ·cases e2;rw[q] at q2;cases q2;exact⟨a,ys,rfl,hf,ir,h,ht⟩
   ·cases e2
  ·rw[if_neg hj] at e2;have z:=G.sl j s o e2 q2;cases s with
   | emp=>trivial
   | val d=>exact z
   | box c fs =>
    obtain⟨b,C,dx,fvs,e1,e2,e3,e4⟩:=z;have hb:b≠a:=fun z2=>by
     subst z2;rw[e3] at hh;cases hh
    exact⟨b,C,dx,fvs,e1,e2,by rw[cu hb];exact e3,e4⟩
   | own t2 l2 =>
    obtain⟨b,ws,e3,hf3,hh3,hl3,ht3⟩:=z;have hb:b≠a:=fun z2=>by
     subst z2;exact hj (G.inj i j b ⟨⟨t,l,e⟩,q⟩ ⟨⟨t2,l2,e2⟩,by rw[q2,e3]⟩)
    exact⟨b,ws,e3,hf3,by rw[cu hb];exact hh3,hl3,ht3⟩
 ·have hb:b≠a:=fun z2=>n (z2▸me)
  rw[cu hb];exact z
 ·by_cases hb:b=a
  ·subst hb;rw[ir] at z;cases z
  ·rw[cu hb] at z;exact z
def mOwn(i:Nat):M (List D):=fun ρ=>match ρ[i]? with
 | some (.own _ l)=>some (.ok l,ρ)
 | _=>none
theorem abu{tg:Nat->Addr}{F H:Hp}{ρ ρ':Ro}{σ:L2.St}(G:Good K tg F H ρ σ){i:Nat}{l:List D}(em:mOwn i ρ=some (.ok l,ρ')):ρ'=ρ/\∃t a xs,(ρ:List Sl)[i]? = some (.own t l)/\σ[i]? = some (some (.ref a))/\H a=some (.lst xs)/\IsL K F l xs:=by
 unfold mOwn at em;split at em
 ·rename_i t l' e';cases em;obtain⟨o,ho,a,vs,rfl,hf,hh,hl,_⟩:=G.at e';exact⟨rfl,t,a,vs,e',ho,hh,hl⟩
 ·cases em
def aaz(i:Nat)(l':List D):M Unit:=fun ρ=>match ρ[i]? with
 | some (.own t _)=>some (.ok (),List.set ρ i (.own t l'))
 | _=>none
def mMut(i:Nat)(g:List D->List D->Option (D×List D))(ms:M (List D)):M D:=(mOwn i).bind fun _=>ms.bind fun ds=>(mOwn i).bind fun l=>(lift (g l ds)).bind fun r=>(aaz i r.2).bind fun _=>ret r.1
def MutD(K:Fg9)(r:V->List V->Hp->VK->Prop)(g:List D->List D->Option (D×List D)):Prop :=
 ∀(F H:Hp) (a:Addr) (xs vs:List V) (l ds:List D) (d:D) (l':List D) (Q:VK),Same F H->H a=some (.lst xs)->xs.length<=capS->IsL K F l xs->IsL K F ds vs->g l ds=some (d,l')->(∀v ys,Is K F d v->IsL K F l' ys->Q v (upd H a (.lst ys)))->r (.ref a) vs H Q
theorem aez{tg:Nat->Addr}{F H:Hp}{ρ ρ2:Ro}{σ:L2.St}(G:Good K tg F H ρ σ){i:Nat}{l':List D}{u:Unit}{a:Addr}{ys:List V}(e:aaz i l' ρ=some (.ok u,ρ2))(q:σ[i]? = some (some (.ref a)))(h:IsL K F l' ys) :
  Good K tg F (upd H a (.lst ys)) ρ2 σ/\Ext (Own ρ σ) (Own ρ2 σ) F H F (upd H a (.lst ys)):=by
 unfold aaz at e;split at e
 ·rename_i t l e';cases e;exact G.mut e' q h
 ·cases e
theorem agl{i:Nat}{name:Str}{id:String}{r:V->List V->Hp->VK->Prop}{g:List D->List D->Option (D×List D)}{ms:M (List D)}{apos cpos:Pos}(hr:MutD K r g)(slot:Slot "list" name id)(hty:typeOf (.builtin id)=pure (.type "method_descriptor"))(hm:MtR X id r)(ho:PE X a (tVar i))(ha:ED K X (e::es) ms)
  (hbase:attributeBase a name X.env (eval a X.env)=eval a X.env:=by rfl)
  (hfew:((backTo cpos (starEach (e::es) X.env)).all (fun x => !x.1)&&(backToKw cpos (keywordEach [] X.env)).all (fun x=>x.1.isSome)
   && decide ((e::es).length+([]:List Keyword).length+(if ([]:List Keyword).isEmpty then 0 else 1) < 30))=true:=by rfl)
  (hline:(apos.endLine==cpos.line)=true:=by rfl) (hs:starEach (e::es) X.env=(false,eval e X.env)::starEach es X.env:=by rfl) (hplain:(backTo cpos (starEach es X.env)).any (·.1)=false:=by rfl) :
  EV K X (.Call (.Attribute a name apos) (e::es) [] cpos) (mMut i g ms):=EV.mk fun hk=>by
 intro zv s σ H Q I ⟨tg,F,ρ,d,ρ',G,em,q⟩;obtain⟨l0,ρ0,e0,em1⟩:=aq em;obtain⟨ds,ρ1,e1,em2⟩:=aq em1;obtain⟨l,ρ2,e2,em3⟩:=aq em2;obtain⟨x,ρ3,e3,em4⟩:=aq em3;obtain⟨u,ρ4,e4,em5⟩:=aq em4;obtain⟨rfl,rfl⟩:=j9 em5;obtain⟨eg,rfl⟩:=gj e3;obtain⟨rfl,t0,b,xs0,es0,hv,hh0,hl0⟩:=abu G e0;refine ayx (r:=fun x vs H Q=>(∀b xs,x=.ref b->H b=some (.lst xs)->xs.length<=capS)->r x vs H Q) PySem.F.plainAttrs_list slot hty (fun zv s σ H x xs v us Q I rx rv h=>hm zv s σ H x xs v us Q I rx rv (h fun b xs _ hb =>?_)) ho (ha hk) hbase hfew hline hs hplain zv s σ H Q I ?_
 ·obtain⟨z,_⟩:=I.lstM hb;rw[sizeLine_eq] at z;exact z
 refine⟨_,hv,.inl ⟨rfl,_,SqL.of hh0⟩,tg,F,ρ0,ds,ρ1,G,e1,fun vs H1 F1 G1 x1 r1 cap =>?_⟩
 obtain⟨rfl,t,a',xs,es',hv',hh,hl⟩:=abu G1 e2;rw[hv] at hv';cases hv';refine hr F1 H1 _ xs vs l ds x.1 x.2 Q G1.sub hh (cap _ _ rfl hh) hl r1 eg fun w ys iw il =>?_
 obtain⟨G2,x2⟩:=aez G1 e4 hv il;exact q w _ F1 G2 (x1.trans x2) iw
def aa0(l ds:List D):Option (D×List D):=match ds with
 | [d]=>if l.length < capS then some (.non,l++[d]) else none
 | _=>none
theorem vy:MutD K aoj aa0:=by
 intro F H a xs vs l ds d l' Q g hh hc hl hd eg q
 match ds,eg with
 | [d1],eg =>
  have eg:(if l.length < capS then some (D.non,l++[d1]) else none)=some (d,l'):=eg
  split at eg
  ·rename_i hz;cases eg;cases hd with
   | cons h t =>
    cases t;exact⟨a,xs,_,rfl,rfl,hh,by rw[sizeLine_eq,<-hl.length];exact hz,q _ _ .non (hl.append (.cons h .nil))⟩
  ·cases eg
def dSub(i:Nat)(mi m:M D):Sd:=dM m fun d=>dM (mOwn i) fun _=>dM mi fun k=>dM (mOwn i) fun l=>dM (lift ((asI k).bind (ixN l.length))) fun j=>dM (aaz i (l.set j d)) fun _=>dNx
theorem ak3{i:Nat}{mi m:M D}(h:EV K X e m)(ho:PE X a (tVar i))(hi:EV K X b mi)(hs:swapsWithSole [.Subscript a b p] e pos.line X.env=pure false:=by rfl)(hw:swappedStores [.Subscript a b p] e X.env=pure none:=by rfl)
  (h1:(assignEach [.Subscript a b p] X.env).map (·.2)=[assign (.Subscript a b p) X.env]:=by rfl)
  (ha:∀v,assign (.Subscript a b p) X.env v=(do
   let ov <-holding [v] (eval a X.env)
   let iv <-holding [v,ov] (eval b X.env)
   standAt p
   holding [v,ov,iv] (setItem ov iv v)
   release [v,ov,iv] []):=by intro _;rfl):SV K X (.Assign [.Subscript a b p] e pos) (dSub i mi m):=SV.mk fun hk=>PS.imp (aom (h hk) (atv ho (hi hk) set_list ha) hs hw h1) fun E σ H ⟨tg,F,ρ,fl,ρ',G,em,q⟩ =>
 kj em q fun d ρ1 e1 em=>kj em q fun l0 ρ0 e0 em=>kj em q fun k ρ2 e2 em=>kj em q fun l ρ3 e3 em=>kj em q fun j ρ4 e4 em=>kj em q fun u ρ5 e5 em=>by
 cases em;obtain⟨e6,rfl⟩:=gj e4;refine⟨tg,F,ρ,d,ρ1,G,e1,fun v H1 F1 G1 x1 r1 =>?_⟩
 obtain⟨rfl,t0,a0,xs0,es0,hv,hh0,hl0⟩:=abu G1 e0;refine⟨_,hv,tg,F1,_,k,ρ2,G1,e2,fun w H2 F2 G2 x2 r2 =>?_⟩
 obtain⟨rfl,t,a1,xs,es1,hv',hh,hl⟩:=abu G2 e3;rw[hv] at hv';cases hv';cases ek:asI k with
 | none=>rw[ek] at e6;cases e6
 | some n =>
  rw[ek] at e6;obtain rfl:=aea ek;cases r2;obtain⟨G3,x3⟩:=aez G2 e5 hv (hl.set (r1.mono x2.sub) j);exact⟨_,xs,n,j,rfl,rfl,hh,by rw[<-hl.length];exact e6,q _ _ F2 G3 ((x1.trans x2).trans x3)⟩
def dAug(f:Int->Int->Int)(i:Nat)(m:M D):Sd:=dM (mVar i) fun x=>dM m fun y=>dM (lift ((asI x).bind fun n=>(asI y).map fun k=>D.int (f n k))) fun z ρ=>some (.nx,List.set ρ i (.val z))
end
section
variable{K:Fg9}{X:Cx}{e a b c tgt iter elt:Expr}{es:List Expr}{pos p p2:Pos}{st:Stmt}{ss:List Stmt}
theorem _root_.Mn.ItOf.imp{J:It}{xs:List V}{S S':Hp->Prop}(Z:ItOf J xs S)(h:∀H,S' H->S H):ItOf J xs S':=⟨fun i H q=>Z.go i H (h H q),fun i H x H' q=>Z.yld i H x H' (h H q),fun i H q=>Z.stop i H (h H q)⟩
def Alt(K:Fg9)(F:Hp)(d:D)(x:V)(H H':Hp):Prop:=(H'=H/\Is K F d x)∨∃q vs ds,H q=none/\x=.ref q/\H'=upd H q (.tup vs)/\d=.tup ds/\IsL K F ds vs
structure ItD (K:Fg9) (J:It) (l:List D) (F:Hp):Prop where
 go:∀i H,Same F H->i < l.length->J.go i H
 yld:∀i H x H' d,Same F H->J.yld i H x H'->l[i]? = some d->Alt K F d x H H'
 stop:∀H,Same F H->J.stop l.length H
theorem ItD.of{J:It}{l:List D}{vs:List V}{F:Hp}(il:IsL K F l vs)(Z:ItOf J vs fun H2=>Same F H2):ItD K J l F where
 go:=fun i H s hi=>Z.go i H s (by rw[<-il.length];exact hi)
 yld:=fun i H x H' d s y hd=>by
  obtain⟨v,hv,iv⟩:=il.get hd;obtain⟨e,z⟩:=Z.yld i H x H' s y;have:=z (List.getElem?_eq_some_iff.mp hv).1;rw[hv] at this;cases this;exact .inl ⟨e,iv⟩
 stop:=fun H s=>Z.stop _ H s (by rw[<-il.length];exact Nat.le_refl _)
theorem al9{tg:Nat->Addr}{O:Addr->Prop}{F H F1 F2 H2 H3:Hp}{ρ2:Ro}{σ2:L2.St}{d:D}{x:V}(G2:Good K tg F2 H2 ρ2 σ2)(x2:Ext O (Own ρ2 σ2) F H F2 H2)(s2:Same F1 F2)(a:Alt K F1 d x H2 H3) :
  ∃F3,Good K tg F3 H3 ρ2 σ2/\Ext O (Own ρ2 σ2) F H F3 H3/\Same F1 F3/\Is K F3 d x/\Ext (Own ρ2 σ2) (Own ρ2 σ2) F2 H2 F3 H3:=by
 rcases a with⟨rfl,id⟩ | ⟨q,vs,ds,hq,rfl,rfl,rfl,il⟩
 ·exact⟨F2,G2,x2,s2,id.mono s2,Ext.refl _ _ _⟩
 ·have z:=G2.newX hq (.tup vs);exact⟨_,G2.new hq _,x2.trans z,s2.trans z.sub,.tup ir (il.mono (s2.trans z.sub)),z⟩
theorem awx{J:It}{l:List D}{F:Hp}(Z:ItD K J l F){g:TG}{tb:TS}{D':Ends}{σ:L2.St}{H:Hp}(Pv:Nat->L2.St->Hp->Prop)(h0:Pv 0 σ H)(hl:∀i σ H,i<=l.length->Pv i σ H->Same F H)
  (hs:∀i d x σ H H',l[i]? = some d->Pv i σ H->Alt K F d x H H'->g x σ H' fun σ2 H2=>tb { D' with nx:=Pv (i+1),ct:=Pv (i+1),bk:=D'.nx } σ2 H2) (hd:∀σ H,Pv l.length σ H->D'.nx σ H) :
  ∃W:Nat->Nat->L2.St->Hp->Prop,(∃m,W 0 m σ H)/\∀i m σ H,W i m σ H ->
   (J.stop i H/\D'.nx σ H)∨(J.go i H/\∃N:L2.St->Hp->Prop,(∀σ' H',N σ' H'->∃m',m' < m/\W (i+1) m' σ' H')/\∀x H',J.yld i H x H'->g x σ H' fun σ2 H2=>tb { D' with nx:=N,ct:=N,bk:=D'.nx } σ2 H2):=by
 refine⟨fun i m σ H=>m=l.length - i/\i<=l.length/\Pv i σ H,⟨l.length,by simp,Nat.zero_le _,h0⟩,?_⟩
 rintro i m σ H ⟨rfl,hi,p⟩
 have q:=hl i σ H hi p
 by_cases hlt:i < l.length
 ·exact .inr ⟨Z.go i H q hlt,Pv (i+1),fun σ' H' p'=>⟨l.length - (i+1),by omega,rfl,hlt,p'⟩,fun x H' y=>hs i _ x σ H H' (List.getElem?_eq_getElem hlt) p (Z.yld i H x H' _ q y (List.getElem?_eq_getElem hlt))⟩
 ·have e:i=l.length:=by omega
  subst e;exact .inl ⟨Z.stop H q,hd σ H p⟩
theorem atg{J:It}{l:List D}{F:Hp}(Z:ItD K J l F){d:Addr}{g:TG}{ti:TT}{te:TE}{Q:VK}{σ0:L2.St}{H1:Hp}(Pv:Nat->List V->L2.St->Hp->Prop)(h0:Pv 0 [] σ0 (upd H1 d (.lst [])))
  (hl:∀i ys σ H,i<=l.length->Pv i ys σ H->Same F H/\H d=some (.lst ys))
  (hs:∀i e x ys σ H H' (M:List V->L2.St->Hp->Prop),l[i]? = some e->Pv i ys σ H->Alt K F e x H H'->(∀ys' σ' H',Pv (i+1) ys' σ' H'->M ys' σ' H') ->
   g x σ H' fun σ4 H4=>ti σ4 H4 fun b H5=>if b=true then te σ4 H5 fun y H6=>H6 d=some (.lst ys)/\ys.length < sizeLine/\M (ys++[y]) σ4 (upd H6 d (.lst (ys++[y]))) else M ys σ4 H5)
  (hd:∀ys σ H,Pv l.length ys σ H->Q (.ref d) H):a0x J g ti te Q d σ0 H1:=by
 refine⟨fun i m ys σ H=>m=l.length - i/\i<=l.length/\Pv i ys σ H,⟨l.length,by simp,Nat.zero_le _,h0⟩,?_⟩
 rintro i m ys σ H ⟨rfl,hi,p⟩
 obtain⟨q,e⟩:=hl i ys σ H hi p;refine⟨e,?_⟩
 by_cases hlt:i < l.length
 ·exact .inr ⟨Z.go i H q hlt,fun x H' y=>hs i _ x ys σ H H' (fun ys' σ' H'=>∃m',m' < l.length - i/\(m'=l.length - (i+1)/\i+1<=l.length/\Pv (i+1) ys' σ' H')) (List.getElem?_eq_getElem hlt) p (Z.yld i H x H' _ q y (List.getElem?_eq_getElem hlt)) fun ys' σ' H' p'=>⟨l.length - (i+1),by omega,rfl,hlt,p'⟩⟩
 ·have e:i=l.length:=by omega
  subst e;exact .inl ⟨Z.stop H q,hd ys σ H p⟩
def TIt(K:Fg9)(m:M (List D)):TI:=fun σ H R=>∃tg F ρ l ρ',Good K tg F H ρ σ/\m ρ=some (.ok l,ρ')/\∀J H' F',Good K tg F' H' ρ' σ->Ext (Own ρ σ) (Own ρ' σ) F H F' H'->ItD K J l F'->R J H'
structure IT (K:Fg9) (X:Cx) (tgt iter:Expr) (m:M (List D)):Prop where
 go:X.K=K->PI X tgt iter (TIt K m)
instance {K:Fg9} {X:Cx} {tgt iter:Expr} {m:M (List D)}:CoeFun (IT K X tgt iter m) fun _=>X.K=K->PI X tgt iter (TIt K m):=⟨IT.go⟩
def xr(m:M D):M (List D):=m.bind fun d=>lift (itemsD d)
theorem aat{m:M D}(h:EV K X iter m):IT K X tgt iter (xr m):=IT.mk fun hk=>by
 intro zv s σ H R I ⟨tg,F,ρ,l,ρ',G,em,q⟩;obtain⟨d,ρ1,e1,em⟩:=aq em;obtain⟨e2,rfl⟩:=gj em;have h:=h hk;subst hk;cases d with
 | tup k =>
  cases e2;refine ayn h zv s σ H R I ⟨tg,F,ρ,_,_,G,e1,fun v H' F' G' x r =>?_⟩
  cases r with
  | @tup a vs _ e hl=>exact⟨a,rfl,⟨vs,SqT.of (G'.sub _ _ e)⟩,q _ H' F' G' x (.of hl (asp.imp fun H2 g=>SqT.of (g _ _ e)))⟩
 | lst k =>
  cases e2;refine aor h zv s σ H R I ⟨tg,F,ρ,_,_,G,e1,fun v H' F' G' x r =>?_⟩
  cases r with
  | @lst a vs _ e hl=>exact⟨a,rfl,⟨vs,SqL.of (G'.sub _ _ e)⟩,q _ H' F' G' x (.of hl (alo.imp fun H2 g=>SqL.of (g _ _ e)))⟩
 | kst k =>
  cases e2;refine aor h zv s σ H R I ⟨tg,F,ρ,_,_,G,e1,fun v H' F' G' x r =>?_⟩
  cases r with
  | @kst a vs _ e hl=>exact⟨a,rfl,⟨vs,L2.Same.seq G'.sub e⟩,q _ H' F' G' x (.of hl (alo.imp fun H2 g=>L2.Same.seq g e))⟩
 | _=>cases e2
def jx(lo:Int)(n:Nat):List D:=(List.range n).map fun i=>D.int (lo+(i:Nat))
theorem ak7{F:Hp}(lo:Int)(n:Nat):IsL K F (jx lo n) (ups lo n):=by
 have e1:jx lo n=((List.range n).map fun i=>lo+((i:Nat):Int)).map D.int:=by unfold jx;rw[List.map_map];rfl
 have e2:ups lo n=((List.range n).map fun i=>lo+((i:Nat):Int)).map V.int:=by unfold ups;rw[List.map_map];rfl
 rw[e1,e2];exact aed _
theorem a0u{j:Int}(h:j.natAbs < 4611686018427387904) : -2 ^ 62<=j/\j < 2 ^ 62:=by
 have e:(2:Int) ^ 62=4611686018427387904:=by decide
 rw[e];omega
def ue:List D->Option (List D)
 | [.int j]=>if j.natAbs < 4611686018427387904 then some (jx 0 j.toNat) else none
 | _=>none
def awj:List D->Option (List D)
 | [.int i,.int j]=>if i.natAbs < 4611686018427387904/\j.natAbs < 4611686018427387904 then some (jx i (j - i).toNat) else none
 | _=>none
def mGet{α β:Type}(g:α->Option β)(m:M α):M β:=m.bind fun ds=>lift (g ds)
theorem uw{m:M (List D)}(hg:Gl X "range")(hm:X.mg "range" = none)(h:ED K X [a] m)(hs:starEach [a] X.env=[(false,eval a X.env)]:=by rfl):IT K X tgt (.Call (.Name "range" p) [a] [] pos) (mGet ue m):=IT.mk fun hk=>by
 intro zv s σ H R I ⟨tg,F,ρ,l,ρ',G,em,q⟩;obtain⟨ds,ρ1,e1,em⟩:=aq em;obtain⟨e2,rfl⟩:=gj em;refine aoq hg hm (h hk) hs zv s σ H R I ⟨tg,F,ρ,ds,_,G,e1,fun vs H' F' G' x r =>?_⟩
 unfold ue at e2;split at e2
 ·split at e2
  ·rename_i j hc;cases e2;cases r with
   | cons h t =>
    cases t;cases h;exact⟨_,rfl,(a0u hc).1,(a0u hc).2,q _ H' F' G' x (.of (ak7 0 _) (asq.imp fun _ _=>trivial))⟩
  ·cases e2
 ·cases e2
def forD(b:D->Ro->Option Ro)(g:Sd):List D->Sd
 | [],ρ=>some (.nx,ρ)
 | d::ds,ρ=>match b d ρ with
  | none=>none
  | some ρ1=>match g ρ1 with
   | some (.nx,ρ2)=>forD b g ds ρ2
   | some (.cont,ρ2)=>forD b g ds ρ2
   | some (.brk,ρ2)=>some (.nx,ρ2)
   | some (.ret r,ρ2)=>some (.ret r,ρ2)
   | some (.exc x,ρ2)=>some (.exc x,ρ2)
   | none=>none
def dFor(m:M (List D))(b:D->Ro->Option Ro)(g:Sd):Sd:=dM m (forD b g)
theorem xm{m:M (List D)}{b:D->Ro->Option Ro}{g:Sd}(hp:PassesOwn (model X.prog X.w) X.A X.env X.xe)(hc:X.calm=true)(hi:IT K X tgt iter m)(hg:GV K X tgt b)(hb:SVs K X ss g)
  (hs:∀x,foldedSetIterable iter X.env x=pure x:=by intro _;rfl):SV K X (.For tgt iter ss [] pos) (dFor m b g):=SV.mk fun hk=>PS.imp (ayl hp hc (hi hk) (hg hk) (hb hk) hs) fun E σ H ⟨tg,F,ρ,fl,ρ',G,em,q⟩=>kj em q fun l ρ1 e1 em=>by
 refine⟨tg,F,ρ,l,ρ1,G,e1,fun J H1 F1 G1 x1 Z =>?_⟩
 refine awx Z (fun i σ2 H2=>∃F2 ρ2,Good K tg F2 H2 ρ2 σ2/\Ext (Own ρ σ) (Own ρ2 σ2) F H F2 H2/\Same F1 F2/\forD b g (l.drop i) ρ2=some (fl,ρ')) ⟨F1,ρ1,G1,x1,Same.refl _,em⟩ (fun i σ2 H2 _ ⟨F2,ρ2,G2,_,s2,_⟩=>s2.trans G2.sub) ?_ ?_
 ·rintro i d x σ2 H2' H2 hd ⟨F2',ρ2,G2',x2',s2',em2⟩ al
  obtain⟨F2,G2,x2,s2,id,_⟩:=al9 G2' x2' s2' al;have hlt:i < l.length:=(List.getElem?_eq_some_iff.mp hd).1;have ed:l[i]=d:=(List.getElem?_eq_some_iff.mp hd).2;rw[List.drop_eq_getElem_cons hlt,ed] at em2;unfold forD at em2;split at em2
  ·cases em2
  ·rename_i ρ3 e3;refine⟨tg,F2,ρ2,d,ρ3,G2,id,e3,fun σ3 H3 F3 G3 x3 =>?_⟩
   have again:∀{ρ4:Ro},forD b g (l.drop (i+1)) ρ4=some (fl,ρ')->∀σ' H' F',Good K tg F' H' ρ4 σ'->Ext (Own ρ3 σ3) (Own ρ4 σ') F3 H3 F' H' ->
     ∃F2 ρ2,Good K tg F2 H' ρ2 σ'/\Ext (Own ρ σ) (Own ρ2 σ') F H F2 H'/\Same F1 F2/\forD b g (l.drop (i+1)) ρ2=some (fl,ρ') :=
    fun{ρ4} e4 σ' H' F' G' x'=>⟨F',ρ4,G',(x2.trans x3).trans x',(s2.trans x3.sub).trans x'.sub,e4⟩
   split at em2
   ·rename_i ρ4 e4;exact⟨tg,F3,ρ3,.nx,ρ4,G3,e4,again em2⟩
   ·rename_i ρ4 e4;exact⟨tg,F3,ρ3,.cont,ρ4,G3,e4,again em2⟩
   ·rename_i ρ4 e4;cases em2;exact⟨tg,F3,ρ3,.brk,_,G3,e4,fun σ' H' F' G' x'=>q σ' H' F' G' ((x2.trans x3).trans x')⟩
   ·rename_i r ρ4 e4;cases em2;exact⟨tg,F3,ρ3,.ret r,_,G3,e4,fun v σ' H' F' G' x' rr=>q v σ' H' F' G' ((x2.trans x3).trans x') (p7 (x2.trans x3) rr)⟩
   ·cases em2;exact(show False from q).elim
   ·cases em2
 ·rintro σ2 H2 ⟨F2,ρ2,G2,x2,s2,em2⟩
  rw[List.drop_eq_nil_of_le (Nat.le_refl _)] at em2;cases em2;exact q σ2 H2 F2 G2 x2
def whileD(c:M Bool)(g:Sd):Nat->Sd
 | 0,_=>none
 | n+1,ρ=>match c ρ with
  | some (.ok true,ρ1)=>match g ρ1 with
   | some (.nx,ρ2)=>whileD c g n ρ2
   | some (.cont,ρ2)=>whileD c g n ρ2
   | some (.brk,ρ2)=>some (.nx,ρ2)
   | some (.ret r,ρ2)=>some (.ret r,ρ2)
   | some (.exc x,ρ2)=>some (.exc x,ρ2)
   | none=>none
  | some (.ok false,ρ1)=>some (.nx,ρ1)
  | some (.exc x,ρ1)=>some (.exc x,ρ1)
  | none=>none
theorem ace{m:M Bool}{g:Sd}(n:Nat)(hp:PassesOwn (model X.prog X.w) X.A X.env X.xe)(hc:ET K X c m)(hb:SVs K X ss g):SV K X (.While c ss [] pos) (whileD m g n):=SV.mk fun hk=>PS.imp (arq hp (hc hk) (hb hk)) fun E σ H hq0=>by
 obtain⟨tg,F,ρ,fl,ρ',G,em,q⟩:=hq0;refine⟨fun k σ2 H2=>∃F2 ρ2,Good K tg F2 H2 ρ2 σ2/\Ext (Own ρ σ) (Own ρ2 σ2) F H F2 H2/\whileD m g k ρ2=some (fl,ρ'),⟨n,F,ρ,G,Ext.refl _ _ _,em⟩,?_⟩
 rintro k σ2 H2 ⟨F2,ρ2,G2,x2,em2⟩
 cases k with
 | zero=>cases em2
 | succ k =>
  unfold whileD at em2;split at em2
  ·rename_i ρ3 e3;refine⟨tg,F2,ρ2,true,ρ3,G2,e3,fun H3 F3 G3 x3=>iteT ?_⟩
   refine⟨fun σ' H'=>∃F2 ρ2,Good K tg F2 H' ρ2 σ'/\Ext (Own ρ σ) (Own ρ2 σ') F H F2 H'/\whileD m g k ρ2=some (fl,ρ'),fun σ' H' h=>⟨k,Nat.lt_succ_self k,h⟩,?_⟩
   split at em2
   ·rename_i ρ4 e4;exact⟨tg,F3,ρ3,.nx,ρ4,G3,e4,fun σ' H' F' G' x'=>⟨F',ρ4,G',(x2.trans x3).trans x',em2⟩⟩
   ·rename_i ρ4 e4;exact⟨tg,F3,ρ3,.cont,ρ4,G3,e4,fun σ' H' F' G' x'=>⟨F',ρ4,G',(x2.trans x3).trans x',em2⟩⟩
   ·rename_i ρ4 e4;cases em2;exact⟨tg,F3,ρ3,.brk,_,G3,e4,fun σ' H' F' G' x'=>q σ' H' F' G' ((x2.trans x3).trans x')⟩
   ·rename_i r ρ4 e4;cases em2;exact⟨tg,F3,ρ3,.ret r,_,G3,e4,fun v σ' H' F' G' x' rr=>q v σ' H' F' G' ((x2.trans x3).trans x') (p7 (x2.trans x3) rr)⟩
   ·cases em2;exact(show False from q).elim
   ·cases em2
  ·rename_i ρ3 e3;cases em2;exact⟨tg,F2,ρ2,false,_,G2,e3,fun H3 F3 G3 x3=>iteF (q σ2 H3 F3 G3 (x2.trans x3))⟩
  ·cases em2;exact(show False from q).elim
  ·cases em2
end
def aix(ρ:Ro)(i:Nat)(o:Option Nat)(d:Option D):Sl:=match o with
 | some j=>match ρ[j]? with
  | some (.val d)=>.val d
  | some (.own _ l)=>.own (some i) l
  | _=>.emp
 | none=>match d with
  | some d=>.val d
  | none=>.emp
def lend(ρ:Ro)(js:List (Option Nat))(ds:List (Option D)):Ro:=(List.zip js ds).mapIdx fun i p=>aix ρ i p.1 p.2
def okJs(ρ:Ro):List (Option Nat)->Bool
 | []=>true
 | none::r=>okJs ρ r
 | some j::r=>(match ρ[j]? with
  | some (.own _ _) => !r.contains (some j)
  | _=>true)&&okJs ρ r
theorem ahc{ρ:Ro}:∀{js:List (Option Nat)} {i i' j:Nat} {t:Option Nat} {l:List D},okJs ρ js=true->js[i]? = some (some j)->js[i']? = some (some j)->ρ[j]? = some (.own t l)->i=i'
 | [],_,_,_,_,_,_,h,_,_=>by simp at h
 | o::r,0,0,_,_,_,_,_,_,_=>rfl
 | o::r,0,i'+1,j,t,l,hk,h,h',e=>by
  simp at h h';subst h;unfold okJs at hk;rw[e,Bool.and_eq_true] at hk;have:=List.mem_of_getElem? h';simp[this] at hk
 | o::r,i+1,0,j,t,l,hk,h,h',e=>by
  simp at h h';subst h';unfold okJs at hk;rw[e,Bool.and_eq_true] at hk;have:=List.mem_of_getElem? h;simp[this] at hk
 | none::r,i+1,i'+1,j,t,l,hk,h,h',e=>by
  rw[ahc (js:=r) (i:=i) (i':=i') (j:=j) (by unfold okJs at hk;exact hk) (by simpa using h) (by simpa using h') e]
 | some k::r,i+1,i'+1,j,t,l,hk,h,h',e=>by
  unfold okJs at hk;rw[Bool.and_eq_true] at hk;rw[ahc (js:=r) (i:=i) (i':=i') (j:=j) hk.2 (by simpa using h) (by simpa using h') e]
def putS(js:List (Option Nat))(ps:Ro)(j:Nat)(s:Sl):Sl:=match js.findIdx? (fun o=>o==some j) with
 | none=>s
 | some i=>match s with
  | .own t _=>match ps[i]? with
   | some (.own (some i') l')=>if i'=i then .own t l' else .emp
   | _=>.emp
  | s=>s
def putB(ρ:Ro)(js:List (Option Nat))(ps:Ro):Ro:=ρ.mapIdx fun j s=>putS js ps j s
def tgOf(τ:L2.St)(i:Nat):Addr:=match τ[i]? with
 | some (some (.ref a))=>a
 | _=>0
section
variable{K:Fg9}{tg:Nat->Addr}{F H F' H':Hp}{ρ ps:Ro}{σ τ:L2.St}{js:List (Option Nat)}{ds:List (Option D)}{O':Addr->Prop}
theorem alj{i:Nat}{s:Sl}(h:(lend ρ js ds:List Sl)[i]? = some s):∃o d,js[i]? = some o/\ds[i]? = some d/\s=aix ρ i o d:=by
 unfold lend at h;rw[List.getElem?_mapIdx] at h;cases e:(List.zip js ds)[i]? with
 | none=>rw[e] at h;cases h
 | some p =>
  rw[e] at h;cases h;rw[List.getElem?_zip_eq_some] at e;exact⟨p.1,p.2,e.1,e.2,rfl⟩
theorem ash{i:Nat}{t:Option Nat}{l:List D}(h:(lend ρ js ds:List Sl)[i]? = some (.own t l)):∃j t',js[i]? = some (some j)/\ρ[j]? = some (.own t' l)/\t=some i:=by
 obtain⟨o,d,e1,e2,e3⟩:=alj h;unfold aix at e3;cases o with
 | none=>cases d <;> cases e3
 | some j =>
  simp only at e3;cases e:ρ[j]? with
  | none=>rw[e] at e3;cases e3
  | some s =>
   rw[e] at e3;cases s with
   | emp=>cases e3
   | val _=>cases e3
   | box _ _=>cases e3
   | own t' l'=>cases e3;exact⟨j,t',e1,e,rfl⟩
structure Lent (K:Fg9) (F:Hp) (σ τ:L2.St) (js:List (Option Nat)) (ds:List (Option D)):Prop where
 l1:τ.length=js.length
 l2:ds.length=js.length
 h1:∀(i j:Nat) (o:Option V),js[i]? = some (some j)->σ[j]? = some o->τ[i]? = some o
 h2:∀(i:Nat) (d:D),js[i]? = some none->ds[i]? = some (some d)->∃v,τ[i]? = some (some v)/\Is K F d v
theorem Good.σ_at(G:Good K tg F H ρ σ){j:Nat}{s:Sl}(e:(ρ:List Sl)[j]? = some s):∃o,σ[j]? = some o:=by
 obtain⟨o,h,_⟩:=G.at e;exact⟨o,h⟩
theorem abg(G:Good K tg F H ρ σ)(L:Lent K F σ τ js ds){i:Nat}{a:Addr}(h:Owns (lend ρ js ds) τ i a):∃j,js[i]? = some (some j)/\Owns ρ σ j a:=by
 obtain⟨⟨t,l,e⟩,q⟩:=h;obtain⟨j,t',e1,e2,_⟩:=ash e;obtain⟨o,ho⟩:=G.σ_at e2;have:=L.h1 i j o e1 ho;rw[q] at this;cases this;exact⟨j,e1,⟨t',l,e2⟩,ho⟩
theorem acu(G:Good K tg F H ρ σ)(hk:okJs ρ js=true)(L:Lent K F σ τ js ds):Good K (tgOf τ) F H (lend ρ js ds) τ where
 sub:=G.sub
 len:=by
  unfold lend;rw[List.length_mapIdx,List.length_zip,L.l2,L.l1];omega
 sl:=fun i s o e q=>by
  obtain⟨oj,d,e1,e2,rfl⟩:=alj e;unfold aix;cases oj with
  | none =>
   cases d with
   | none=>trivial
   | some d =>
    obtain⟨v,h1,h2⟩:=L.h2 i d e1 e2;rw[q] at h1;cases h1;exact⟨v,rfl,h2⟩
  | some j =>
   simp only;cases e3:ρ[j]? with
   | none=>trivial
   | some s =>
    obtain⟨o',ho,w⟩:=G.at e3;have:=L.h1 i j o' e1 ho;rw[q] at this;cases this;cases s with
    | emp=>trivial
    | val d=>exact w
    | box _ _=>trivial
    | own t l =>
     obtain⟨a,vs,rfl,hf,hh,hl,_⟩:=w;refine⟨a,vs,rfl,hf,hh,hl,fun k e =>?_⟩
     cases e;unfold tgOf;rw[q]
 inj:=fun i i' a w w'=>by
  obtain⟨j,e,v⟩:=abg G L w;obtain⟨j',e',v'⟩:=abg G L w';have:=G.inj j j' a v v';subst this;obtain⟨⟨t,l,z⟩,_⟩:=v;exact ahc hk e e' z
structure Fin (K:Fg9) (F' H':Hp) (τ:L2.St) (ps:Ro) (O':Addr->Prop):Prop where
 at':∀(i:Nat) (l:List D),(ps:List Sl)[i]? = some (.own (some i) l)->O' (tgOf τ i)/\F' (tgOf τ i)=none/\∃vs,H' (tgOf τ i)=some (.lst vs)/\IsL K F' l vs
theorem ag3{j:Nat}{s:Sl}(h:(putB ρ js ps:List Sl)[j]? = some s):∃s0:Sl,(ρ:List Sl)[j]? = some s0/\((∃t l,s0=Sl.own t l/\∃i:Nat,js[i]? = some (some j)/\((∃l',(ps:List Sl)[i]? = some (Sl.own (some i) l')/\s=Sl.own t l')∨s=Sl.emp)) ∨
  (s=s0/\∀t l,s0=Sl.own t l->∀i:Nat,js[i]? ≠ some (some j))):=by
 unfold putB at h;rw[List.getElem?_mapIdx] at h;cases e:(ρ:List Sl)[j]? with
 | none=>rw[e] at h;cases h
 | some s0 =>
  rw[e] at h;refine⟨s0,rfl,?_⟩;have h:putS js ps j s0=s:=Option.some.inj h;unfold putS at h;cases ei:js.findIdx? (fun o=>o==some j) with
  | none =>
   rw[ei] at h;have h:s0=s:=h;refine .inr ⟨h.symm,fun _ _ _ i z =>?_⟩
   rw[List.findIdx?_eq_none_iff] at ei;have:=ei _ (List.mem_of_getElem? z);simp at this
  | some i =>
   rw[ei] at h;cases s0 with
   | emp=>exact .inr ⟨(show Sl.emp=s from h).symm,fun t l z=>by cases z⟩
   | val d=>exact .inr ⟨(show Sl.val d=s from h).symm,fun t l z=>by cases z⟩
   | box c fs=>exact .inr ⟨(show Sl.box c fs=s from h).symm,fun t l z=>by cases z⟩
   | own t l =>
    refine .inl ⟨t,l,rfl,i,?_,?_⟩
    ·obtain⟨hi,hb,_⟩:=List.findIdx?_eq_some_iff_getElem.mp ei;rw[List.getElem?_eq_getElem hi];exact congrArg some (eq_of_beq hb)
    ·have h:(match (ps:List Sl)[i]? with
      | some (.own (some i') l')=>if i'=i then Sl.own t l' else .emp
      | _=>.emp)=s:=h
     cases ep:(ps:List Sl)[i]? with
     | none=>rw[ep] at h;exact .inr h.symm
     | some sp =>
      rw[ep] at h;cases sp with
      | emp=>exact .inr h.symm
      | val _=>exact .inr h.symm
      | box _ _=>exact .inr h.symm
      | own t' l' =>
       cases t' with
       | none=>exact .inr h.symm
       | some i' =>
        have h2:(if i'=i then Sl.own t l' else .emp)=s:=h
        by_cases z:i'=i
        ·subst z;rw[if_pos rfl] at h2;exact .inl ⟨l',rfl,h2.symm⟩
        ·rw[if_neg z] at h2;exact .inr h2.symm
theorem abn{j:Nat}{a:Addr}(h:Owns (putB ρ js ps) σ j a):Owns ρ σ j a:=by
 obtain⟨⟨t,l,e⟩,q⟩:=h;obtain⟨s0,e0,h | ⟨rfl,_⟩⟩:=ag3 e
 ·obtain⟨t',l',rfl,i,_,⟨l2,_,z⟩ | z⟩:=h
  ·exact⟨⟨t',l',e0⟩,q⟩
  ·cases z
 ·exact⟨⟨t,l,e0⟩,q⟩
theorem ac5(G:Good K tg F H ρ σ)(L:Lent K F σ τ js ds)(x:Ext (Own (lend ρ js ds) τ) O' F H F' H')(s':Same F' H')(fin:Fin K F' H' τ ps O'):Good K tg F' H' (putB ρ js ps) σ where
 sub:=s'
 len:=by
  unfold putB;rw[List.length_mapIdx];exact G.len
 sl:=fun j s o e q=>by
  obtain⟨s0,e0,h | ⟨rfl,hn⟩⟩:=ag3 e
  ·obtain⟨t,l,rfl,i,ei,⟨l',ep,rfl⟩ | rfl⟩:=h
   ·obtain⟨a,vs,rfl,hf,hh,hl,ht⟩:=G.sl j _ _ e0 q;obtain⟨_,hf',ws,hh',hl'⟩:=fin.at' i l' ep;have:=L.h1 i j _ ei q;have et:tgOf τ i=a:=by
     unfold tgOf;rw[this]
    rw[et] at hf' hh';exact⟨a,ws,rfl,hf',hh',hl',ht⟩
   ·trivial
  ·have w:=G.sl j _ _ e0 q;cases s with
   | emp=>trivial
   | val d =>
    obtain⟨v,h1,h2⟩:=w;exact⟨v,h1,h2.mono x.sub⟩
   | box c fs =>
    obtain⟨a,C,dx,fvs,e1,e2,e3,e4,e7,e5,e6⟩:=w;have no:¬Own (lend ρ js ds) τ a:=fun⟨i,z⟩=>by
     obtain⟨j',_,v⟩:=abg G L z;obtain⟨_,vs,hv⟩:=G.ownAt ⟨j',v⟩;rw[e3] at hv;cases hv
    have hf:F' a=none:=by
     cases z:F' a with
     | none=>rfl
     | some o =>
      rcases x.new a o z with z | z | z
      ·rw[e2] at z;cases z
      ·rw[e3] at z;cases z
      ·exact absurd z no
    exact⟨a,C,dx,fvs,e1,hf,x.keep a _ e3 no,e4,e7,e5,fun f d h=>(e6 f d h).imp fun v h=>⟨h.1,h.2.mono x.sub⟩⟩
   | own t l =>
    obtain⟨a,vs,rfl,hf,hh,hl,ht⟩:=w;have no:¬Own (lend ρ js ds) τ a:=fun⟨i,z⟩=>by
     obtain⟨j',e1,v⟩:=abg G L z;have:=G.inj j' j a v ⟨⟨t,l,e0⟩,q⟩;subst this;exact hn t l rfl i e1
    refine⟨a,vs,rfl,?_,x.keep a _ hh no,hl.mono x.sub,ht⟩;cases z:F' a with
    | none=>rfl
    | some o =>
     rcases x.new a o z with z | z | z
     ·rw[hf] at z;cases z
     ·rw[hh] at z;cases z
     ·exact absurd z no
 inj:=fun i j a w w'=>G.inj i j a (abn w) (abn w')
theorem aah(G:Good K tg F H ρ σ)(L:Lent K F σ τ js ds){a:Addr}(h:Own (lend ρ js ds) τ a):Own ρ σ a:=by
 obtain⟨i,h⟩:=h;obtain⟨j,_,h⟩:=abg G L h;exact⟨j,h⟩
theorem aeg(G:Good K tg F H ρ σ)(L:Lent K F σ τ js ds)(x:Ext (Own (lend ρ js ds) τ) O' F H F' H'):Ext (Own ρ σ) (Own (putB ρ js ps) σ) F H F' H' where
 sub:=x.sub
 new:=fun a o e=>by
  rcases x.new a o e with z | z | z
  ·exact .inl z
  ·exact .inr (.inl z)
  ·exact .inr (.inr (aah G L z))
 keep:=fun a o e n=>x.keep a o e fun z=>n (aah G L z)
 own:=fun a ⟨j,w⟩=>.inl ⟨j,abn w⟩
 there:=x.there
theorem aqq(G:Good K tg F H ρ σ)(L:Lent K F σ τ js ds)(fin:Fin K F' H' τ ps O'){a:Addr}(ha:H a=none∨Own (lend ρ js ds) τ a)(hn:¬O' a):¬Own (putB ρ js ps) σ a:=fun⟨j,w⟩=>by
 have v:=abn w;obtain⟨⟨t,l2,e⟩,q⟩:=w;obtain⟨s0,e0,z | ⟨rfl,hno⟩⟩:=ag3 e
 ·obtain⟨t',l',rfl,i,ei,⟨l3,ep,z⟩ | z⟩:=z
  ·have et:tgOf τ i=a:=by
    unfold tgOf;rw[L.h1 i j _ ei q]
   have:=(fin.at' i l3 ep).1;rw[et] at this;exact hn this
  ·cases z
 ·rcases ha with ha | ⟨i,z⟩
  ·obtain⟨a',vs',ea,_,e2,_⟩:=G.sl j _ _ e0 q;cases ea;rw[ha] at e2;cases e2
  ·obtain⟨j',e1,v'⟩:=abg G L z;have:=G.inj j' j a v' v;subst this;exact hno t l2 rfl i e1
theorem aht(G:Good K tg F H ρ σ)(L:Lent K F σ τ js ds)(fin:Fin K F' H' τ ps O'){r:Rv}{v:V}(h:relR K r v H (Own (lend ρ js ds) τ) F' H' O'):relR K r v H (Own ρ σ) F' H' (Own (putB ρ js ps) σ):=by
 cases r with
 | v d=>exact h
 | fr l =>
  obtain⟨a,vs,rfl,ha,hf,hh,hl,hn⟩:=h;exact⟨a,vs,rfl,ha.imp id (aah G L),hf,hh,hl,aqq G L fin ha hn⟩
 | tf d l =>
  obtain⟨t,u,a,vs,rfl,ht,hd,ha,hf,hh,hl,hn⟩:=h;exact⟨t,u,a,vs,rfl,ht,hd,ha.imp id (aah G L),hf,hh,hl,aqq G L fin ha hn⟩
end
abbrev Fd:=Ro->Option (Out Rv×Ro)
def fnD(nl np:Nat)(g:Sd):Fd:=fun as=>match g (as++List.replicate (nl - np) .emp) with
 | some (.ret r,ρ)=>some (.ok r,ρ.take np)
 | some (.nx,ρ)=>some (.ok (.v .non),ρ.take np)
 | some (.exc x,ρ)=>some (.exc x,ρ.take np)
 | _=>none
def spOf(K:Fg9)(n:Nat)(f:Fd):Sp:=fun vs H Q _=>vs.length=n/\∃F as r ps,Good K (tgOf (vs.map some)) F H as (vs.map some)/\f as=some (.ok r,ps) /\
 ∀v H' F' O',Same F' H'->Ext (Own as (vs.map some)) O' F H F' H'->Fin K F' H' (vs.map some) ps O'->relR K r v H (Own as (vs.map some)) F' H' O'->Q v H'
section
variable{K:Fg9}
theorem avu{as:Ro}{τ:L2.St}{n:Nat}{a:Addr}(hl:as.length=τ.length)(h:Own (as++List.replicate n .emp) (τ++List.replicate n none) a):Own as τ a:=by
 obtain⟨i,⟨t,l,e⟩,q⟩:=h
 by_cases hi:i < as.length
 ·rw[List.getElem?_append_left hi] at e;rw[List.getElem?_append_left (by omega)] at q
  exact⟨i,⟨t,l,e⟩,q⟩
 ·rw[List.getElem?_append_right (by omega),List.getElem?_replicate] at e
  split at e <;> cases e
theorem ar4{as:Ro}{τ:L2.St}{n:Nat}{a:Addr}(hl:as.length=τ.length)(h:Own as τ a):Own (as++List.replicate n .emp) (τ++List.replicate n none) a:=by
 obtain⟨i,⟨t,l,e⟩,q⟩:=h;have hi:=(List.getElem?_eq_some_iff.mp e).1;exact⟨i,⟨t,l,by rw[List.getElem?_append_left hi];exact e⟩,by rw[List.getElem?_append_left (by omega)];exact q⟩
theorem zg{as:Ro}{τ:L2.St}{n:Nat}(hl:as.length=τ.length):Own (as++List.replicate n .emp) (τ++List.replicate n none)=Own as τ:=funext fun a=>propext ⟨avu hl,ar4 hl⟩
theorem Good.app{tg:Nat->Addr}{F H:Hp}{as:Ro}{τ:L2.St}(G:Good K tg F H as τ)(n:Nat):Good K tg F H (as++List.replicate n .emp) (τ++List.replicate n none) where
 sub:=G.sub
 len:=by rw[List.length_append,List.length_append,G.len,List.length_replicate,List.length_replicate]
 sl:=fun i s o e q=>by
  have hl:=G.len
  by_cases hi:i < as.length
  ·rw[List.getElem?_append_left hi] at e;rw[List.getElem?_append_left (by omega)] at q
   exact G.sl i s o e q
  ·rw[List.getElem?_append_right (by omega),List.getElem?_replicate] at e
   split at e
   ·cases e;trivial
   ·cases e
 inj:=fun i j a w w'=>by
  have hl:=G.len;have f:∀k,Owns (as++List.replicate n .emp) (τ++List.replicate n none) k a->Owns as τ k a:=fun k ⟨⟨t,l,e⟩,q⟩=>by
   by_cases hi:k < as.length
   ·rw[List.getElem?_append_left hi] at e;rw[List.getElem?_append_left (by omega)] at q
    exact⟨⟨t,l,e⟩,q⟩
   ·rw[List.getElem?_append_right (by omega),List.getElem?_replicate] at e
    split at e <;> cases e
  exact G.inj i j a (f i w) (f j w')
theorem a4z{P:Program}{w:World}{mg:Str->Option Value}{base:Heap}{x qual:Str}{st:Stmt}{f:Addr}{fd:FuncData}{N ps:List Str}{k:Nat}{g:Sd}(F:Fun K x qual st f fd)(S:FnScope N ps (aj st))
  (body:∀(cdv:Value) (A:Around) (outer:List Env) (s:Shared) (H:Hp) (E:XK),Room k (A.deeper (envOfC qual (aj st) s.heap.objs.size f cdv))->SVs K (cxOf CX0 P w K mg base N qual (aj st) f cdv A outer s H E).nox (cz st) g) :
  FnOk P w K mg base CX0 (k+1) f fd ps (spOf K ps.length (fnD N.length ps.length g)):=by
 refine F.ok S (fun vs H Q E h=>h.1) (fun cdv A outer s H vs Q E hr h=>⟨_,body cdv A outer s H E hr rfl,?_⟩)
 obtain⟨hn,F,as,r,ps',G,em,q⟩:=h;have hl:as.length=(vs.map some).length:=G.len;have G1:=G.app (N.length - vs.length);have es:start N vs=vs.map some++List.replicate (N.length - vs.length) none:=rfl;rw[es];unfold fnD at em;rw[<-hn] at em;have fin:∀{ρ':Ro} {σ':L2.St} {F' H':Hp},Good K (tgOf (vs.map some)) F' H' ρ' σ'->Fin K F' H' (vs.map some) (ρ'.take vs.length) (Own ρ' σ'):=fun{ρ' σ' F' H'} G'=>⟨fun i l e=>by
  have hi:=(List.getElem?_eq_some_iff.mp e).1;rw[List.length_take] at hi;rw[List.getElem?_take_of_lt (by omega)] at e
  obtain⟨o,ho,a,ws,rfl,hf,hh,hl,ht⟩:=G'.at e;rw[ht i rfl];exact⟨⟨i,⟨_,_,e⟩,ho⟩,hf,ws,hh,hl⟩⟩
 split at em
 ·rename_i r' ρ' e;cases em;refine⟨_,F,_,.ret r,ρ',G1,e,fun v σ' H' F' G' x' rr =>?_⟩
  rw[zg hl] at x' rr;exact q v H' F' (Own ρ' σ') G'.sub x' (fin G') rr
 ·rename_i ρ' e;cases em;refine⟨_,F,_,.nx,ρ',G1,e,fun σ' H' F' G' x' =>?_⟩
  rw[zg hl] at x';exact q .non H' F' (Own ρ' σ') G'.sub x' (fin G') .non
 ·cases em
 ·cases em
end
section
variable{K:Fg9}{X:Cx}{e a b c tgt iter elt:Expr}{es:List Expr}{pos p p2:Pos}
inductive AR (K:Fg9) (F:Hp) (σ:L2.St):List (Option Nat)->List (Option D)->List V->Prop
 | nil:AR K F σ [] [] []
 | ex {d:D} {v:V} {js:List (Option Nat)} {ds:List (Option D)} {vs:List V} (h:Is K F d v) (t:AR K F σ js ds vs):AR K F σ (none::js) (some d::ds) (v::vs)
 | nm {j:Nat} {v:V} {js:List (Option Nat)} {ds:List (Option D)} {vs:List V} (h:σ[j]? = some (some v)) (t:AR K F σ js ds vs):AR K F σ (some j::js) (none::ds) (v::vs)
theorem AR.lent{F:Hp}{σ:L2.St}:∀{js:List (Option Nat)} {ds:List (Option D)} {vs:List V},AR K F σ js ds vs->Lent K F σ (vs.map some) js ds
 | _,_,_,.nil=>⟨rfl,rfl,fun i j o h=>by simp at h,fun i d h=>by simp at h⟩
 | _,_,_,.ex h t=>by
  have L:=t.lent;refine⟨by simp[by simpa using L.l1],by simp[L.l2],fun i j o h q =>?_,fun i d h q =>?_⟩
  ·cases i with
   | zero=>simp at h
   | succ i=>simpa using L.h1 i j o (by simpa using h) q
  ·cases i with
   | zero=>simp at q;subst q;exact⟨_,rfl,‹_›⟩
   | succ i=>simpa using L.h2 i d (by simpa using h) (by simpa using q)
 | _,_,_,.nm h t=>by
  have L:=t.lent;refine⟨by simp[by simpa using L.l1],by simp[L.l2],fun i j o h' q =>?_,fun i d h' q =>?_⟩
  ·cases i with
   | zero =>
    simp at h';subst h';rw[h] at q;cases q;rfl
   | succ i=>simpa using L.h1 i j o (by simpa using h') q
  ·cases i with
   | zero=>simp at h'
   | succ i=>simpa using L.h2 i d (by simpa using h') (by simpa using q)
theorem AR.length{F:Hp}{σ:L2.St}{js:List (Option Nat)}{ds:List (Option D)}{vs:List V}(h:AR K F σ js ds vs):vs.length=js.length:=by
 have:=h.lent.l1
 simpa using this
theorem AR.mono{F F':Hp}{σ:L2.St}(g:Same F F'):∀{js:List (Option Nat)} {ds:List (Option D)} {vs:List V},AR K F σ js ds vs->AR K F' σ js ds vs
 | _,_,_,.nil=>.nil
 | _,_,_,.ex h t=>.ex (h.mono g) (t.mono g)
 | _,_,_,.nm h t=>.nm h (t.mono g)
def TAg(K:Fg9)(js:List (Option Nat))(m:M (List (Option D))):TA:=fun σ H Q=>∃tg F ρ ds ρ',Good K tg F H ρ σ/\m ρ=some (.ok ds,ρ')/\∀vs H' F',Good K tg F' H' ρ' σ->Ext (Own ρ σ) (Own ρ' σ) F H F' H'->AR K F' σ js ds vs->Q vs H'
structure EG (K:Fg9) (X:Cx) (es:List Expr) (js:List (Option Nat)) (m:M (List (Option D))):Prop where
 go:X.K=K->PA X es (TAg K js m)
instance {K:Fg9} {X:Cx} {es:List Expr} {js:List (Option Nat)} {m:M (List (Option D))}:CoeFun (EG K X es js m) fun _=>X.K=K->PA X es (TAg K js m):=⟨EG.go⟩
def jc:M (List (Option D)):=ret []
def bc(m:M D)(ms:M (List (Option D))):M (List (Option D)):=m.bind fun d=>ms.bind fun ds=>ret (some d::ds)
def dg(j:Nat)(ms:M (List (Option D))):M (List (Option D)):=(gf j).bind fun _=>ms.bind fun ds=>ret (none::ds)
theorem dj:EG K X [] [] jc:=EG.mk fun _=>PA.imp age fun σ H Q hq0=>by
 obtain⟨tg,F,ρ,ds,ρ',G,em,q⟩:=hq0;obtain⟨rfl,rfl⟩:=j9 em;exact q [] H F G (Ext.refl _ _ _) .nil
theorem eg_v{m:M D}{js:List (Option Nat)}{ms:M (List (Option D))}(h:EV K X e m)(t:EG K X es js ms)(hs:starEach (e::es) X.env=(false,eval e X.env)::starEach es X.env:=by rfl):EG K X (e::es) (none::js) (bc m ms):=EG.mk fun hk=>PA.imp (yh (h hk) (t hk) hs) fun σ H Q hq0=>by
 obtain⟨tg,F,ρ,ds,ρ',G,em,q⟩:=hq0;obtain⟨d,ρ1,e1,em⟩:=aq em;obtain⟨r,ρ2,e2,em⟩:=aq em;obtain⟨rfl,rfl⟩:=j9 em;exact⟨tg,F,ρ,d,ρ1,G,e1,fun v H1 F1 G1 x1 r1=>⟨tg,F1,ρ1,r,_,G1,e2,fun vs H2 F2 G2 x2 r2=>q _ H2 F2 G2 (x1.trans x2) (.ex (r1.mono x2.sub) r2)⟩⟩
theorem eg_n{j:Nat}{js:List (Option Nat)}{ms:M (List (Option D))}(h:PE X e (tVar j))(t:EG K X es js ms)(hs:starEach (e::es) X.env=(false,eval e X.env)::starEach es X.env:=by rfl):EG K X (e::es) (some j::js) (dg j ms):=EG.mk fun hk=>PA.imp (yh h (t hk) hs) fun σ H Q hq0=>by
 obtain⟨tg,F,ρ,ds,ρ',G,em,q⟩:=hq0;obtain⟨d0,ρ0,e0,em⟩:=aq em;obtain⟨r,ρ2,e2,em⟩:=aq em;obtain⟨rfl,rfl⟩:=j9 em;obtain⟨rfl,v,hv,_⟩:=qu G e0;exact⟨v,hv,tg,F,ρ0,r,_,G,e2,fun vs H2 F2 G2 x2 r2=>q _ H2 F2 G2 x2 (.nm hv r2)⟩
def mFn(f:Fd)(js:List (Option Nat))(ms:M (List (Option D))):M Rv:=ms.bind fun ds ρ=>if okJs ρ js=true then match f (lend ρ js ds) with
  | some (.ok r,ps)=>some (.ok r,putB ρ js ps)
  | some (.exc x,ps)=>some (.exc x,putB ρ js ps)
  | none=>none
 else none
theorem azi{f:Fd}{js:List (Option Nat)}{ms:M (List (Option D))}{ρ ρ':Ro}{r:Rv}(h:mFn f js ms ρ=some (.ok r,ρ')):∃ds ρ1 ps,ms ρ=some (.ok ds,ρ1)/\okJs ρ1 js=true/\f (lend ρ1 js ds)=some (.ok r,ps)/\ρ'=putB ρ1 js ps:=by
 obtain⟨ds,ρ1,e1,em⟩:=aq h;have em:(if okJs ρ1 js=true then match f (lend ρ1 js ds) with
  | some (.ok r,ps)=>some (Out.ok r,putB ρ1 js ps)
  | some (.exc x,ps)=>some (.exc x,putB ρ1 js ps)
  | none=>none
  else none)=some (.ok r,ρ'):=em
 split at em
 ·rename_i hk;split at em
  ·rename_i r' ps e2;cases em;exact⟨ds,ρ1,ps,e1,hk,e2,rfl⟩
  ·cases em
  ·cases em
 ·cases em
theorem ji{f:Fd}{n k:Nat}{x:Str}{pn:List Str}{js:List (Option Nat)}{ms:M (List (Option D))}(F:Dfn X.prog X.w X.K X.mg X.base x pn k (spOf K n f))(hr:Room k X.A)(hg:Gl X x)(ha:EG K X (e::es) js ms)(hn:js.length=n:=by rfl)(hdb:(x==("__debug__" : Str))=false:=by decide)
  (he:starEach (e::es) X.env=(false,eval e X.env)::starEach es X.env:=by rfl) (hpl:(backTo pos (starEach es X.env)).any (·.1)=false:=by rfl):ER K X (.Call (.Name x p) (e::es) [] pos) (mFn f js ms):=ER.mk fun hk=>PE.imp (a3b F hr hg (ha hk) hdb he hpl) fun σ H Q hq0=>by
 obtain⟨tg,F,ρ,r,ρ',G,em,q⟩:=hq0;obtain⟨ds,ρ1,ps,e1,hj,e2,rfl⟩:=azi em;refine⟨tg,F,ρ,ds,ρ1,G,e1,fun vs H1 F1 G1 x1 ar =>?_⟩
 have L:=ar.lent;show spOf K n f (vs++[]) H1 Q E0;rw[List.append_nil];refine⟨by rw[ar.length];exact hn,F1,_,r,ps,acu G1 hj L,e2,fun v H' F' O' s' x' fin rr =>?_⟩
 exact q v H' F' (ac5 G1 L x' s' fin) (x1.trans (aeg G1 L x')) (p7 x1 (aht G1 L fin rr))
structure EIf (K:Fg9) (X:Cx) (ifs:List Expr) (m:M Bool):Prop where
 go:X.K=K->PIf X ifs (TB K m)
instance {K:Fg9} {X:Cx} {ifs:List Expr} {m:M Bool}:CoeFun (EIf K X ifs m) fun _=>X.K=K->PIf X ifs (TB K m):=⟨EIf.go⟩
theorem uf:EIf K X [] (ret true):=EIf.mk fun _ zv s σ H Q I hq0=>by
 obtain⟨tg,F,ρ,k,ρ',G,em,q⟩:=hq0;obtain⟨rfl,rfl⟩:=j9 em;exact ave zv s σ H Q I (q H F G (Ext.refl _ _ _))
theorem afo{m:M Bool}(h:ET K X c m):EIf K X [c] m:=EIf.mk fun hk=>avd (h hk)
def compD(b:D->Ro->Option Ro)(mc:M Bool)(me:M D):List D->List D->M (List D)
 | [],ys=>ret ys
 | d::ds,ys=>fun ρ=>match b d ρ with
  | none=>none
  | some ρ1=>(mc.bind fun k=>if k=true then me.bind fun y=>compD b mc me ds (ys++[y]) else compD b mc me ds ys) ρ1
theorem afr{b:D->Ro->Option Ro}{mc:M Bool}{me:M D}:∀{l ys yf:List D} {ρ ρ':Ro},compD b mc me l ys ρ=some (.ok yf,ρ')->ys.length<=yf.length
 | [],ys,yf,ρ,ρ',h=>by
  obtain⟨rfl,_⟩:=j9 (show ret ys ρ=_ from h)
  exact Nat.le_refl _
 | d::ds,ys,yf,ρ,ρ',h=>by
  unfold compD at h;split at h
  ·cases h
  ·obtain⟨k,ρ2,e2,h⟩:=aq h;split at h
   ·obtain⟨y,ρ3,e3,h⟩:=aq h;have:=afr h;rw[List.length_append] at this;omega
   ·exact afr h
def xg(src:List (Option Nat))(mi:M (List D))(b:D->Ro->Option Ro)(mc:M Bool)(me:M D):M Rv:=mi.bind fun l ρ=>if okJs ρ src=true then match compD b mc me l [] (lend ρ src (src.map fun _=>none)) with
  | some (.ok ys,ps)=>if ys.length<=capS then some (.ok (.fr ys),putB ρ src ps) else none
  | some (.exc x,ps)=>some (.exc x,putB ρ src ps)
  | none=>none
 else none
theorem ase{src:List (Option Nat)}{mi:M (List D)}{b:D->Ro->Option Ro}{mc:M Bool}{me:M D}{ρ ρ':Ro}{r:Rv}(h:xg src mi b mc me ρ=some (.ok r,ρ')):∃l ρ1 ys ps,mi ρ=some (.ok l,ρ1)/\okJs ρ1 src=true/\compD b mc me l [] (lend ρ1 src (src.map fun _=>none))=some (.ok ys,ps)/\ys.length<=capS/\r=.fr ys/\ρ'=putB ρ1 src ps:=by
 obtain⟨l,ρ1,e1,em⟩:=aq h;have em:(if okJs ρ1 src=true then match compD b mc me l [] (lend ρ1 src (src.map fun _=>none)) with
  | some (.ok ys,ps)=>if ys.length<=capS then some (Out.ok (Rv.fr ys),putB ρ1 src ps) else none
  | some (.exc x,ps)=>some (.exc x,putB ρ1 src ps)
  | none=>none
  else none)=some (.ok r,ρ'):=em
 split at em
 ·rename_i hk;split at em
  ·rename_i ys ps e2;split at em
   ·rename_i hz;cases em;exact⟨l,ρ1,ys,ps,e1,hk,e2,hz,rfl,rfl⟩
   ·cases em
  ·cases em
  ·cases em
 ·cases em
theorem aoo{F:Hp}{σ:L2.St}(src:List (Option Nat)):Lent K F σ (pick src σ) src (src.map fun _=>none):=by
 refine⟨by simp[pick],by simp,fun i j o h q =>?_,fun i d h q =>?_⟩
 ·unfold pick;rw[List.getElem?_map,h];show some ((σ[j]?).bind id)=some o;rw[q];rfl
 ·rw[List.getElem?_map,h] at q;cases q
theorem Ext.upd{O O':Addr->Prop}{F H F' H':Hp}{d:Addr}{o:HO}(x:Ext O O' F H F' H')(h:H d=none):Ext O O' F H F' (upd H' d o) :=
 ⟨x.sub,x.new,fun a u e n=>by rw[cu (gr e h)];exact x.keep a u e n,x.own,fun a e=>by
  by_cases ha:a=d
  ·subst ha;exact h
  ·rw[cu ha] at e;exact x.there a e⟩
theorem Good.upd{tg:Nat->Addr}{F H:Hp}{ρ:Ro}{σ:L2.St}{d:Addr}(G:Good K tg F H ρ σ)(hf:F d=none)(hn:¬Own ρ σ d)(o:HO)(hi:∀C dx fs,H d≠some (.ins C dx fs)):Good K tg F (upd H d o) ρ σ :=
 G.grow (Same.refl F) (fun b u e=>by
  have hb:b≠d:=fun z=>by
   subst z;rw[hf] at e;cases e
  rw[cu hb];exact G.sub b u e) (fun a w=>⟨(G.ownAt w).1,by
  have hb:a≠d:=fun z=>hn (z▸w)
  rw[cu hb]⟩) fun a C dx fvs h1 h2=>⟨h1,by
  have hb:a≠d:=fun z=>hi C dx fvs (z▸h2)
  rw[cu hb]⟩
theorem atf{mi:M (List D)}{bb:D->Ro->Option Ro}{mc:M Bool}{me:M D}{src:List (Option Nat)}(σ:L2.St)(H:Hp)(Q:VK)(t:T K (relR K) (xg src mi bb mc me) σ H Q):ax0 (TIt K mi) (TGd K bb) (TB K mc) (T K (relD K) me) src σ H Q:=by
 obtain⟨tg,F,ρ,r,ρ',G,em,q⟩:=t;obtain⟨l,ρ1,yf,ps,e1,hj,e2,hz,rfl,rfl⟩:=ase em;refine⟨tg,F,ρ,l,ρ1,G,e1,fun J H1 F1 G1 x1 Z dd hd =>?_⟩
 have L:Lent K F1 σ (pick src σ) src (src.map fun _=>none):=aoo src
 have Gl:=acu G1 hj L;have own0:¬Own (lend ρ1 src (src.map fun _=>none)) (pick src σ) dd:=fun z=>Gl.own_ne hd z rfl
 refine atg Z (fun i ys σc Hc=>∃Fc ρc yd,Good K (tgOf (pick src σ)) Fc Hc ρc σc/\Ext (Own (lend ρ1 src (src.map fun _=>none)) (pick src σ)) (Own ρc σc) F1 H1 Fc Hc/\Fc dd=none/\¬Own ρc σc dd/\Hc dd=some (.lst ys)/\IsL K Fc yd ys/\compD bb mc me (l.drop i) yd ρc=some (.ok yf,ps))
  ⟨F1,_,[],Gl.upd (G1.freeF hd) own0 _ (fun _ _ _ z=>by rw[hd] at z;cases z),(Ext.refl _ _ _).upd hd,G1.freeF hd,own0,ir,.nil,e2⟩ ?_ ?_ ?_
 ·rintro i ys σc Hc _ ⟨Fc,ρc,yd,Gc,xc,_,_,hdd,_,_⟩
  exact⟨xc.sub.trans Gc.sub,hdd⟩
 ·rintro i d x ys σc Hc0 Hc M hdl ⟨Fc0,ρc,yd,Gc0,xc0,fd0,od0,hdd0,iy0,ec⟩ al hM
  obtain⟨Fc,Gc,xc,_,idl,xa⟩:=al9 Gc0 xc0 xc0.sub al;have iy:=iy0.mono xa.sub;have hlt:i < l.length:=(List.getElem?_eq_some_iff.mp hdl).1;have edl:l[i]=d:=(List.getElem?_eq_some_iff.mp hdl).2;rw[List.drop_eq_getElem_cons hlt,edl] at ec;unfold compD at ec;have step:∀{F2 H2:Hp} {ρ2 ρ3:Ro} {σ2 σ3:L2.St} {F3 H3:Hp},F2 dd=none->¬Own ρ2 σ2 dd->H2 dd=some (.lst ys)->Ext (Own ρ2 σ2) (Own ρ3 σ3) F2 H2 F3 H3->F3 dd=none/\¬Own ρ3 σ3 dd/\H3 dd=some (.lst ys):=fun{F2 H2 ρ2 ρ3 σ2 σ3 F3 H3} h1 h2 h3 x3=>by
   refine⟨?_,fun z =>?_,x3.keep _ _ h3 h2⟩
   ·cases z:F3 dd with
    | none=>rfl
    | some o =>
     rcases x3.new _ _ z with z | z | z
     ·rw[h1] at z;cases z
     ·rw[h3] at z;cases z
     ·exact absurd z h2
   ·rcases x3.own _ z with z | z
    ·exact h2 z
    ·rw[h3] at z;cases z
  obtain⟨fd,od,hdd⟩:=step fd0 od0 hdd0 xa;split at ec
  ·cases ec
  ·rename_i ρ2 eb;refine⟨_,Fc,ρc,d,ρ2,Gc,idl,eb,fun σ2 H2 F2 G2 x2 =>?_⟩
   obtain⟨k,ρ3,ek,ec⟩:=aq ec;obtain⟨fd2,od2,hdd2⟩:=step fd od hdd x2;refine⟨_,F2,ρ2,k,ρ3,G2,ek,fun H3 F3 G3 x3 =>?_⟩
   obtain⟨fd3,od3,hdd3⟩:=step fd2 od2 hdd2 x3;cases k with
   | false =>
    refine iteF (hM _ _ _ ⟨F3,ρ3,yd,G3,(xc.trans x2).trans x3,fd3,od3,hdd3,(iy.mono x2.sub).mono x3.sub,ec⟩)
   | true =>
    obtain⟨y,ρ4,ey,ec⟩:=aq ec;refine iteT ⟨_,F3,ρ3,y,ρ4,G3,ey,fun v H4 F4 G4 x4 iv =>?_⟩
    obtain⟨fd4,od4,hdd4⟩:=step fd3 od3 hdd3 x4;refine⟨hdd4,?_,hM _ _ _ ⟨F4,ρ4,yd++[y],G4.upd fd4 od4 _ (fun _ _ _ z=>by rw[hdd4] at z;cases z),(((xc.trans x2).trans x3).trans x4).upd hd,fd4,od4,ir,?_,ec⟩⟩
    ·have:=afr ec;rw[List.length_append,iy.length] at this;rw[sizeLine_eq];exact Nat.lt_of_lt_of_le (by simpa using Nat.lt_succ_self ys.length) (Nat.le_trans this hz)
    ·exact(((iy.mono x2.sub).mono x3.sub).mono x4.sub).append (.cons iv .nil)
 ·rintro ys σc Hc ⟨Fc,ρc,yd,Gc,xc,fd,od,hdd,iy,ec⟩
  rw[List.drop_eq_nil_of_le (Nat.le_refl _)] at ec;obtain⟨rfl,rfl⟩:=j9 (show ret yd ρc=_ from ec)
  have fin:Fin K Fc Hc (pick src σ) ps (Own ps σc):=⟨fun i l' e=>by
   obtain⟨o,ho,a,ws,rfl,hf,hh,hl,ht⟩:=Gc.at e;rw[ht i rfl];exact⟨⟨i,⟨_,_,e⟩,ho⟩,hf,ws,hh,hl⟩⟩
  refine q _ Hc Fc (ac5 G1 L xc Gc.sub fin) (x1.trans (aeg G1 L xc)) ⟨dd,ys,rfl,.inl (x1.there dd hd),fd,hdd,iy,fun⟨j,w⟩ =>?_⟩
  exact G1.own_ne hd ⟨j,abn w⟩ rfl
theorem my{ifs:List Expr}{scope:Scope}{mi:M (List D)}{bb:D->Ro->Option Ro}{mc:M Bool}{me:M D}(fr N:List Str)(src:List (Option Nat))(hc:X.calm=true)(hi:IT K X tgt iter mi)
  (hg:∀fp s H,GV K (cxC X N scope fr fp s H) tgt bb) (ht:∀fp s H,EIf K (cxC X N scope fr fp s H) ifs mc) (he:∀fp s H,EV K (cxC X N scope fr fp s H) elt me)
  (hok:alz X.env X.N scope fr N src=true:=by rfl) (hkind:scope.kind=.function:=by rfl) (hclos:closureFor scope X.env=pure (aa8 X.env fr):=by rfl)
  (hs:∀x,foldedSetIterable iter X.env x=pure x:=by intro _;rfl):ER K X (.ListComp elt [⟨tgt,iter,ifs,0⟩] scope pos) (xg src mi bb mc me):=ER.mk fun hk=>by
 have hkc:∀fp s H,(cxC X N scope fr fp s H).K=K:=fun _ _ _=>hk
 refine PE.imp (avp fr N src hc (hi hk) (fun fp s H=>(hg fp s H).go (hkc _ _ _)) (fun fp s H=>(ht fp s H).go (hkc _ _ _)) (fun fp s H=>(he fp s H).go (hkc _ _ _)) hok hkind hclos hs) atf
end
end Dn
namespace Mn
open L2
end Mn
namespace Dn
open L2 Mn
section
variable{K:Fg9}{X:Cx}{tgt iter elt:Expr}{pos p:Pos}
end
@[irreducible] def fuel:Nat:=1000000000
section
variable{K:Fg9}{X:Cx}{e a b c:Expr}{es:List Expr}{pos p p2:Pos}
def apn(neg:Bool):D->List D->Option D
 | .int i,[.int x,.int y]=>some (.bl (if neg then !(decide (x<=i)&&decide (i < y)) else (decide (x<=i)&&decide (i < y))))
 | _,_=>none
def azf(neg:Bool)(m1:M D)(m2:M (List D)):M D:=m1.bind fun x=>m2.bind fun ds=>lift (apn neg x ds)
def isN:D->Bool
 | .non=>true
 | _=>false
def mIsN(neg:Bool)(m:M D):M D:=m.bind fun d=>ret (.bl (if neg then !isN d else isN d))
end
def akz(f:Fd):Prop:=∀ns:List Int,ns.length<=63->∃ps,f [.val (.kst (ns.map D.int))]=some (.ok (.v (.bl true)),ps)
theorem ax4{K:Fg9}{f:Fd}(h:akz f)(H:Hp)(a:Addr)(ns:List Int)(hn:ns.length<=63)(hS:SqL K H a (ns.map V.int)):spOf K 1 f [.ref a] H (fun v _=>v=.bl true) fun _ _ _=>False:=by
 obtain⟨ps,e⟩:=h ns hn;refine⟨rfl,H,_,_,ps,⟨Same.refl H,rfl,fun i s o e1 e2 =>?_,fun i j b ⟨⟨t,l,e1⟩,_⟩ _=>by cases i <;> simp at e1⟩,e,fun v H' F' O' _ _ _ rr =>?_⟩
 ·cases i with
  | zero =>
   simp at e1 e2;subst e1 e2;exact⟨_,rfl,.kst hS (aed ns)⟩
  | succ i=>simp at e1
 ·have rr:Is K F' (.bl true) v:=rr;cases rr;rfl
theorem walk{l:PySem.W.OpenLaw}{q:Program}{loose:List Str}{XP:(Str->Option Value)->Heap->Prop}{YP:World->Heap->Prop}{d:DefRec}{K:Params->Fg9}{f:Fd}{k:Nat}(ht:akz f)(hn:l.most=some 63)(hdf:d.params.defaults=[])(hr:Room k callerA)
  (hY:∀(w:World) (h:Heap),YP w h->(K w.params).In h)
  (F:∀(w:World) (mg:Str->Option Value) (fa:Addr) (h:Heap),(K w.params).In h->h.Ns mainGlobals mg->mg d.name=some (.ref fa) ->
   ∃fd:FuncData,(∀(s:Shared) (u:Value),BindsTo s fd ⟨[u],[]⟩ [("script", u)])/\∀base:Heap,(K w.params).In base->base.Ns mainGlobals mg->FnOk l.prog w (K w.params) mg base CX0 k fa fd ["script"] (spOf (K w.params) 1 f)) :
  PySem.W.WalkO q loose XP YP l.row.toRowW d [] (fun f vs=>PySem.call f vs) :=
 L2.aul (n:=63) (k:=k) (x := "script") (CX:=fun _=>CX0) (sp:=fun w=>spOf (K w.params) 1 f) hn (by decide) hdf hr hY F (fun _ H a ns hl _ hS=>ax4 ht H a ns hl hS) fun _ _ _ _ _ z=>z
section
variable{α β:Type}(ρ:Ro)
@[simp] theorem a6c(a:α):ret a ρ=some (.ok a,ρ):=rfl
@[simp] theorem a4c(o:Option α):lift o ρ=match o with
 | some a=>some (.ok a,ρ)
 | none=>none:=rfl
@[simp] theorem a5s(m:M α)(k:α->M β):M.bind m k ρ=match m ρ with
 | some (.ok a,ρ1)=>k a ρ1
 | some (.exc x,ρ1)=>some (.exc x,ρ1)
 | none=>none:=rfl
@[simp] theorem v_ap(m:M D):M.v m ρ=(m.bind fun d=>ret (.v d)) ρ:=rfl
@[simp] theorem d_ap(m:M Rv):M.d m ρ=(m.bind fun r=>ret r.d) ρ:=rfl
@[simp] theorem a6v(d:D):(Rv.v d).d=d:=rfl
@[simp] theorem a6b(l:List D):(Rv.fr l).d=.lst l:=rfl
@[simp] theorem a6a(d:D)(l:List D):(Rv.tf d l).d=.tup [d,.lst l]:=rfl
@[simp] theorem a6u(d:D):(Rv.v d).sl=.val d:=rfl
@[simp] theorem a5z(l:List D):(Rv.fr l).sl=.own none l:=rfl
@[simp] theorem a3g(i:Nat):mVar i ρ=match ρ[i]? with
 | some (.val d)=>some (.ok d,ρ)
 | some (.own none l)=>some (.ok (.lst l),ρ.set i (.val (.lst l)))
 | _=>none:=rfl
@[simp] theorem a00(i:Nat):gf i ρ=match ρ[i]? with
 | some (.val d)=>some (.ok d,ρ)
 | some (.own _ l)=>some (.ok (.lst l),ρ)
 | _=>none:=rfl
@[simp] theorem a07(i:Nat):ait i ρ=match ρ[i]? with
 | some (.val d)=>some (.ok (.v d),ρ)
 | some (.own none l)=>some (.ok (.fr l),ρ.set i .emp)
 | _=>none:=rfl
@[simp] theorem a3l(i:Nat):mOwn i ρ=match ρ[i]? with
 | some (.own _ l)=>some (.ok l,ρ)
 | _=>none:=rfl
@[simp] theorem azb(i:Nat)(l':List D):aaz i l' ρ=match ρ[i]? with
 | some (.own t _)=>some (.ok (),List.set ρ i (.own t l'))
 | _=>none:=rfl
@[simp] theorem a05(m1 m2:M D):ik m1 m2 ρ=(m1.bind fun x=>m2.bind fun y=>ret (x,y)) ρ:=rfl
@[simp] theorem azc(i:Nat)(m2:M D):cj i m2 ρ=((gf i).bind fun _=>m2.bind fun y=>(gf i).bind fun x=>ret (x,y)) ρ:=rfl
@[simp] theorem a6g(g:D->D->Option Rv)(m:M (D×D)):mOp g m ρ=(m.bind fun p=>lift (g p.1 p.2)) ρ:=rfl
@[simp] theorem a6e(g:D->Option D)(m:M D):mUn g m ρ=(m.bind fun d=>lift (g d)) ρ:=rfl
@[simp] theorem a3y(m1 m2:M D):mAnd m1 m2 ρ=(m1.bind fun d=>(lift (asB d)).bind fun k=>if k=true then m2 else ret (.bl false)) ρ:=rfl
@[simp] theorem a6f(m1 m2:M D):mOr m1 m2 ρ=(m1.bind fun d=>(lift (asB d)).bind fun k=>if k=true then ret (.bl true) else m2) ρ:=rfl
@[simp] theorem a02(m:M D):abq m ρ=(m.bind fun d=>lift (asB d)) ρ:=rfl
@[simp] theorem aza(g:D->D->Option Rv)(m:M (D×D)):ph g m ρ=abq (mOp g m).d ρ:=rfl
@[simp] theorem a06(m:M Bool):ahd m ρ=(m.bind fun k=>ret (!k)) ρ:=rfl
@[simp] theorem a1f(m1 m2:M Bool):awc m1 m2 ρ=(m1.bind fun k=>if k=true then m2 else ret false) ρ:=rfl
@[simp] theorem a3m(m1 m2:M Bool):mOrB m1 m2 ρ=(m1.bind fun k=>if k=true then ret true else m2) ρ:=rfl
@[simp] theorem a6h(m:M Bool)(m1 m2:M α):mIf m m1 m2 ρ=(m.bind fun k=>if k=true then m1 else m2) ρ:=rfl
@[simp] theorem a6j(c:Prop)[Decidable c](m1 m2:M α):(if c then m1 else m2) ρ=if c then m1 ρ else m2 ρ:=by split <;> rfl
@[simp] theorem a4h(c:Prop)[Decidable c](m1 m2:Sd):(if c then m1 else m2) ρ=if c then m1 ρ else m2 ρ:=by split <;> rfl
@[simp] theorem a6t(b:Bool):asB (.bl b)=some b:=rfl
@[simp] theorem a5x(b:Int):asI (.int b)=some b:=rfl
@[simp] theorem a4p(b:Bool):gNot (.bl b)=some (.bl (!b)):=rfl
@[simp] theorem a1i(b:Int):gNeg (.int b)=some (.int (-b)):=rfl
@[simp] theorem a1x(i j:Int):gAdd (.int i) (.int j)=some (.v (.int (i+j))):=rfl
@[simp] theorem a1v(l k:List D):gAdd (.tup l) (.tup k)=if l.length+k.length<=capS then some (.v (.tup (l++k))) else none:=rfl
@[simp] theorem a1w(l k:List D):gAdd (.lst l) (.lst k)=if l.length+k.length<=capS then some (.fr (l++k)) else none:=rfl
@[simp] theorem a1n(f:Int->Int->Option Int)(i j:Int):gInt f (.int i) (.int j)=(f i j).map fun k=>.v (.int k):=rfl
@[simp] theorem a5d(i j:Int):fSub i j=some (i - j):=rfl
@[simp] theorem a1l(i j:Int):gMul (.int i) (.int j)=(fMul i j).map fun k=>.v (.int k):=rfl
@[simp] theorem a1j(l:List D)(k:Int):gMul (.tup l) (.int k)=if k=1 then some (.v (.tup l)) else if l≠[]/\2<=k/\k < 9223372036854775808/\l.length*k.toNat<=capS then some (.v (.tup (List.replicate k.toNat l).flatten)) else none:=rfl
@[simp] theorem a1k(l:List D)(k:Int):gMul (.lst l) (.int k)=if k.natAbs < 9223372036854775808/\l.length*k.toNat<=capS then some (.fr (List.replicate k.toNat l).flatten) else none:=rfl
@[simp] theorem a1s(f:Int->Int->Bool)(i j:Int):gCmp f (.int i) (.int j)=some (.v (.bl (f i j))):=rfl
@[simp] theorem a3s(t:Ty)(m:M D):mIsi t m ρ=(m.bind fun d=>ret (.bl (isTy t d))) ρ:=rfl
@[simp] theorem azm(f g:Int->Int->Bool)(m1 m2 m3:M D):aiu f g m1 m2 m3 ρ=(m1.bind fun x=>m2.bind fun y=>match x,y with
 | .int i,.int j=>if f i j=true then m3.bind fun z=>match z with
  | .int k=>ret (.bl (g j k))
  | _=>lift none
  else ret (.bl false)
 | _,_=>lift none) ρ:=rfl
@[simp] theorem a3n:mNil ρ=some (.ok [],ρ):=rfl
@[simp] theorem a1c(m:M D)(ms:M (List D)):cg m ms ρ=(m.bind fun d=>ms.bind fun ds=>ret (d::ds)) ρ:=rfl
@[simp] theorem azl(i:Nat)(ms:M (List D)):dw i ms ρ=((gf i).bind fun _=>ms.bind fun ds=>(gf i).bind fun d=>ret (d::ds)) ρ:=rfl
@[simp] theorem a3h(m:M (List D)):mTup m ρ=(m.bind fun ds=>lift (gTup ds)) ρ:=rfl
@[simp] theorem a3p(m:M (List D)):mLst m ρ=(m.bind fun ds=>lift (gLst ds)) ρ:=rfl
@[simp] theorem a1e(g:List D->Option Rv)(m:M (List D)):dz g m ρ=(m.bind fun ds=>lift (g ds)) ρ:=rfl
@[simp] theorem a6m(f:D->Option Rv)(d:D):g1 f [d]=f d:=rfl
@[simp] theorem a6l(f:D->D->Option Rv)(d d':D):g2 f [d,d']=f d d':=rfl
@[simp] theorem azw(l:List D):itemsD (.tup l)=some l:=rfl
@[simp] theorem azx(l:List D):itemsD (.lst l)=some l:=rfl
@[simp] theorem azy(l:List D):itemsD (.kst l)=some l:=rfl
@[simp] theorem a1u(l:List D):gAll (.lst l)=(rz l).map fun bs=>.v (.bl (bs.all id)):=rfl
@[simp] theorem az8(i:Int):apm (.int i)=some (.v (.int i)):=rfl
@[simp] theorem a1o(i:Bool):apm (.bl i)=some (.v (.int (if i then 1 else 0))):=rfl
@[simp] theorem a4s(d:D)(k:Int):gIx d (.int k)=(itemsD d).bind fun l=>(atI l k).map fun x=>.v x:=rfl
@[simp] theorem a3x(m:M D)(ml mh:M (Option Int)):mCut m ml mh ρ=(m.bind fun d=>ml.bind fun lo=>mh.bind fun hi=>lift (gCut d lo hi)) ρ:=rfl
@[simp] theorem a1b(i:Nat)(ml mh:M (Option Int)):ao6 i ml mh ρ=((gf i).bind fun _=>ml.bind fun lo=>mh.bind fun hi=>(gf i).bind fun d=>lift (gCut d lo hi)) ρ:=rfl
@[simp] theorem a04(m:M D):ais m ρ=(m.bind fun d=>lift ((asI d).map some)) ρ:=rfl
@[simp] theorem a1p(l:List D)(lo hi:Option Int):gCut (.tup l) lo hi=some (.v (.tup (cutD l lo hi))):=rfl
@[simp] theorem a1q(l:List D)(lo hi:Option Int):gCut (.lst l) lo hi=some (.fr (cutD l lo hi)):=rfl
@[simp] theorem a1r(l:List D)(lo hi:Option Int):gCut (.kst l) lo hi=some (.fr (cutD l lo hi)):=rfl
@[simp] theorem aze(neg:Bool)(m1:M D)(m2:M (List D)):azf neg m1 m2 ρ=(m1.bind fun x=>m2.bind fun ds=>lift (apn neg x ds)) ρ:=rfl
@[simp] theorem axq(neg:Bool)(i x y:Int):apn neg (.int i) [.int x,.int y]=some (.bl (if neg then !(decide (x<=i)&&decide (i < y)) else (decide (x<=i)&&decide (i < y)))):=rfl
@[simp] theorem a3t(neg:Bool)(m:M D):mIsN neg m ρ=(m.bind fun d=>ret (.bl (if neg then !isN d else isN d))) ρ:=rfl
@[simp] theorem azd(m:M D):xr m ρ=(m.bind fun d=>lift (itemsD d)) ρ:=rfl
@[simp] theorem a3v(g:α->Option β)(m:M α):mGet g m ρ=(m.bind fun ds=>lift (g ds)) ρ:=rfl
@[simp] theorem akj(j:Int):ue [.int j]=if j.natAbs < 4611686018427387904 then some (jx 0 j.toNat) else none:=rfl
@[simp] theorem awi(i j:Int):awj [.int i,.int j]=if i.natAbs < 4611686018427387904/\j.natAbs < 4611686018427387904 then some (jx i (j - i).toNat) else none:=rfl
@[simp] theorem awq(i j:Int):ahk (.int i) (.int j)=if 0 < j/\j < 1000000000000000000000000000000000000000000000000000000000000 then some (.v (.tup [.int (i / j),.int (i % j)])) else none:=rfl
@[simp] theorem a3o(i:Nat)(g:List D->List D->Option (D×List D))(ms:M (List D)):mMut i g ms ρ=((mOwn i).bind fun _=>ms.bind fun ds=>(mOwn i).bind fun l=>(lift (g l ds)).bind fun r=>(aaz i r.2).bind fun _=>ret r.1) ρ:=rfl
@[simp] theorem awu(l:List D)(d:D):aa0 l [d]=if l.length < capS then some (.non,l++[d]) else none:=rfl
@[simp] theorem a1a:jc ρ=some (.ok [],ρ):=rfl
@[simp] theorem azh(m:M D)(ms:M (List (Option D))):bc m ms ρ=(m.bind fun d=>ms.bind fun ds=>ret (some d::ds)) ρ:=rfl
@[simp] theorem azg(j:Nat)(ms:M (List (Option D))):dg j ms ρ=((gf j).bind fun _=>ms.bind fun ds=>ret (none::ds)) ρ:=rfl
@[simp] theorem a6i(f:Fd)(js:List (Option Nat))(ms:M (List (Option D))):mFn f js ms ρ=(ms.bind fun ds ρ=>if okJs ρ js=true then match f (lend ρ js ds) with
  | some (.ok r,ps)=>some (.ok r,putB ρ js ps)
  | some (.exc x,ps)=>some (.exc x,putB ρ js ps)
  | none=>none
 else none) ρ:=rfl
@[simp] theorem a1d(src:List (Option Nat))(mi:M (List D))(b:D->Ro->Option Ro)(mc:M Bool)(me:M D):xg src mi b mc me ρ=(mi.bind fun l ρ=>if okJs ρ src=true then match compD b mc me l [] (lend ρ src (src.map fun _=>none)) with
  | some (.ok ys,ps)=>if ys.length<=capS then some (.ok (.fr ys),putB ρ src ps) else none
  | some (.exc x,ps)=>some (.exc x,putB ρ src ps)
  | none=>none
 else none) ρ:=rfl
@[simp] theorem a0z:okJs ρ []=true:=rfl
@[simp] theorem ay8(r:List (Option Nat)):okJs ρ (none::r)=okJs ρ r:=rfl
@[simp] theorem ay7(j:Nat)(r:List (Option Nat)):okJs ρ (some j::r)=((match ρ[j]? with
  | some (.own _ _) => !r.contains (some j)
  | _=>true)&&okJs ρ r):=rfl
@[simp] theorem lend_eq(js:List (Option Nat))(ds:List (Option D)):lend ρ js ds=(List.zip js ds).mapIdx fun i p=>aix ρ i p.1 p.2:=rfl
@[simp] theorem axo(i j:Nat)(d:Option D):aix ρ i (some j) d=match ρ[j]? with
  | some (.val d)=>.val d
  | some (.own _ l)=>.own (some i) l
  | _=>.emp:=rfl
@[simp] theorem a4d(i:Nat)(d:D):aix ρ i none (some d)=.val d:=rfl
@[simp] theorem a4e(i:Nat):aix ρ i none none=.emp:=rfl
@[simp] theorem a2w(js:List (Option Nat))(ps:Ro):putB ρ js ps=ρ.mapIdx fun j s=>putS js ps j s:=rfl
@[simp] theorem a2v(js:List (Option Nat))(ps:Ro)(j:Nat)(s:Sl):putS js ps j s=match js.findIdx? (fun o=>o==some j) with
 | none=>s
 | some i=>match s with
  | .own t _=>match ps[i]? with
   | some (.own (some i') l')=>if i'=i then .own t l' else .emp
   | _=>.emp
  | s=>s:=rfl
@[simp] theorem a6o(nl np:Nat)(g:Sd):fnD nl np g ρ=match g (ρ++List.replicate (nl - np) .emp) with
 | some (.ret r,ρ)=>some (.ok r,ρ.take np)
 | some (.nx,ρ)=>some (.ok (.v .non),ρ.take np)
 | some (.exc x,ρ)=>some (.exc x,ρ.take np)
 | _=>none:=rfl
@[simp] theorem a6r:dNx ρ=some (.nx,ρ):=rfl
@[simp] theorem a5n:dBrk ρ=some (.brk,ρ):=rfl
@[simp] theorem a2b:a5m ρ=some (.cont,ρ):=rfl
@[simp] theorem a5h(g k:Sd):dSeq g k ρ=match g ρ with
 | some (.nx,ρ1)=>k ρ1
 | r=>r:=rfl
@[simp] theorem a6w(m:M α)(k:α->Sd):dM m k ρ=match m ρ with
 | some (.ok x,ρ1)=>k x ρ1
 | some (.exc x,ρ1)=>some (.exc x,ρ1)
 | none=>none:=rfl
@[simp] theorem a5i(m:M Rv):dRet m ρ=dM m (fun r ρ=>some (.ret r,ρ)) ρ:=rfl
@[simp] theorem a6s(m:M Bool)(g k:Sd):dIf m g k ρ=dM m (fun z=>if z=true then g else k) ρ:=rfl
@[simp] theorem a2a(m:M α):abt m ρ=dM m (fun _ ρ=>some (.nx,ρ)) ρ:=rfl
@[simp] theorem a5g(i:Nat)(m:M Rv):dSet i m ρ=dM m (fun r ρ=>some (.nx,List.set ρ i r.sl)) ρ:=rfl
@[simp] theorem a5q(m:M D)(b:D->Ro->Option Ro):dAsg m b ρ=dM m (fun d ρ=>(b d ρ).map fun ρ'=>(.nx,ρ')) ρ:=rfl
@[simp] theorem a5j(i j:Nat)(m:M (List D)):dPar i j m ρ=dM m (fun ds ρ=>match ds with
 | [d,d']=>some (.nx,List.set (List.set ρ i (.val d)) j (.val d'))
 | _=>none) ρ:=rfl
@[simp] theorem a5f(i:Nat)(mi m:M D):dSub i mi m ρ=(dM m fun d=>dM (mOwn i) fun _=>dM mi fun k=>dM (mOwn i) fun l=>dM (lift ((asI k).bind (ixN l.length))) fun j=>dM (aaz i (l.set j d)) fun _=>dNx) ρ:=rfl
@[simp] theorem a5o(f:Int->Int->Int)(i:Nat)(m:M D):dAug f i m ρ=(dM (mVar i) fun x=>dM m fun y=>dM (lift ((asI x).bind fun n=>(asI y).map fun k=>D.int (f n k))) fun z ρ=>some (.nx,List.set ρ i (.val z))) ρ:=rfl
@[simp] theorem a5l(m:M (List D))(b:D->Ro->Option Ro)(g:Sd):dFor m b g ρ=dM m (forD b g) ρ:=rfl
@[simp] theorem a2e(i:Nat)(d:D):bh i d ρ=some (List.set ρ i (.val d)):=rfl
@[simp] theorem a5u:bNil [] ρ=some ρ:=rfl
@[simp] theorem a2f(b:D->Ro->Option Ro)(bs:List D->Ro->Option Ro)(d:D)(r:List D):gq b bs (d::r) ρ=(b d ρ).bind (bs r):=rfl
@[simp] theorem a5t(n:Nat)(bs:List D->Ro->Option Ro)(l:List D):bTup n bs (.tup l) ρ=if l.length=n then bs l ρ else none:=rfl
end
section
variable(c:Prop)[Decidable c](b:Bool)(ρ:Ro)
@[simp] theorem a4g:(if c then some (Out.ok (D.bl b),ρ) else some (Out.ok (D.bl false),ρ))=some (.ok (.bl (decide c&&b)),ρ):=by by_cases h:c <;> simp[h]
end
@[simp] theorem bu{n:Nat}(h:n<=1000):n<=capS:=Nat.le_trans h (by decide)
@[simp] theorem a4o(ds:List D):gTup ds=if ds.length<=capS then some (.tup ds) else none:=rfl
@[simp] theorem a4q(ds:List D):gLst ds=if ds.length<=capS then some (.fr ds) else none:=rfl
@[simp] theorem aku{α:Type}(l:List α)(f:α->Bool):rz (l.map fun d=>D.bl (f d))=some (l.map f):=by
 have:=aac (l.map f);rw[List.map_map] at this;exact this
def abr(s:Sl):List D->Sl
 | []=>s
 | d::r=>abr (.val d) r
theorem aa7{me:M D}{rest:Ro}{f:D->D}:∀{l:List D} {ys:List D} {s:Sl},(∀d∈l,me (.val d::rest)=some (.ok (f d),.val d::rest))->compD (bh 0) (ret true) me l ys (s::rest)=some (.ok (ys++l.map f),abr s l::rest)
 | [],ys,s,_=>by simp[compD,abr]
 | d::r,ys,s,h=>by
  have h1:=h d (List.mem_cons_self ..);have ih:=aa7 (me:=me) (rest:=rest) (f:=f) (l:=r) (ys:=ys++[f d]) (s:=.val d) fun x hx=>h x (List.mem_cons_of_mem _ hx)
  simp[compD,h1,ih,abr]
theorem qp{mc:M Bool}{me:M D}{rest:Ro}{p:D->Bool}{f:D->D}:∀{l:List D} {ys:List D} {s:Sl},(∀d∈l,mc (.val d::rest)=some (.ok (p d),.val d::rest))->(∀d∈l,p d=true->me (.val d::rest)=some (.ok (f d),.val d::rest)) ->
  compD (bh 0) mc me l ys (s::rest)=some (.ok (ys++(l.filter p).map f),abr s l::rest)
 | [],ys,s,_,_=>by simp[compD,abr]
 | d::r,ys,s,hc,h=>by
  have h0:=hc d (List.mem_cons_self ..);cases hp:p d with
  | true =>
   have h1:=h d (List.mem_cons_self ..) hp;have ih:=qp (mc:=mc) (me:=me) (rest:=rest) (p:=p) (f:=f) (l:=r) (ys:=ys++[f d]) (s:=.val d) (fun x hx=>hc x (List.mem_cons_of_mem _ hx)) fun x hx=>h x (List.mem_cons_of_mem _ hx)
   simp[compD,h0,h1,ih,abr,hp]
  | false =>
   have ih:=qp (mc:=mc) (me:=me) (rest:=rest) (p:=p) (f:=f) (l:=r) (ys:=ys) (s:=.val d) (fun x hx=>hc x (List.mem_cons_of_mem _ hx)) fun x hx=>h x (List.mem_cons_of_mem _ hx)
   simp[compD,h0,ih,abr,hp]
@[simp] theorem a1y(b:D->Ro->Option Ro)(g:Sd)(ρ:Ro):forD b g [] ρ=some (.nx,ρ):=rfl
theorem qy(b:D->Ro->Option Ro)(g:Sd)(d:D)(ds:List D)(ρ:Ro):forD b g (d::ds) ρ=match b d ρ with
  | none=>none
  | some ρ1=>match g ρ1 with
   | some (.nx,ρ2)=>forD b g ds ρ2
   | some (.cont,ρ2)=>forD b g ds ρ2
   | some (.brk,ρ2)=>some (.nx,ρ2)
   | some (.ret r,ρ2)=>some (.ret r,ρ2)
   | some (.exc x,ρ2)=>some (.exc x,ρ2)
   | none=>none:=rfl
@[simp] theorem a5c{α:Type}(p:α->Bool)(a:α)(l:List α):List.findIdx? p (a::l)=if p a=true then some 0 else (List.findIdx? p l).map (· + 1):=by
 rw[List.findIdx?_cons]
@[simp] theorem a6p{α:Type}(p:α->Bool):List.findIdx? p ([]:List α)=none:=rfl
theorem aje(ns:List Int)(lo hi:Option Int):∃ms:List Int,cutD (ns.map D.int) lo hi=ms.map D.int/\ms.length<=ns.length:=by
 refine⟨(ns.drop (HT.sIx ns.length 0 lo)).take (HT.sIx ns.length ns.length hi - HT.sIx ns.length 0 lo),?_,?_⟩
 ·unfold cutD;rw[List.length_map,List.map_take,List.map_drop]
 ·rw[List.length_take,List.length_drop];omega
theorem aaj{b:D->Ro->Option Ro}{g:Sd}(Inv:Nat->Ro->Prop):∀{l:List D} {ρ:Ro} (k:Nat),Inv k ρ->(∀i d ρ,l[i]? = some d->Inv (k+i) ρ->∃ρ1 ρ2,b d ρ=some ρ1/\(g ρ1=some (.nx,ρ2)∨g ρ1=some (.cont,ρ2))/\Inv (k+i+1) ρ2) ->
  ∃ρ',forD b g l ρ=some (.nx,ρ')/\Inv (k+l.length) ρ'
 | [],ρ,k,h0,_=>⟨ρ,rfl,h0⟩
 | d::r,ρ,k,h0,hs=>by
  obtain⟨ρ1,ρ2,e1,e2,h1⟩:=hs 0 d ρ rfl h0;obtain⟨ρ',e3,h3⟩:=aaj (b:=b) (g:=g) Inv (l:=r) (ρ:=ρ2) (k+1) h1 fun i x ρ hx hi=>by
   have:=hs (i+1) x ρ (by simpa using hx) ((show k+(i+1)=k+1+i by omega)▸hi)
   have e:k+(i+1)+1=k+1+i+1:=by omega
   rw[e] at this;exact this
  refine⟨ρ',?_,?_⟩
  ·rw[qy,e1];rcases e2 with e2 | e2 <;> simp only[e2] <;> exact e3
  ·have e:k+(d::r).length=k+1+r.length:=by simp;omega
   rw[e];exact h3
theorem ni{b:D->Ro->Option Ro}{mc:M Bool}{me:M D}(Inv:Nat->List D->Ro->Prop):∀{l:List D} {ys:List D} {ρ:Ro} (k:Nat),Inv k ys ρ ->
  (∀i d ys ρ,l[i]? = some d->Inv (k+i) ys ρ->∃ρ1 ρ2 z,b d ρ=some ρ1/\mc ρ1=some (.ok z,ρ2)/\((z=false/\Inv (k+i+1) ys ρ2)∨(z=true/\∃y ρ3,me ρ2=some (.ok y,ρ3)/\Inv (k+i+1) (ys++[y]) ρ3))) ->
  ∃ys' ρ',compD b mc me l ys ρ=some (.ok ys',ρ')/\Inv (k+l.length) ys' ρ'
 | [],ys,ρ,k,h0,_=>⟨ys,ρ,rfl,h0⟩
 | d::r,ys,ρ,k,h0,hs=>by
  obtain⟨ρ1,ρ2,z,e1,e2,h1⟩:=hs 0 d ys ρ rfl h0;have nxt:∀{ys':List D} {ρ':Ro},Inv (k+0+1) ys' ρ'->∃ys2 ρ2,compD b mc me r ys' ρ'=some (.ok ys2,ρ2)/\Inv (k+1+r.length) ys2 ρ2:=fun{ys' ρ'} hi =>
   ni (b:=b) (mc:=mc) (me:=me) Inv (l:=r) (ys:=ys') (ρ:=ρ') (k+1) hi fun i x ys ρ hx hi=>by
    have:=hs (i+1) x ys ρ (by simpa using hx) ((show k+(i+1)=k+1+i by omega)▸hi)
    have e:k+(i+1)+1=k+1+i+1:=by omega
    rw[e] at this;exact this
  have el:k+(d::r).length=k+1+r.length:=by simp;omega
  rw[el];rcases h1 with⟨rfl,h1⟩ | ⟨rfl,y,ρ3,e3,h1⟩
  ·obtain⟨ys2,ρ4,e4,h4⟩:=nxt h1;exact⟨ys2,ρ4,by simp[compD,e1,e2,e4],h4⟩
  ·obtain⟨ys2,ρ4,e4,h4⟩:=nxt h1;exact⟨ys2,ρ4,by simp[compD,e1,e2,e3,e4],h4⟩
@[simp] theorem a4t(neg:Bool)(a b:Int):gEq neg (.int a) (.int b)=some (.v (.bl (if neg then !(a==b) else (a==b)))):=rfl
@[simp] theorem a6k(neg:Bool)(a b:Bool):gEq neg (.bl a) (.bl b)=some (.v (.bl (if neg then !(a==b) else (a==b)))):=rfl
section
variable{K:Fg9}{X:Cx}{e a b c:Expr}{es:List Expr}{pos p p2:Pos}
def u9:List D->Option (List Int)
 | []=>some []
 | .int i::r=>(u9 r).map (i :: ·)
 | _::_=>none
theorem aee:∀{l:List D} {ns:List Int},u9 l=some ns->l=ns.map D.int
 | [],_,h=>by cases h;rfl
 | .int b::r,bs,h=>by
  have h':(u9 r).map (b :: ·)=some bs:=h;cases e:u9 r with
  | none=>rw[e] at h';cases h'
  | some t =>
   rw[e] at h';cases h';rw[aee e];rfl
 | .non::_,_,h=>by cases h
 | .bl _::_,_,h=>by cases h
 | .str _::_,_,h=>by cases h
 | .tup _::_,_,h=>by cases h
 | .lst _::_,_,h=>by cases h
 | .kst _::_,_,h=>by cases h
 | .dct _::_,_,h=>by cases h
@[simp] theorem ae6(ns:List Int):u9 (ns.map D.int)=some ns:=by
 induction ns with
 | nil=>rfl
 | cons b r ih=>show(u9 (r.map D.int)).map (b :: ·)=_;rw[ih];rfl
def insI(x:Int):List Int->List Int
 | []=>[x]
 | y::r=>if x<=y then x::y::r else y::insI x r
def sortI:List Int->List Int
 | []=>[]
 | x::r=>insI x (sortI r)
theorem insI_perm(x:Int):∀l:List Int,(insI x l).Perm (x::l)
 | []=>.refl _
 | y::r=>by
  unfold insI;split
  ·exact .refl _
  ·exact((insI_perm x r).cons y).trans (.swap x y r)
theorem sortI_perm:∀l:List Int,(sortI l).Perm l
 | []=>.refl _
 | x::r=>(insI_perm x (sortI r)).trans ((sortI_perm r).cons x)
theorem ae8(x:Int):∀{l:List Int},l.Pairwise (· <= ·)->(insI x l).Pairwise (· <= ·)
 | [],_=>by simp[insI]
 | y::r,h=>by
  unfold insI;rw[List.pairwise_cons] at h;split
  ·rename_i hxy;rw[List.pairwise_cons,List.pairwise_cons];refine⟨fun z hz =>?_,h⟩
   rcases List.mem_cons.mp hz with rfl | hz
   ·exact hxy
   ·exact Int.le_trans hxy (h.1 z hz)
  ·rename_i hxy;rw[List.pairwise_cons];refine⟨fun z hz =>?_,ae8 x h.2⟩
   rcases List.mem_cons.mp ((insI_perm x r).mem_iff.mp hz) with rfl | hz
   ·omega
   ·exact h.1 z hz
theorem ady:∀l:List Int,(sortI l).Pairwise (· <= ·)
 | []=>.nil
 | x::r=>ae8 x (ady r)
theorem af8:∀{l k:List Int},l.Perm k->l.Pairwise (· <= ·)->k.Pairwise (· <= ·)->l=k
 | [],k,h,_,_=>h.nil_eq
 | x::r,[],h,_,_=>absurd h.length_eq (by simp)
 | x::r,y::t,h,hl,hk=>by
  rw[List.pairwise_cons] at hl hk;have e:x=y:=by
   have h1:x∈y::t:=h.mem_iff.mp (List.mem_cons_self ..);have h2:y∈x::r:=h.mem_iff.mpr (List.mem_cons_self ..);rcases List.mem_cons.mp h1 with h1 | h1
   ·exact h1
   ·rcases List.mem_cons.mp h2 with h2 | h2
    ·exact h2.symm
    ·have a:=hk.1 x h1;have b:=hl.1 y h2;omega
  subst e;rw[af8 ((List.perm_cons x).mp h) hl.2 hk.2]
theorem arf{l k:List Int}(h:l.Perm k)(hs:l.Pairwise (· <= ·)):l=sortI k:=af8 (h.trans (sortI_perm k).symm) hs (ady k)
theorem adx:∀{ns:List Int} {us:List Value},IntsAre us ns->Vals (ns.map V.int) us
 | _,_,.nil=>.nil
 | _,_,.cons n t h=>.cons ⟨t,rfl⟩ (adx h)
def apk:D->Option Rv
 | .lst l=>(u9 l).bind fun ns=>if ns.length < 64 then some (.fr ((sortI ns).map D.int)) else none
 | _=>none
def apo(l ds:List D):Option (D×List D):=match ds with
 | [.lst k]=>if l.length+k.length<=capS then some (.non,l++k) else none
 | [.tup k]=>if l.length+k.length<=capS then some (.non,l++k) else none
 | _=>none
@[simp] theorem awp(l k:List D):apo l [.lst k]=if l.length+k.length<=capS then some (.non,l++k) else none:=rfl
@[simp] theorem awo(l k:List D):apo l [.tup k]=if l.length+k.length<=capS then some (.non,l++k) else none:=rfl
end
section
variable{K:Fg9}{X:Cx}{e a b c:Expr}{es:List Expr}{pos p p2:Pos}
def ac4(lt:Int->Int->Bool):List Int->Int
 | []=>0
 | x::r=>r.foldl (fun m y=>if lt y m=true then y else m) x
theorem aqp(lt:Int->Int->Bool)(ns:List Int):∀k,k < ns.length->argBest (fun i j=>lt (ns.getD i 0) (ns.getD j 0)) k<=k/\ns.getD (argBest (fun i j=>lt (ns.getD i 0) (ns.getD j 0)) k) 0=ac4 lt (ns.take (k+1))
 | 0,h=>by
  cases ns with
  | nil=>simp at h
  | cons x r=>exact⟨Nat.le_refl _,rfl⟩
 | k+1,h=>by
  obtain⟨h1,h2⟩:=aqp lt ns k (by omega)
  have ht:ns.take (k+1+1)=ns.take (k+1)++[ns.getD (k+1) 0]:=by
   rw[List.take_add_one,List.getElem?_eq_getElem h];simp[List.getD,List.getElem?_eq_getElem h]
  have hb:ac4 lt (ns.take (k+1+1))=if lt (ns.getD (k+1) 0) (ac4 lt (ns.take (k+1)))=true then ns.getD (k+1) 0 else ac4 lt (ns.take (k+1)):=by
   rw[ht];cases ns with
   | nil=>simp at h
   | cons x r=>simp[ac4,List.foldl_append]
  have ha:argBest (fun i j=>lt (ns.getD i 0) (ns.getD j 0)) (k+1)=if lt (ns.getD (k+1) 0) (ns.getD (argBest (fun i j=>lt (ns.getD i 0) (ns.getD j 0)) k) 0)=true then k+1 else argBest (fun i j=>lt (ns.getD i 0) (ns.getD j 0)) k:=rfl
  rw[hb,<-h2,ha]
  by_cases hc:lt (ns.getD (k+1) 0) (ns.getD (argBest (fun i j=>lt (ns.getD i 0) (ns.getD j 0)) k) 0)=true
  ·rw[if_pos hc,if_pos hc];exact⟨Nat.le_refl _,rfl⟩
  ·rw[if_neg hc,if_neg hc];exact⟨by omega,rfl⟩
theorem atl(lt:Int->Int->Bool)(ns:List Int)(h:ns≠[]):argBest (fun i j=>lt (ns.getD i 0) (ns.getD j 0)) (ns.length - 1) < ns.length/\ns.getD (argBest (fun i j=>lt (ns.getD i 0) (ns.getD j 0)) (ns.length - 1)) 0=ac4 lt ns:=by
 have hl:0 < ns.length:=List.length_pos_iff.mpr h;obtain⟨h1,h2⟩:=aqp lt ns (ns.length - 1) (by omega)
 refine⟨by omega,?_⟩
 rw[h2,show ns.length - 1+1=ns.length by omega,List.take_length]
def a0a(lt:Int->Int->Bool):D->Option Rv
 | .lst l=>(u9 l).bind fun ns=>if ns=[] then none else some (.v (.int (ac4 lt ns)))
 | .tup l=>(u9 l).bind fun ns=>if ns=[] then none else some (.v (.int (ac4 lt ns)))
 | _=>none
theorem akl{lt:Int->Int->Bool}{d:D}{r:Rv}(h:a0a lt d=some r):∃ns:List Int,ns≠[]/\r=.v (.int (ac4 lt ns))/\(d=.lst (ns.map D.int)∨d=.tup (ns.map D.int)):=by
 have go:∀l,(u9 l).bind (fun ns=>if ns=[] then none else some (Rv.v (.int (ac4 lt ns))))=some r->∃ns:List Int,ns≠[]/\r=.v (.int (ac4 lt ns))/\l=ns.map D.int:=fun l h=>by
  cases e:u9 l with
  | none=>rw[e] at h;cases h
  | some ns =>
   rw[e] at h;have h:(if ns=[] then none else some (Rv.v (.int (ac4 lt ns))))=some r:=h
   split at h
   ·cases h
   ·rename_i hn;cases h;exact⟨ns,hn,rfl,aee e⟩
 cases d with
 | lst l=>obtain⟨ns,h1,h2,rfl⟩:=go l h;exact⟨ns,h1,h2,.inl rfl⟩
 | tup l=>obtain⟨ns,h1,h2,rfl⟩:=go l h;exact⟨ns,h1,h2,.inr rfl⟩
 | _=>cases h
theorem ae7{ns:List Int}{its:List Value}(rv:Vals (ns.map V.int) its)(i:Nat)(v:Value)(h:its.toArray[i]? = some v):∃t,v=.int (ns.getD i 0) t:=by
 have h:its[i]? = some v:=by simpa using h
 have hi:i < its.length:=(List.getElem?_eq_some_iff.mp h).1;have hl:=rv.length;rw[List.length_map] at hl;have hi':i < ns.length:=by omega
 obtain⟨u,hu,t,rfl⟩:=rv.get (i:=i) (x:=V.int ns[i]) (by rw[List.getElem?_map,List.getElem?_eq_getElem hi'];rfl)
 rw[h] at hu;cases hu;exact⟨t,by simp[List.getD,List.getElem?_eq_getElem hi']⟩
def awk:D->Option Rv:=a0a fun i j=>decide (i < j)
theorem axb(hc:X.calm=true):CallD K X (.builtin "min") (g1 awk):=aft fun hk zv s σ0 H x u Q tg F ρ σ d r I ru G bd eg q=>by
 subst hk;obtain⟨ns,hn,rfl,hd⟩:=akl eg;have q':=Res.same G q (.int _);obtain⟨hb1,hb2⟩:=atl (fun i j=>decide (i < j)) ns hn
 have fin:∀{its:List Value} (rv:Vals (ns.map V.int) its) {v:Value} {h':Heap} {tk:Nat},its.toArray[argBest (fun i j=>decide (ns.getD i 0 < ns.getD j 0)) (its.toArray.size - 1)]? = some v->(∀b o,s.heap.get? b=some o->h'.get? b=some o)->EP X zv σ0 Q v { s with heap:=h',toks:=tk }:=fun{its} rv {v h' tk} hv hk=>by
  have hl:=rv.length;rw[List.length_map] at hl;rw[List.size_toArray,<-hl] at hv;obtain⟨t,rfl⟩:=ae7 rv _ v hv;exact⟨.int (ac4 (fun i j=>decide (i < j)) ns),H,I.kept hk,⟨t,by rw[hb2]⟩,q'⟩
 rcases hd with rfl | rfl
 ·obtain⟨a,vs,rfl,ea,hl⟩:=bd.lst G.sub;rw[hl.int_inv] at ea;cases ru;obtain⟨its,rv,pl,_⟩:=I.list (SqL.of ea);have hl':=pl.isList;have hlt:a < s.heap.objs.size:=by obtain⟨_,e,_⟩:=hl';exact Heap.lt_size e
  have hlen:=rv.length;rw[List.length_map] at hlen;refine call_min_walk (wpAny_pyIter_list hl' ⟨s.heap.objs.size,[s.heap.objs.size,a],[s.heap.objs.size],its.toArray.size,_,_,_,rfl,Walks.list (A:=X.A.in1) (I.ok.hd hc) _ a (Nat.ne_of_lt hlt) its.toArray,
   ⟨⟨_,Heap.get?_push_size _ rfl,rfl,rfl⟩,hl'.push _⟩,fun b hb =>?_,?_,CmpOf.ints_lt (fun i=>ns.getD i 0) (fun i v=>ae7 rv i v),fun v h' tk hP hk=>fin rv hP (LSm.kept_iter hk)⟩)
  ·have hs:∀o:Obj,(s.heap.push o).objs.size=s.heap.objs.size+1:=fun o=>Heap.size_push ..
   show b < (s.heap.push _).objs.size;rw[hs];rcases List.mem_cons.mp hb with hb | hb
   ·exact hb▸Nat.lt_succ_self _
   ·have hb:b=a:=by simpa using hb
    exact hb▸Nat.lt_succ_of_lt hlt
  ·rw[List.size_toArray,<-hlen];exact List.length_pos_iff.mpr hn
 ·obtain⟨a,vs,rfl,ea,hl⟩:=bd.tup;rw[hl.int_inv] at ea;cases ru;obtain⟨its,rv,pl,_⟩:=I.tuple (SqT.of (G.sub _ _ ea));have hlt:a < s.heap.objs.size:=by obtain⟨_,e,_⟩:=pl;exact Heap.lt_size e
  have hlen:=rv.length;rw[List.length_map] at hlen;refine call_min_walk (wpAny_pyIter_tuple pl ⟨s.heap.objs.size,[s.heap.objs.size,a],[s.heap.objs.size],its.toArray.size,_,_,_,rfl,Walks.tuple (A:=X.A.in1) (I.ok.hd hc) _ a (Nat.ne_of_lt hlt) its.toArray,
   ⟨⟨_,Heap.get?_push_size _ rfl,rfl,rfl⟩,pl.push _⟩,fun b hb =>?_,?_,CmpOf.ints_lt (fun i=>ns.getD i 0) (fun i v=>ae7 rv i v),fun v h' tk hP hk=>fin rv hP (LSm.kept_iter hk)⟩)
  ·have hs:∀o:Obj,(s.heap.push o).objs.size=s.heap.objs.size+1:=fun o=>Heap.size_push ..
   show b < (s.heap.push _).objs.size;rw[hs];rcases List.mem_cons.mp hb with hb | hb
   ·exact hb▸Nat.lt_succ_self _
   ·have hb:b=a:=by simpa using hb
    exact hb▸Nat.lt_succ_of_lt hlt
  ·rw[List.size_toArray,<-hlen];exact List.length_pos_iff.mpr hn
end
section
variable{K:Fg9}{X:Cx}{e a b c:Expr}{es:List Expr}{pos p p2:Pos}
def rmOf(K:Fg9)(g:D->List D->Option D):V->List V->Hp->VK->Prop:=fun x vs H Q=>∃F d ds r,Same F H/\Bor K F H d x/\IsL K F ds vs/\g d ds=some r/\∀v,Is K F r v->Q v H
def awa(i:Nat)(g:D->List D->Option D)(ms:M (List D)):M D:=(gf i).bind fun d0=>(lift (match d0 with
 | .lst _=>some ()
 | _=>none)).bind fun _=>ms.bind fun ds=>(gf i).bind fun d=>lift (g d ds)
theorem aw2{i:Nat}{name:Str}{id:String}{g:D->List D->Option D}{ms:M (List D)}{apos cpos:Pos}(slot:Slot "list" name id)(hty:typeOf (.builtin id)=pure (.type "method_descriptor"))(hm:X.K=K->MtR X id (rmOf K g))(ho:PE X a (tVar i))(ha:ED K X (e::es) ms)
  (hbase:attributeBase a name X.env (eval a X.env)=eval a X.env:=by rfl)
  (hfew:((backTo cpos (starEach (e::es) X.env)).all (fun x => !x.1)&&(backToKw cpos (keywordEach [] X.env)).all (fun x=>x.1.isSome)
   && decide ((e::es).length+([]:List Keyword).length+(if ([]:List Keyword).isEmpty then 0 else 1) < 30))=true:=by rfl)
  (hline:(apos.endLine==cpos.line)=true:=by rfl) (hs:starEach (e::es) X.env=(false,eval e X.env)::starEach es X.env:=by rfl) (hplain:(backTo cpos (starEach es X.env)).any (·.1)=false:=by rfl) :
  EV K X (.Call (.Attribute a name apos) (e::es) [] cpos) (awa i g ms):=EV.mk fun hk=>PE.imp (ayx PySem.F.plainAttrs_list slot hty (hm hk) ho (ha hk) hbase hfew hline hs hplain) fun σ H Q hq0=>by
 obtain⟨tg,F,ρ,d,ρ',G,em,q⟩:=hq0;obtain⟨d0,ρ0,e0,em1⟩:=aq em;obtain⟨u0,ρ9,e9,em2⟩:=aq em1;obtain⟨ds,ρ1,e1,em3⟩:=aq em2;obtain⟨d1,ρ2,e2,em4⟩:=aq em3;obtain⟨e3,rfl⟩:=gj em4;obtain⟨e9,rfl⟩:=gj e9;obtain⟨rfl,v,hv,bv⟩:=qu G e0;have ty:∃b,v=.ref b/\∃xs,SqL X.K H b xs:=by
  cases d0 with
  | lst l =>
   obtain⟨b,xs,rfl,hb,_⟩:=bv.lst G.sub;exact⟨b,rfl,xs,SqL.of hb⟩
  | _=>cases e9
 obtain⟨b,rfl,hty'⟩:=ty;refine⟨_,hv,.inl ⟨rfl,hty'⟩,tg,F,_,ds,ρ1,G,e1,fun vs H1 F1 G1 x1 r1 =>?_⟩
 obtain⟨rfl,v',hv',b'⟩:=qu G1 e2;rw[hv] at hv';cases hv';exact⟨F1,d1,ds,d,G1.sub,b',r1,e3,fun w iw=>q w H1 F1 G1 x1 iw⟩
def aua(d:D)(ds:List D):Option D:=match d,ds with
 | .lst l,[x]=>if okD 30 x&&l.all (okD 30) then some (.int (l.countP fun y=>eqD y x)) else none
 | _,_=>none
def awr(d:D)(ds:List D):Option D:=match d,ds with
 | .tup l,[x]=>if okD 30 x&&l.all (okD 30) then some (.int (l.countP fun y=>eqD y x)) else none
 | _,_=>none
theorem PE.or{t1 t2:TE}(h1:PE X e t1)(h2:PE X e t2):PE X e fun σ H Q=>t1 σ H Q∨t2 σ H Q:=fun zv s σ H Q I h=>h.elim (h1 zv s σ H Q I) (h2 zv s σ H Q I)
def ahl(d:D)(ds:List D):Option D:=match d with
 | .lst _=>aua d ds
 | .tup _=>awr d ds
 | _=>none
def azk(i:Nat)(ms:M (List D)):M D:=(gf i).bind fun d0=>ms.bind fun ds=>(gf i).bind fun d=>(lift (match d0,d with
 | .lst _,.lst _=>some ()
 | .tup _,.tup _=>some ()
 | _,_=>none)).bind fun _=>lift (ahl d ds)
def ai6(d:D)(ds:List D):Option D:=match d,ds with
 | .lst l,[x]=>if okD 30 x&&l.all (okD 30) then (l.findIdx? fun y=>eqD y x).map fun i=>.int i else none
 | _,_=>none
theorem al5{zv:List (Addr×Obj)}{σ:L2.St}{F H:Hp}{s:Shared}(I:Inv X zv σ H s)(g:Same F H){a:D}{n:Nat}{ds:List D}{vs:List V}{us:List Value}(il:IsL X.K F ds vs)(k:ds.all (okD n)=true)(rv:Vals vs us)(i:Nat)(hi:i < us.length)(hd:i < ds.length) :
  aaw s.heap (toPy a) us[i]=eqD ds[i] a:=by
 obtain⟨v,hv,iv⟩:=il.get (i:=i) (List.getElem?_eq_getElem hd);obtain⟨u,hu,ru⟩:=rv.get hv;rw[List.getElem?_eq_getElem hi] at hu;cases hu;have ko:okD n ds[i]=true:=List.all_eq_true.mp k _ (List.getElem_mem hd);obtain⟨as,ra⟩:=aci I g iv ko ru;rw[ahn ra (abv _ _ ko).1];rfl
theorem asa(hu:X.A.units+64 < cLine):X.K=K->MtR X "list.index" (rmOf K ai6):=fun hk=>by
 subst hk;intro zv s σ H x vs v us Q I rx rv ⟨F,d,ds,r,g,bd,il,eg,q⟩
 match d,ds,eg with
 | .lst l,[y],eg =>
  have eg:(if okD 30 y&&l.all (okD 30) then (l.findIdx? fun z=>eqD z y).map (fun i=>D.int i) else none)=some r:=eg
  split at eg
  ·rename_i ho;rw[Bool.and_eq_true] at ho;cases ei:l.findIdx? (fun z=>eqD z y) with
   | none=>rw[ei] at eg;cases eg
   | some j =>
    rw[ei] at eg;cases eg;obtain⟨hj,hhit,hno⟩:=List.findIdx?_eq_some_iff_getElem.mp ei;cases il with
    | cons hy t =>
     cases t;obtain⟨u,rfl,ru⟩:=rv.one;obtain⟨p,ws,rfl,ea,hl⟩:=bd.lst g;cases rx;obtain⟨its,rw',pl,hz⟩:=I.list (SqL.of ea);have l1:=hl.length;have l2:=rw'.length;rw[sizeLine_eq] at hz;obtain⟨as,ra⟩:=aci I g hy ho.1 ru;obtain⟨_,z⟩:=aad I g (a:=y) hl ho.2 rw';obtain⟨⟨cls,dd,data,sl⟩,h1,hc,n,hd⟩:=pl.isList;simp only at hc hd;subst hc hd;have hj':j < its.toArray.size:=by rw[List.size_toArray];omega
     refine call_meets PySem.F.slot_list_index ⟨_,h1,rfl⟩ PySem.F.entry_list_index (PySem.F.args_list_index_2 _ _) (SeqAt.list_indexAt p its.toArray n dd sl u (aaw s.heap (toPy y)) j hj' (by omega) ?_ fun m hm hlt =>?_) ⟨h1,fun w hw =>?_,?_⟩
     ·have:=al5 I g (a:=y) hl ho.2 rw' j (by omega) hj
      simpa[this] using hhit
     ·rw[List.size_toArray] at hm;have:=al5 I g (a:=y) hl ho.2 rw' m hm (by omega)
      have hn:=hno m hlt
      simpa[this] using hn
     ·exact aaa (A:=X.A) hu ra ho.1 z w (by simpa using hw)
     ·exact⟨.int j,H,I.tok _,⟨_,rfl⟩,q _ (.int _)⟩
  ·cases eg
def insD(l:List D)(k:Int)(d:D):List D:=let j:=if k < 0 then (k+(l.length:Int)).toNat else min k.toNat l.length;l.take j++d::l.drop j
def awm(l ds:List D):Option (D×List D):=match ds with
 | [.int k,d]=>if -9223372036854775808<=k/\k < 9223372036854775808/\l.length < capS then some (.non,insD l k d) else none
 | _=>none
section
variable(ρ:Ro)
@[simp] theorem a08(i:Nat)(g:D->List D->Option D)(ms:M (List D)):awa i g ms ρ=((gf i).bind fun d0=>(lift (match d0 with
 | .lst _=>some ()
 | _=>none)).bind fun _=>ms.bind fun ds=>(gf i).bind fun d=>lift (g d ds)) ρ:=rfl
@[simp] theorem axr(l:List D)(x:D):aua (.lst l) [x]=if okD 30 x&&l.all (okD 30) then some (.int (l.countP fun y=>eqD y x)) else none:=rfl
@[simp] theorem axp(l:List D)(x:D):ai6 (.lst l) [x]=if okD 30 x&&l.all (okD 30) then (l.findIdx? fun y=>eqD y x).map (fun i=>D.int i) else none:=rfl
@[simp] theorem awl(l:List D)(k:Int)(d:D):awm l [.int k,d]=if -9223372036854775808<=k/\k < 9223372036854775808/\l.length < capS then some (.non,insD l k d) else none:=rfl
end
end
end Dn
namespace En
open PySem PySem.Builtin
def It1(k:Bool)(h:Heap)(it l:Addr)(i:Nat):Prop:=cond k (h.IsTupleIter it l i) (h.IsListIter it l i)
def Sq1(k:Bool)(h:Heap)(l:Addr)(xs:Array Value):Prop:=cond k (h.IsTuple l xs) (h.IsList l xs)
section
variable{prog:Program}{w:World}{A:Around}{E:Value->Shared->Prop}{s:Shared}
theorem av1{it t:Addr}{i:Nat}{xs:Array Value}{x:Value}{Q:Value->Shared->Prop}(h1:s.heap.IsTupleIter it t i)(h2:s.heap.IsTuple t xs)(hx:xs[i]? = some x)
  (q:∀h',h'.IsTupleIter it t (i+1)->Heap.SameBut it s.heap h'->Q x { s with heap:=h' }):wpAny (model prog w) A (SmallTypes.nextOf (.ref it)) Q E s:=by
 obtain⟨o1,e1,c1,d1⟩:=id h1;obtain⟨o2,e2,_,k2,d2⟩:=h2;have nn:¬((Value.ref t==Value.none)=true):=Bool.false_ne_true;unfold SmallTypes.nextOf;refine wpAny_bind (wpAny_callSpecial?_slot (name:=Str.ofString "__next__") h1.typeIs F.slot_tuple_iterator_next (wpAny_call_entry F.slot_tuple_iterator_next h1.typeIs F.entry_tuple_iterator_next ?_ (F.args_tuple_iterator_next_1 _)));refine wpAny_bind (m:=field (.ref it) 0) (wpAny_field e1 d1 (x:=.ref t) rfl ?_);show wpAny _ _ (if (Value.ref t==Value.none)=true then _ else (field (.ref it) 1 >>= _)) _ _ s;rw[if_neg nn]
 refine wpAny_bind (m:=field (.ref it) 1) (wpAny_field e1 d1 (x:=.int i 0) rfl ?_);refine wpAny_bind (m:=seqItems? (.ref t)) (wpAny_seqItems e2 d2 ?_);simp only[Int.toNat_natCast,hx];refine wpAny_bind (wpAny_setField e1 d1 (by simp) (wpAny_pure ⟨x,rfl,wpAny_pure (q _ ?_ (Heap.SameBut.update ..))⟩))
 refine⟨_,Heap.get?_update_self _ e1 (Obj.isFreed_of_fields (Obj.data_mapFields d1 _)),(Obj.cls_mapFields ..).trans c1,?_⟩;rw[Obj.data_mapFields d1];simp[rawInt]
theorem aw6{it t:Addr}{i:Nat}{xs:Array Value}{Q:Value->Shared->Prop}(hh:A.handled=none)(h1:s.heap.IsTupleIter it t i)(h2:s.heap.IsTuple t xs)(hx:xs[i]? = none)
  (q:∀h' e,Heap.ExtBut it s.heap h'->(∃o,h'.get? e=some o/\o.cls=.type "StopIteration")->E (.ref e) { s with heap:=h' }):wpAny (model prog w) A (SmallTypes.nextOf (.ref it)) Q E s:=by
 obtain⟨o1,e1,c1,d1⟩:=id h1;obtain⟨o2,e2,_,k2,d2⟩:=h2;have nn:¬((Value.ref t==Value.none)=true):=Bool.false_ne_true;unfold SmallTypes.nextOf;refine wpAny_bind (wpAny_callSpecial?_slot (name:=Str.ofString "__next__") h1.typeIs F.slot_tuple_iterator_next (wpAny_call_entry F.slot_tuple_iterator_next h1.typeIs F.entry_tuple_iterator_next ?_ (F.args_tuple_iterator_next_1 _)));refine wpAny_bind (m:=field (.ref it) 0) (wpAny_field e1 d1 (x:=.ref t) rfl ?_);show wpAny _ _ (if (Value.ref t==Value.none)=true then _ else (field (.ref it) 1 >>= _)) _ _ s;rw[if_neg nn]
 refine wpAny_bind (m:=field (.ref it) 1) (wpAny_field e1 d1 (x:=.int i 0) rfl ?_);refine wpAny_bind (m:=seqItems? (.ref t)) (wpAny_seqItems e2 d2 ?_);simp only[Int.toNat_natCast,hx];refine wpAny_bind (wpAny_rule (wpAny_bind (wpAny_setField e1 d1 (by simp) ?_)))
 refine wpAny_bind (m:=newExc (.type "StopIteration") []) ?_;simp only[newExc,newTuple];refine wpAny_bind (wpAny_newObj_type ?_ (by size_fits))
 refine wpAny_bind (m:=firstArgMember _ _) (wpAny_of_eq (a:=Value.none) (by first | rfl | (simp only[firstArgMember];rfl)) (wpAny_newObj_type ?_ (by size_fits)))
 simp only[raiseNew];refine wpAny_bind (wpAny_handled ?_);first | rw[show A.in1.handled=none from hh] | rw[hh]
 refine wpAny_bind (wpAny_pure (wpAny_throw (q _ _ ?_ ⟨_,Heap.get?_push_size _ rfl,rfl⟩)));exact((Heap.SameBut.update ..).extBut.push _).push _
theorem src(hh:A.handled=none)(k:Bool)(it l:Addr)(ne:l≠it)(xs:Array Value):Draws prog w A it [it,l] xs.size (fun i v=>xs[i]? = some v) (fun i h=>It1 k h it l i/\Sq1 k h l xs):=by
 cases k with
 | false=>exact Draws.list hh it l ne xs
 | true=>exact{
   live:=fun _ _ z=>let ⟨o,e,_⟩:=z.1;⟨o,e⟩
   frame:=fun _ _ _ z kk=>⟨(let ⟨o,e,r⟩:=z.1;⟨o,kk it (by simp) o e,r⟩),(let ⟨o,e,r⟩:=z.2;⟨o,kk l (by simp) o e,r⟩)⟩
   item:=fun i s Q E hi z q=>av1 z.1 z.2 (x:=xs[i]) (by simp[hi]) fun h' z' sb=>q _ h' s.toks (by simp[hi]) ⟨z',Heap.IsTuple.extBut z.2 sb.extBut ne⟩ sb
   done:=fun s Q E z q=>aw6 hh z.1 z.2 (by simp) q }
theorem It1.at{k:Bool}{h h':Heap}{it l:Addr}{i:Nat}(x:It1 k h it l i)(e:∀o,h.get? it=some o->h'.get? it=some o):It1 k h' it l i:=by
 cases k <;> exact(let ⟨o,z,r⟩:=x;⟨o,e _ z,r⟩)
theorem It1.got{k:Bool}{h:Heap}{it l:Addr}{i:Nat}(x:It1 k h it l i):∃o,h.get? it=some o/\∀v,o.data≠.cell v:=by
 cases k <;> exact(let ⟨o,z,_,r⟩:=x;⟨o,z,fun v e=>by rw[r] at e;cases e⟩)
theorem Sq1.at{k:Bool}{h h':Heap}{l:Addr}{xs:Array Value}(x:Sq1 k h l xs)(e:∀o,h.get? l=some o->h'.get? l=some o):Sq1 k h' l xs:=by
 cases k <;> exact(let ⟨o,z,r⟩:=x;⟨o,e _ z,r⟩)
theorem Sq1.got{k:Bool}{h:Heap}{l:Addr}{xs:Array Value}(x:Sq1 k h l xs):∃o,h.get? l=some o:=by
 cases k <;> exact(let ⟨o,z,_⟩:=x;⟨o,z⟩)
theorem akf{k:Bool}{l:Addr}{xs:Array Value}{Q:Value->Shared->Prop}(h:Sq1 k s.heap l xs)
  (q:Q (.ref s.heap.objs.size) { s with heap:=s.heap.push { cls:=.type (cond k "tuple_iterator" "list_iterator"),data:=.fields #[.ref l,.int 0 0] } }):wpAny (model prog w) A (pyIter (.ref l)) Q E s:=by
 cases k with
 | false=>exact wpAny_pyIter_list h q
 | true=>exact wpAny_pyIter_tuple h q
theorem adl{k:Bool}{h:Heap}{l a:Addr}(e:h.get? a=some { cls:=.type (cond k "tuple_iterator" "list_iterator"),data:=.fields #[.ref l,.int 0 0] }):It1 k h a l 0:=by
 cases k <;> exact⟨_,e,rfl,rfl⟩
end
set_option maxRecDepth 100000
abbrev eh1(k:Bool)(h:Heap)(l:Addr):Heap:=h.push { cls:=.type (cond k "tuple_iterator" "list_iterator"),data:=.fields #[.ref l,.int 0 0] }
abbrev eh2(k:Bool)(h:Heap)(l:Addr):Heap:=(eh1 k h l).push { cls:=.type "enumerate", data:=.fields #[.none,.bool false,.ref h.objs.size,rawInt 0,.none,.none] }
theorem av7(k:Bool)(l:Addr)(o:Obj)(xs:Array Value) :
  Meets (Builtin.«enumerate.__new__» ⟨[.type "enumerate", .ref l],[]⟩) (fun _ R s=>s.heap.get? l=some o/\Sq1 k s.heap l xs/\R (.ok (.ret (.ref (eh1 k s.heap l).objs.size))) { s with heap:=eh2 k s.heap l }) :=
 .of_wp fun prog w A R s h=>by
  obtain⟨hp,g,d,tk,os⟩:=s;obtain⟨ho,r1,h⟩:=h;have sb:=sub_enumerate;have r1:Sq1 k (Shared.heap ⟨hp,g,d,tk,os⟩) l xs:=r1;wp_walk using AutoSeq1.wpAny_loadPart' ho;refine wpAny_stack_any fun st=>wpAny_pure ?_
  split
  ·rename_i c _ _ _ _ _;cases(c==Value.type "enumerate") <;> (wp_walk using AutoSeq1.wpAny_loadPart' ho,akf r1;exact⟨_,rfl,h⟩)
  ·wp_walk using AutoSeq1.wpAny_loadPart' ho,akf r1;exact⟨_,rfl,h⟩
theorem aqi{prog:Program}{w:World}{A:Around}{E:Value->Shared->Prop}{s:Shared}{k:Bool}{l:Addr}{xs:Array Value}{Q:Value->Shared->Prop}(s1:Sq1 k s.heap l xs)
  (q:∀h',IsEnum h' (s.heap.objs.size+1) s.heap.objs.size 0 .none->It1 k h' s.heap.objs.size l 0->h'.objs.size=s.heap.objs.size+2->(∀b o,s.heap.get? b=some o->h'.get? b=some o)->Q (.ref (s.heap.objs.size+1)) { s with heap:=h' }) :
  wpAny (model prog w) A (call (.type "enumerate") [.ref l]) Q E s:=by
 obtain⟨o,ho⟩:=s1.got;refine callType_new F.called_enumerate (by decide) (F.typeCall_enumerate_1 _) (F.newCall_enumerate_1 _) (fun obj=>F.args_object_init_2 obj _) F.entry_enumerate_new (av7 k l o xs) ⟨ho,s1,?_⟩
 have z1:(eh1 k s.heap l).objs.size=s.heap.objs.size+1:=Heap.size_push ..
 have g2:(eh2 k s.heap l).get? (eh1 k s.heap l).objs.size=some _:=Heap.get?_push_size _ rfl;have g1:(eh2 k s.heap l).get? s.heap.objs.size=some _:=Heap.get?_push_of_some _ (Heap.get?_push_size _ rfl);rw[z1] at g2;show _/\_;rw[z1];exact⟨⟨_,g2,rfl⟩,q _ g2 (adl g1) (by rw[Heap.size_push,z1]) fun b o x=>Heap.get?_push_of_some _ (Heap.get?_push_of_some _ x)⟩
end En
namespace En
open PySem PySem.Builtin
set_option maxRecDepth 100000
theorem aut(v1 v2:Value):checkTypeCall "zip" ⟨[v1,v2],[]⟩=pure ():=by kernel_rfl
theorem av4(v1 v2:Value):checkBuiltinCall "zip.__new__" ⟨[.type "zip", v1,v2],[]⟩=pure ():=by kernel_rfl
theorem axm(o v1 v2:Value):argsOk "object.__init__" ⟨[o,v1,v2],[]⟩:=by
 unfold argsOk;rw[signature?_of (id := "object.__init__") (n:=['_','_','t','i','n','i','_','_']) (o:=['t','c','e','j','b','o']) (by kernel_rfl) F.owner_object];kernel_rfl
abbrev Row2(h:Heap)(T:Addr)(v1 v2:Value):Prop:=h.get? T=some { cls:=.type "tuple", data:=.seq #[v1,v2] }
structure Apart2 (z TI TO i1 i2 l1 l2:Addr):Prop where
 nTIz:TI≠z
 nTOz:TO≠z
 nTOTI:TO≠TI
 ni1z:i1≠z
 ni1TI:i1≠TI
 ni1TO:i1≠TO
 ni2z:i2≠z
 ni2TI:i2≠TI
 ni2TO:i2≠TO
 ni2i1:i2≠i1
 nl1z:l1≠z
 nl1TO:l1≠TO
 nl1i1:l1≠i1
 nl1i2:l1≠i2
 nl2z:l2≠z
 nl2TO:l2≠TO
 nl2i1:l2≠i1
 nl2i2:l2≠i2
section
variable{prog:Program}{w:World}{A:Around}{E:Value->Shared->Prop}{s:Shared}
theorem ayg{T:Addr}{v1 v2 x:Value}{Q:Unit->Shared->Prop}(h:Row2 s.heap T v1 v2)(q:∀h',Row2 h' T x v2->Heap.SameBut T s.heap h'->Q () { s with heap:=h' }):wpAny (model prog w) A (updateSeq T (·.setIfInBounds 0 x)) Q E s:=by
 refine wpAny_updateSeq h rfl (q _ (show Heap.get? _ T=_ from ?_) (Heap.SameBut.update ..))
 rw[Heap.get?_update_self _ h rfl];simp[Obj.mapSeq]
theorem ayf{T:Addr}{v1 v2 x:Value}{Q:Unit->Shared->Prop}(h:Row2 s.heap T v1 v2)(q:∀h',Row2 h' T v1 x->Heap.SameBut T s.heap h'->Q () { s with heap:=h' }):wpAny (model prog w) A (updateSeq T (·.setIfInBounds 1 x)) Q E s:=by
 refine wpAny_updateSeq h rfl (q _ (show Heap.get? _ T=_ from ?_) (Heap.SameBut.update ..))
 rw[Heap.get?_update_self _ h rfl];simp[Obj.mapSeq]
theorem anf{z TI TO i1 i2 l1 l2:Addr}{k1 k2:Bool}{i:Nat}{x1 x2:Array Value}{v1 v2:Value}{Q:Value->Shared->Prop}(hh:A.handled=none)(D:Apart2 z TI TO i1 i2 l1 l2)
  (hz:IsZip s.heap z TI TO .none) (hI:Row2 s.heap TI (.ref i1) (.ref i2)) (hO:Row2 s.heap TO v1 v2) (h1:It1 k1 s.heap i1 l1 i) (s1:Sq1 k1 s.heap l1 x1) (h2:It1 k2 s.heap i2 l2 i) (s2:Sq1 k2 s.heap l2 x2) (b1:i < x1.size) (b2:i < x2.size)
  (q:∀h' tk y1 y2,x1[i]? = some y1->x2[i]? = some y2->IsZip h' z TI TO (rawInt s.heap.objs.size)->Row2 h' TO y1 y2->It1 k1 h' i1 l1 (i+1)->It1 k2 h' i2 l2 (i+1)->Row2 h' s.heap.objs.size y1 y2->h'.objs.size=s.heap.objs.size+1 ->
   (∀c o,c≠z->c≠TO->c≠i1->c≠i2->s.heap.get? c=some o->h'.get? c=some o)->Q (.ref s.heap.objs.size) { s with heap:=h',toks:=tk }) :
  wpAny (model prog w) A (Builtin.«zip.__next__» ⟨[.ref z],[]⟩) (fun fin s'=>∃v,fin=.done (.ret v)/\Q v s') E s:=by
 refine wpAny_bind (m:=field (.ref z) 2) (wpAny_field hz rfl (x:=.bool false) rfl ?_);refine wpAny_bind (m:=field (.ref z) 3) (wpAny_field hz rfl (x:=.ref TI) rfl ?_);refine wpAny_bind (wpAny_seqItems hI rfl ?_);refine wpAny_bind (m:=SmallTypes.ownedTupleIsFree (.ref z)) ?_;unfold SmallTypes.ownedTupleIsFree;refine wpAny_bind (wpAny_field hz rfl (x:=.none) rfl (wpAny_pure ?_));simp only[if_true];refine wpAny_bind (wpAny_rule (wpAny_bind (wpAny_field hz rfl (x:=.ref TO) rfl ?_)));refine wpAny_bind (wpAny_setField_rec hz (by simp) fun g0 z0 a0 =>?_)
 have z0:IsZip g0 z TI TO .ellipsis:=z0;refine wpAny_bind ?_;simp only[List.zipIdx_cons,List.zipIdx_nil,List.forIn_cons,List.forIn_nil];refine wpAny_bind (wpAny_bind (wpAny_onRaise ?_));refine wpAny_bind (m:=SmallTypes.nextOf (.ref i1)) ((src hh k1 i1 l1 D.nl1i1 x1).item i _ _ _ b1 ⟨(h1.at fun _ e=>(a0.extBut _ _ D.ni1z e)),(s1.at fun _ e=>(a0.extBut _ _ D.nl1z e))⟩ fun y1 f1 t1 p1 q1 c1=>wpAny_pure ?_)
 have c1:Heap.SameBut i1 g0 f1:=c1;have P1:Row2 f1 TO v1 v2:=(c1.extBut _ _ D.ni1TO.symm (a0.extBut _ _ D.nTOz hO));refine wpAny_bind (wpAny_seqItems P1 rfl ?_);refine wpAny_bind (ayg P1 fun g1 O1 a1 =>?_)
 have a1:Heap.SameBut TO f1 g1:=a1;refine wpAny_bind (wpAny_letGo (wpAny_pure ?_));refine wpAny_bind (wpAny_bind (wpAny_onRaise ?_));refine wpAny_bind (m:=SmallTypes.nextOf (.ref i2)) ((src hh k2 i2 l2 D.nl2i2 x2).item i _ _ _ b2 ⟨(h2.at fun _ e=>(a1.extBut _ _ D.ni2TO (c1.extBut _ _ D.ni2i1 (a0.extBut _ _ D.ni2z e)))),(s2.at fun _ e=>(a1.extBut _ _ D.nl2TO (c1.extBut _ _ D.nl2i1 (a0.extBut _ _ D.nl2z e))))⟩ fun y2 f2 t2 p2 q2 c2=>wpAny_pure ?_)
 have c2:Heap.SameBut i2 g1 f2:=c2;have P2:Row2 f2 TO y1 v2:=(c2.extBut _ _ D.ni2TO.symm O1);refine wpAny_bind (wpAny_seqItems P2 rfl ?_);refine wpAny_bind (ayf P2 fun g2 O2 a2 =>?_)
 have a2:Heap.SameBut TO f2 g2:=a2;refine wpAny_bind (wpAny_letGo (wpAny_pure (wpAny_pure ?_)));refine wpAny_bind (wpAny_seqItems O2 rfl (wpAny_bind (wpAny_newTuple ?_)));have sz:g2.objs.size=s.heap.objs.size:=by rw[a2.1,c2.1,a1.1,c1.1,a0.1]
 have zn:IsZip g2 z TI TO .ellipsis:=(a2.extBut _ _ D.nTOz.symm (c2.extBut _ _ D.ni2z.symm (a1.extBut _ _ D.nTOz.symm (c1.extBut _ _ D.ni1z.symm z0))));have kn:∀c o,c≠z->c≠TO->c≠i1->c≠i2->s.heap.get? c=some o->g2.get? c=some o:=fun c o n0 n1 n2 n3 e=>(a2.extBut _ _ n1 (c2.extBut _ _ n3 (a1.extBut _ _ n1 (c1.extBut _ _ n2 (a0.extBut _ _ n0 e)))))
 have j1:It1 k1 g2 i1 l1 (i+1):=q1.1.at fun _ e=>(a2.extBut _ _ D.ni1TO (c2.extBut _ _ D.ni2i1.symm (a1.extBut _ _ D.ni1TO e)))
 have j2:It1 k2 g2 i2 l2 (i+1):=q2.1.at fun _ e=>(a2.extBut _ _ D.ni2TO e)
 have lz:z < g2.objs.size:=Heap.lt_size zn;refine wpAny_bind (m:=SmallTypes.ownedTupleHandOut (.ref z) (.ref g2.objs.size)) ?_;unfold SmallTypes.ownedTupleHandOut;have zp:IsZip (g2.push { cls:=.type "tuple", data:=.seq #[y1,y2] }) z TI TO .ellipsis:=Heap.get?_push_of_some _ zn;refine wpAny_bind (wpAny_setField_rec zp (by simp) fun e1 z1 b1' =>?_)
 have z1:IsZip e1 z TI TO (rawInt g2.objs.size):=z1;refine wpAny_setField_rec z1 (by simp) fun e2 z2 b2' =>?_
 have z2:IsZip e2 z TI TO (rawInt g2.objs.size):=z2;have up:∀c o,c≠z->g2.get? c=some o->e2.get? c=some o:=fun c o n1 e=>b2'.extBut _ _ n1 (b1'.extBut _ _ n1 (Heap.get?_push_of_some _ e))
 have t2:Row2 e2 g2.objs.size y1 y2:=b2'.extBut _ _ (Nat.ne_of_gt lz) (b1'.extBut _ _ (Nat.ne_of_gt lz) (Heap.get?_push_size _ rfl));have s2':e2.objs.size=g2.objs.size+1:=by rw[b2'.1,b1'.1,Heap.size_push]
 rw[sz] at z2 t2 s2';refine wpAny_pure ⟨_,rfl,?_⟩;show Q (.ref g2.objs.size) _;rw[sz];exact q e2 _ y1 y2 p1 p2 z2 (up _ _ D.nTOz O2) (j1.at fun _ e=>up _ _ D.ni1z e) (j2.at fun _ e=>up _ _ D.ni2z e) t2 s2' fun c o n0 n1 n2 n3 e=>up c o n0 (kn c o n0 n1 n2 n3 e)
theorem aqy{z TI TO i1 i2 l1 l2:Addr}{k1:Bool}{x1:Array Value}{v1 v2:Value}{Q:Fin->Shared->Prop}(hh:A.handled=none)(D:Apart2 z TI TO i1 i2 l1 l2)
  (hz:IsZip s.heap z TI TO .none) (hI:Row2 s.heap TI (.ref i1) (.ref i2)) (hO:Row2 s.heap TO v1 v2) (h1:It1 k1 s.heap i1 l1 x1.size) (s1:Sq1 k1 s.heap l1 x1)
  (q:∀h' e,(∀c o,c≠z->c≠i1->s.heap.get? c=some o->h'.get? c=some o)->(∃o,h'.get? e=some o/\o.cls=.type "StopIteration")->E (.ref e) { s with heap:=h' }) :
  wpAny (model prog w) A (Builtin.«zip.__next__» ⟨[.ref z],[]⟩) Q E s:=by
 refine wpAny_bind (m:=field (.ref z) 2) (wpAny_field hz rfl (x:=.bool false) rfl ?_);refine wpAny_bind (m:=field (.ref z) 3) (wpAny_field hz rfl (x:=.ref TI) rfl ?_);refine wpAny_bind (wpAny_seqItems hI rfl ?_);refine wpAny_bind (m:=SmallTypes.ownedTupleIsFree (.ref z)) ?_;unfold SmallTypes.ownedTupleIsFree;refine wpAny_bind (wpAny_field hz rfl (x:=.none) rfl (wpAny_pure ?_));simp only[if_true];refine wpAny_bind (wpAny_rule (wpAny_bind (wpAny_field hz rfl (x:=.ref TO) rfl ?_)));refine wpAny_bind (wpAny_setField_rec hz (by simp) fun g0 z0 a0 =>?_)
 have z0:IsZip g0 z TI TO .ellipsis:=z0;refine wpAny_bind ?_;simp only[List.zipIdx_cons,List.zipIdx_nil,List.forIn_cons,List.forIn_nil];refine wpAny_bind (wpAny_bind (wpAny_onRaise ?_));refine wpAny_bind (m:=SmallTypes.nextOf (.ref i1)) ((src hh k1 i1 l1 D.nl1i1 x1).done _ _ _ ⟨(h1.at fun _ e=>a0.extBut _ _ D.ni1z e),(s1.at fun _ e=>a0.extBut _ _ D.nl1z e)⟩ fun f1 e c1 ⟨oe,he,ce⟩ =>?_)
 have zf:IsZip f1 z TI TO .ellipsis:=c1 _ _ D.ni1z.symm z0;have ez:e≠z:=fun x=>by subst x;rw[zf] at he;cases he;simp at ce
 refine wpAny_setField_rec zf (by simp) fun f2 _ a1=>q f2 e (fun c o n1 n2 y=>a1.extBut _ _ n1 (c1 _ _ n2 (a0.extBut _ _ n1 y))) ⟨oe,a1.extBut _ _ ez he,ce⟩
abbrev ani(h:Heap)(k1 k2:Bool)(l1 l2:Addr):Heap:=h.push { cls:=.type (cond k1 "tuple_iterator" "list_iterator"),data:=.fields #[.ref l1,.int 0 0] }
abbrev aq4(h:Heap)(k1 k2:Bool)(l1 l2:Addr):Heap:=(ani h k1 k2 l1 l2).push { cls:=.type (cond k2 "tuple_iterator" "list_iterator"),data:=.fields #[.ref l2,.int 0 0] }
abbrev aq2(h:Heap)(k1 k2:Bool)(l1 l2:Addr):Heap:=(aq4 h k1 k2 l1 l2).push { cls:=.type "tuple", data:=.seq #[.ref h.objs.size,.ref (ani h k1 k2 l1 l2).objs.size] }
abbrev aq0(h:Heap)(k1 k2:Bool)(l1 l2:Addr):Heap:=(aq2 h k1 k2 l1 l2).push { cls:=.type "tuple", data:=.seq #[.none,.none] }
abbrev aju(h:Heap)(k1 k2:Bool)(l1 l2:Addr):Heap:=(aq0 h k1 k2 l1 l2).push { cls:=.type "zip", data:=.fields #[.none,.bool false,.bool false,.ref (aq4 h k1 k2 l1 l2).objs.size,.ref (aq2 h k1 k2 l1 l2).objs.size] }
theorem av6(k1 k2:Bool)(l1 l2:Addr)(x1 x2:Array Value) :
  Meets (Builtin.«zip.__new__» ⟨[.type "zip", .ref l1,.ref l2],[]⟩) (fun _ R s=>Sq1 k1 s.heap l1 x1/\Sq1 k2 s.heap l2 x2/\R (.ok (.ret (.ref (aq0 s.heap k1 k2 l1 l2).objs.size))) { s with heap:=aju s.heap k1 k2 l1 l2 }) :=
 .of_wp fun prog w A R s h=>by
  obtain⟨hp,g,d,tk,os⟩:=s;obtain⟨s1,s2,h⟩:=h;have sb:=sub_zip;have r1:Sq1 k1 (Shared.heap ⟨hp,g,d,tk,os⟩) l1 x1:=s1.at fun _ e=>e
  have r2:Sq1 k2 (Shared.heap ⟨ani hp k1 k2 l1 l2,g,d,tk,os⟩) l2 x2:=s2.at fun _ e=>Heap.get?_push_of_some _ (e)
  wp_walk using akf r1,akf r2;exact⟨_,rfl,h⟩
theorem aqe{k1 k2:Bool}{l1 l2:Addr}{x1 x2:Array Value}{Q:Value->Shared->Prop}(s1:Sq1 k1 s.heap l1 x1)(s2:Sq1 k2 s.heap l2 x2)
  (q:∀h',IsZip h' (s.heap.objs.size+4) (s.heap.objs.size+2) (s.heap.objs.size+3) .none->Row2 h' (s.heap.objs.size+2) (.ref s.heap.objs.size) (.ref (s.heap.objs.size+1))->Row2 h' (s.heap.objs.size+3) .none .none->It1 k1 h' s.heap.objs.size l1 0->It1 k2 h' (s.heap.objs.size+1) l2 0->h'.objs.size=s.heap.objs.size+5->(∀c o,s.heap.get? c=some o->h'.get? c=some o)->Q (.ref (s.heap.objs.size+4)) { s with heap:=h' }) :
  wpAny (model prog w) A (call (.type "zip") [.ref l1,.ref l2]) Q E s:=by
 refine callType_new F.called_zip (by decide) (aut _ _) (av4 _ _) (fun obj=>axm obj _ _) F.entry_zip_new (av6 k1 k2 l1 l2 x1 x2) ⟨s1,s2,?_⟩
 have e1:(ani s.heap k1 k2 l1 l2).objs.size=s.heap.objs.size+1:=by rw[Heap.size_push]
 have e2:(aq4 s.heap k1 k2 l1 l2).objs.size=s.heap.objs.size+2:=by rw[Heap.size_push,e1]
 have eI:(aq2 s.heap k1 k2 l1 l2).objs.size=s.heap.objs.size+3:=by rw[Heap.size_push,e2]
 have eO:(aq0 s.heap k1 k2 l1 l2).objs.size=s.heap.objs.size+4:=by rw[Heap.size_push,eI]
 have eZ:(aju s.heap k1 k2 l1 l2).objs.size=s.heap.objs.size+5:=by rw[Heap.size_push,eO]
 have gZ:(aju s.heap k1 k2 l1 l2).get? (aq0 s.heap k1 k2 l1 l2).objs.size=some _:=Heap.get?_push_size _ rfl;have gO:(aju s.heap k1 k2 l1 l2).get? (aq2 s.heap k1 k2 l1 l2).objs.size=some _:=Heap.get?_push_of_some _ (Heap.get?_push_size _ rfl);have gI:(aju s.heap k1 k2 l1 l2).get? (aq4 s.heap k1 k2 l1 l2).objs.size=some _:=Heap.get?_push_of_some _ (Heap.get?_push_of_some _ (Heap.get?_push_size _ rfl));have j1:(aju s.heap k1 k2 l1 l2).get? s.heap.objs.size=some _:=Heap.get?_push_of_some _ (Heap.get?_push_of_some _ (Heap.get?_push_of_some _ (Heap.get?_push_of_some _ (Heap.get?_push_size _ rfl))));have j2:(aju s.heap k1 k2 l1 l2).get? (ani s.heap k1 k2 l1 l2).objs.size=some _:=Heap.get?_push_of_some _ (Heap.get?_push_of_some _ (Heap.get?_push_of_some _ (Heap.get?_push_size _ rfl)));show _/\_;rw[e2,eI,eO] at gZ;rw[e1,e2] at gI;rw[eI] at gO;rw[e1] at j2;rw[eO];exact⟨⟨_,gZ,rfl⟩,q _ gZ gI gO (adl j1) (adl j2) eZ fun c o x=>Heap.get?_push_of_some _ (Heap.get?_push_of_some _ (Heap.get?_push_of_some _ (Heap.get?_push_of_some _ (Heap.get?_push_of_some _ (x)))))⟩
end
theorem aus(v1 v2 v3:Value):checkTypeCall "zip" ⟨[v1,v2,v3],[]⟩=pure ():=by kernel_rfl
theorem av3(v1 v2 v3:Value):checkBuiltinCall "zip.__new__" ⟨[.type "zip", v1,v2,v3],[]⟩=pure ():=by kernel_rfl
theorem axl(o v1 v2 v3:Value):argsOk "object.__init__" ⟨[o,v1,v2,v3],[]⟩:=by
 unfold argsOk;rw[signature?_of (id := "object.__init__") (n:=['_','_','t','i','n','i','_','_']) (o:=['t','c','e','j','b','o']) (by kernel_rfl) F.owner_object];kernel_rfl
abbrev Row3(h:Heap)(T:Addr)(v1 v2 v3:Value):Prop:=h.get? T=some { cls:=.type "tuple", data:=.seq #[v1,v2,v3] }
structure Apart3 (z TI TO i1 i2 i3 l1 l2 l3:Addr):Prop where
 nTIz:TI≠z
 nTOz:TO≠z
 nTOTI:TO≠TI
 ni1z:i1≠z
 ni1TI:i1≠TI
 ni1TO:i1≠TO
 ni2z:i2≠z
 ni2TI:i2≠TI
 ni2TO:i2≠TO
 ni2i1:i2≠i1
 ni3z:i3≠z
 ni3TI:i3≠TI
 ni3TO:i3≠TO
 ni3i1:i3≠i1
 ni3i2:i3≠i2
 nl1z:l1≠z
 nl1TO:l1≠TO
 nl1i1:l1≠i1
 nl1i2:l1≠i2
 nl1i3:l1≠i3
 nl2z:l2≠z
 nl2TO:l2≠TO
 nl2i1:l2≠i1
 nl2i2:l2≠i2
 nl2i3:l2≠i3
 nl3z:l3≠z
 nl3TO:l3≠TO
 nl3i1:l3≠i1
 nl3i2:l3≠i2
 nl3i3:l3≠i3
section
variable{prog:Program}{w:World}{A:Around}{E:Value->Shared->Prop}{s:Shared}
theorem aye{T:Addr}{v1 v2 v3 x:Value}{Q:Unit->Shared->Prop}(h:Row3 s.heap T v1 v2 v3)(q:∀h',Row3 h' T x v2 v3->Heap.SameBut T s.heap h'->Q () { s with heap:=h' }):wpAny (model prog w) A (updateSeq T (·.setIfInBounds 0 x)) Q E s:=by
 refine wpAny_updateSeq h rfl (q _ (show Heap.get? _ T=_ from ?_) (Heap.SameBut.update ..))
 rw[Heap.get?_update_self _ h rfl];simp[Obj.mapSeq]
theorem ayd{T:Addr}{v1 v2 v3 x:Value}{Q:Unit->Shared->Prop}(h:Row3 s.heap T v1 v2 v3)(q:∀h',Row3 h' T v1 x v3->Heap.SameBut T s.heap h'->Q () { s with heap:=h' }):wpAny (model prog w) A (updateSeq T (·.setIfInBounds 1 x)) Q E s:=by
 refine wpAny_updateSeq h rfl (q _ (show Heap.get? _ T=_ from ?_) (Heap.SameBut.update ..))
 rw[Heap.get?_update_self _ h rfl];simp[Obj.mapSeq]
theorem ayc{T:Addr}{v1 v2 v3 x:Value}{Q:Unit->Shared->Prop}(h:Row3 s.heap T v1 v2 v3)(q:∀h',Row3 h' T v1 v2 x->Heap.SameBut T s.heap h'->Q () { s with heap:=h' }):wpAny (model prog w) A (updateSeq T (·.setIfInBounds 2 x)) Q E s:=by
 refine wpAny_updateSeq h rfl (q _ (show Heap.get? _ T=_ from ?_) (Heap.SameBut.update ..))
 rw[Heap.get?_update_self _ h rfl];simp[Obj.mapSeq]
theorem ane{z TI TO i1 i2 i3 l1 l2 l3:Addr}{k1 k2 k3:Bool}{i:Nat}{x1 x2 x3:Array Value}{v1 v2 v3:Value}{Q:Value->Shared->Prop}(hh:A.handled=none)(D:Apart3 z TI TO i1 i2 i3 l1 l2 l3)
  (hz:IsZip s.heap z TI TO .none) (hI:Row3 s.heap TI (.ref i1) (.ref i2) (.ref i3)) (hO:Row3 s.heap TO v1 v2 v3) (h1:It1 k1 s.heap i1 l1 i) (s1:Sq1 k1 s.heap l1 x1) (h2:It1 k2 s.heap i2 l2 i) (s2:Sq1 k2 s.heap l2 x2) (h3:It1 k3 s.heap i3 l3 i) (s3:Sq1 k3 s.heap l3 x3) (b1:i < x1.size) (b2:i < x2.size) (b3:i < x3.size)
  (q:∀h' tk y1 y2 y3,x1[i]? = some y1->x2[i]? = some y2->x3[i]? = some y3->IsZip h' z TI TO (rawInt s.heap.objs.size)->Row3 h' TO y1 y2 y3->It1 k1 h' i1 l1 (i+1)->It1 k2 h' i2 l2 (i+1)->It1 k3 h' i3 l3 (i+1)->Row3 h' s.heap.objs.size y1 y2 y3->h'.objs.size=s.heap.objs.size+1 ->
   (∀c o,c≠z->c≠TO->c≠i1->c≠i2->c≠i3->s.heap.get? c=some o->h'.get? c=some o)->Q (.ref s.heap.objs.size) { s with heap:=h',toks:=tk }) :
  wpAny (model prog w) A (Builtin.«zip.__next__» ⟨[.ref z],[]⟩) (fun fin s'=>∃v,fin=.done (.ret v)/\Q v s') E s:=by
 refine wpAny_bind (m:=field (.ref z) 2) (wpAny_field hz rfl (x:=.bool false) rfl ?_);refine wpAny_bind (m:=field (.ref z) 3) (wpAny_field hz rfl (x:=.ref TI) rfl ?_);refine wpAny_bind (wpAny_seqItems hI rfl ?_);refine wpAny_bind (m:=SmallTypes.ownedTupleIsFree (.ref z)) ?_;unfold SmallTypes.ownedTupleIsFree;refine wpAny_bind (wpAny_field hz rfl (x:=.none) rfl (wpAny_pure ?_));simp only[if_true];refine wpAny_bind (wpAny_rule (wpAny_bind (wpAny_field hz rfl (x:=.ref TO) rfl ?_)));refine wpAny_bind (wpAny_setField_rec hz (by simp) fun g0 z0 a0 =>?_)
 have z0:IsZip g0 z TI TO .ellipsis:=z0;refine wpAny_bind ?_;simp only[List.zipIdx_cons,List.zipIdx_nil,List.forIn_cons,List.forIn_nil];refine wpAny_bind (wpAny_bind (wpAny_onRaise ?_));refine wpAny_bind (m:=SmallTypes.nextOf (.ref i1)) ((src hh k1 i1 l1 D.nl1i1 x1).item i _ _ _ b1 ⟨(h1.at fun _ e=>(a0.extBut _ _ D.ni1z e)),(s1.at fun _ e=>(a0.extBut _ _ D.nl1z e))⟩ fun y1 f1 t1 p1 q1 c1=>wpAny_pure ?_)
 have c1:Heap.SameBut i1 g0 f1:=c1;have P1:Row3 f1 TO v1 v2 v3:=(c1.extBut _ _ D.ni1TO.symm (a0.extBut _ _ D.nTOz hO));refine wpAny_bind (wpAny_seqItems P1 rfl ?_);refine wpAny_bind (aye P1 fun g1 O1 a1 =>?_)
 have a1:Heap.SameBut TO f1 g1:=a1;refine wpAny_bind (wpAny_letGo (wpAny_pure ?_));refine wpAny_bind (wpAny_bind (wpAny_onRaise ?_));refine wpAny_bind (m:=SmallTypes.nextOf (.ref i2)) ((src hh k2 i2 l2 D.nl2i2 x2).item i _ _ _ b2 ⟨(h2.at fun _ e=>(a1.extBut _ _ D.ni2TO (c1.extBut _ _ D.ni2i1 (a0.extBut _ _ D.ni2z e)))),(s2.at fun _ e=>(a1.extBut _ _ D.nl2TO (c1.extBut _ _ D.nl2i1 (a0.extBut _ _ D.nl2z e))))⟩ fun y2 f2 t2 p2 q2 c2=>wpAny_pure ?_)
 have c2:Heap.SameBut i2 g1 f2:=c2;have P2:Row3 f2 TO y1 v2 v3:=(c2.extBut _ _ D.ni2TO.symm O1);refine wpAny_bind (wpAny_seqItems P2 rfl ?_);refine wpAny_bind (ayd P2 fun g2 O2 a2 =>?_)
 have a2:Heap.SameBut TO f2 g2:=a2;refine wpAny_bind (wpAny_letGo (wpAny_pure ?_));refine wpAny_bind (wpAny_bind (wpAny_onRaise ?_));refine wpAny_bind (m:=SmallTypes.nextOf (.ref i3)) ((src hh k3 i3 l3 D.nl3i3 x3).item i _ _ _ b3 ⟨(h3.at fun _ e=>(a2.extBut _ _ D.ni3TO (c2.extBut _ _ D.ni3i2 (a1.extBut _ _ D.ni3TO (c1.extBut _ _ D.ni3i1 (a0.extBut _ _ D.ni3z e)))))),(s3.at fun _ e=>(a2.extBut _ _ D.nl3TO (c2.extBut _ _ D.nl3i2 (a1.extBut _ _ D.nl3TO (c1.extBut _ _ D.nl3i1 (a0.extBut _ _ D.nl3z e))))))⟩ fun y3 f3 t3 p3 q3 c3=>wpAny_pure ?_)
 have c3:Heap.SameBut i3 g2 f3:=c3;have P3:Row3 f3 TO y1 y2 v3:=(c3.extBut _ _ D.ni3TO.symm O2);refine wpAny_bind (wpAny_seqItems P3 rfl ?_);refine wpAny_bind (ayc P3 fun g3 O3 a3 =>?_)
 have a3:Heap.SameBut TO f3 g3:=a3;refine wpAny_bind (wpAny_letGo (wpAny_pure (wpAny_pure ?_)));refine wpAny_bind (wpAny_seqItems O3 rfl (wpAny_bind (wpAny_newTuple ?_)));have sz:g3.objs.size=s.heap.objs.size:=by rw[a3.1,c3.1,a2.1,c2.1,a1.1,c1.1,a0.1]
 have zn:IsZip g3 z TI TO .ellipsis:=(a3.extBut _ _ D.nTOz.symm (c3.extBut _ _ D.ni3z.symm (a2.extBut _ _ D.nTOz.symm (c2.extBut _ _ D.ni2z.symm (a1.extBut _ _ D.nTOz.symm (c1.extBut _ _ D.ni1z.symm z0))))));have kn:∀c o,c≠z->c≠TO->c≠i1->c≠i2->c≠i3->s.heap.get? c=some o->g3.get? c=some o:=fun c o n0 n1 n2 n3 n4 e=>(a3.extBut _ _ n1 (c3.extBut _ _ n4 (a2.extBut _ _ n1 (c2.extBut _ _ n3 (a1.extBut _ _ n1 (c1.extBut _ _ n2 (a0.extBut _ _ n0 e)))))))
 have j1:It1 k1 g3 i1 l1 (i+1):=q1.1.at fun _ e=>(a3.extBut _ _ D.ni1TO (c3.extBut _ _ D.ni3i1.symm (a2.extBut _ _ D.ni1TO (c2.extBut _ _ D.ni2i1.symm (a1.extBut _ _ D.ni1TO e)))))
 have j2:It1 k2 g3 i2 l2 (i+1):=q2.1.at fun _ e=>(a3.extBut _ _ D.ni2TO (c3.extBut _ _ D.ni3i2.symm (a2.extBut _ _ D.ni2TO e)))
 have j3:It1 k3 g3 i3 l3 (i+1):=q3.1.at fun _ e=>(a3.extBut _ _ D.ni3TO e)
 have lz:z < g3.objs.size:=Heap.lt_size zn;refine wpAny_bind (m:=SmallTypes.ownedTupleHandOut (.ref z) (.ref g3.objs.size)) ?_;unfold SmallTypes.ownedTupleHandOut;have zp:IsZip (g3.push { cls:=.type "tuple", data:=.seq #[y1,y2,y3] }) z TI TO .ellipsis:=Heap.get?_push_of_some _ zn;refine wpAny_bind (wpAny_setField_rec zp (by simp) fun e1 z1 b1' =>?_)
 have z1:IsZip e1 z TI TO (rawInt g3.objs.size):=z1;refine wpAny_setField_rec z1 (by simp) fun e2 z2 b2' =>?_
 have z2:IsZip e2 z TI TO (rawInt g3.objs.size):=z2;have up:∀c o,c≠z->g3.get? c=some o->e2.get? c=some o:=fun c o n1 e=>b2'.extBut _ _ n1 (b1'.extBut _ _ n1 (Heap.get?_push_of_some _ e))
 have t2:Row3 e2 g3.objs.size y1 y2 y3:=b2'.extBut _ _ (Nat.ne_of_gt lz) (b1'.extBut _ _ (Nat.ne_of_gt lz) (Heap.get?_push_size _ rfl));have s2':e2.objs.size=g3.objs.size+1:=by rw[b2'.1,b1'.1,Heap.size_push]
 rw[sz] at z2 t2 s2';refine wpAny_pure ⟨_,rfl,?_⟩;show Q (.ref g3.objs.size) _;rw[sz];exact q e2 _ y1 y2 y3 p1 p2 p3 z2 (up _ _ D.nTOz O3) (j1.at fun _ e=>up _ _ D.ni1z e) (j2.at fun _ e=>up _ _ D.ni2z e) (j3.at fun _ e=>up _ _ D.ni3z e) t2 s2' fun c o n0 n1 n2 n3 n4 e=>up c o n0 (kn c o n0 n1 n2 n3 n4 e)
theorem aqx{z TI TO i1 i2 i3 l1 l2 l3:Addr}{k1:Bool}{x1:Array Value}{v1 v2 v3:Value}{Q:Fin->Shared->Prop}(hh:A.handled=none)(D:Apart3 z TI TO i1 i2 i3 l1 l2 l3)
  (hz:IsZip s.heap z TI TO .none) (hI:Row3 s.heap TI (.ref i1) (.ref i2) (.ref i3)) (hO:Row3 s.heap TO v1 v2 v3) (h1:It1 k1 s.heap i1 l1 x1.size) (s1:Sq1 k1 s.heap l1 x1)
  (q:∀h' e,(∀c o,c≠z->c≠i1->s.heap.get? c=some o->h'.get? c=some o)->(∃o,h'.get? e=some o/\o.cls=.type "StopIteration")->E (.ref e) { s with heap:=h' }) :
  wpAny (model prog w) A (Builtin.«zip.__next__» ⟨[.ref z],[]⟩) Q E s:=by
 refine wpAny_bind (m:=field (.ref z) 2) (wpAny_field hz rfl (x:=.bool false) rfl ?_);refine wpAny_bind (m:=field (.ref z) 3) (wpAny_field hz rfl (x:=.ref TI) rfl ?_);refine wpAny_bind (wpAny_seqItems hI rfl ?_);refine wpAny_bind (m:=SmallTypes.ownedTupleIsFree (.ref z)) ?_;unfold SmallTypes.ownedTupleIsFree;refine wpAny_bind (wpAny_field hz rfl (x:=.none) rfl (wpAny_pure ?_));simp only[if_true];refine wpAny_bind (wpAny_rule (wpAny_bind (wpAny_field hz rfl (x:=.ref TO) rfl ?_)));refine wpAny_bind (wpAny_setField_rec hz (by simp) fun g0 z0 a0 =>?_)
 have z0:IsZip g0 z TI TO .ellipsis:=z0;refine wpAny_bind ?_;simp only[List.zipIdx_cons,List.zipIdx_nil,List.forIn_cons,List.forIn_nil];refine wpAny_bind (wpAny_bind (wpAny_onRaise ?_));refine wpAny_bind (m:=SmallTypes.nextOf (.ref i1)) ((src hh k1 i1 l1 D.nl1i1 x1).done _ _ _ ⟨(h1.at fun _ e=>a0.extBut _ _ D.ni1z e),(s1.at fun _ e=>a0.extBut _ _ D.nl1z e)⟩ fun f1 e c1 ⟨oe,he,ce⟩ =>?_)
 have zf:IsZip f1 z TI TO .ellipsis:=c1 _ _ D.ni1z.symm z0;have ez:e≠z:=fun x=>by subst x;rw[zf] at he;cases he;simp at ce
 refine wpAny_setField_rec zf (by simp) fun f2 _ a1=>q f2 e (fun c o n1 n2 y=>a1.extBut _ _ n1 (c1 _ _ n2 (a0.extBut _ _ n1 y))) ⟨oe,a1.extBut _ _ ez he,ce⟩
abbrev anh(h:Heap)(k1 k2 k3:Bool)(l1 l2 l3:Addr):Heap:=h.push { cls:=.type (cond k1 "tuple_iterator" "list_iterator"),data:=.fields #[.ref l1,.int 0 0] }
abbrev ang(h:Heap)(k1 k2 k3:Bool)(l1 l2 l3:Addr):Heap:=(anh h k1 k2 k3 l1 l2 l3).push { cls:=.type (cond k2 "tuple_iterator" "list_iterator"),data:=.fields #[.ref l2,.int 0 0] }
abbrev aq3(h:Heap)(k1 k2 k3:Bool)(l1 l2 l3:Addr):Heap:=(ang h k1 k2 k3 l1 l2 l3).push { cls:=.type (cond k3 "tuple_iterator" "list_iterator"),data:=.fields #[.ref l3,.int 0 0] }
abbrev aq1(h:Heap)(k1 k2 k3:Bool)(l1 l2 l3:Addr):Heap:=(aq3 h k1 k2 k3 l1 l2 l3).push { cls:=.type "tuple", data:=.seq #[.ref h.objs.size,.ref (anh h k1 k2 k3 l1 l2 l3).objs.size,.ref (ang h k1 k2 k3 l1 l2 l3).objs.size] }
abbrev aqz(h:Heap)(k1 k2 k3:Bool)(l1 l2 l3:Addr):Heap:=(aq1 h k1 k2 k3 l1 l2 l3).push { cls:=.type "tuple", data:=.seq #[.none,.none,.none] }
abbrev ahx(h:Heap)(k1 k2 k3:Bool)(l1 l2 l3:Addr):Heap:=(aqz h k1 k2 k3 l1 l2 l3).push { cls:=.type "zip", data:=.fields #[.none,.bool false,.bool false,.ref (aq3 h k1 k2 k3 l1 l2 l3).objs.size,.ref (aq1 h k1 k2 k3 l1 l2 l3).objs.size] }
set_option maxHeartbeats 2000000 in
theorem av5(k1 k2 k3:Bool)(l1 l2 l3:Addr)(x1 x2 x3:Array Value) :
  Meets (Builtin.«zip.__new__» ⟨[.type "zip", .ref l1,.ref l2,.ref l3],[]⟩) (fun _ R s=>Sq1 k1 s.heap l1 x1/\Sq1 k2 s.heap l2 x2/\Sq1 k3 s.heap l3 x3/\R (.ok (.ret (.ref (aqz s.heap k1 k2 k3 l1 l2 l3).objs.size))) { s with heap:=ahx s.heap k1 k2 k3 l1 l2 l3 }) :=
 .of_wp fun prog w A R s h=>by
  obtain⟨hp,g,d,tk,os⟩:=s;obtain⟨s1,s2,s3,h⟩:=h;have sb:=sub_zip;have r1:Sq1 k1 (Shared.heap ⟨hp,g,d,tk,os⟩) l1 x1:=s1.at fun _ e=>e
  have r2:Sq1 k2 (Shared.heap ⟨anh hp k1 k2 k3 l1 l2 l3,g,d,tk,os⟩) l2 x2:=s2.at fun _ e=>Heap.get?_push_of_some _ (e)
  have r3:Sq1 k3 (Shared.heap ⟨ang hp k1 k2 k3 l1 l2 l3,g,d,tk,os⟩) l3 x3:=s3.at fun _ e=>Heap.get?_push_of_some _ (Heap.get?_push_of_some _ (e))
  wp_walk using akf r1,akf r2,akf r3;exact⟨_,rfl,h⟩
theorem aqd{k1 k2 k3:Bool}{l1 l2 l3:Addr}{x1 x2 x3:Array Value}{Q:Value->Shared->Prop}(s1:Sq1 k1 s.heap l1 x1)(s2:Sq1 k2 s.heap l2 x2)(s3:Sq1 k3 s.heap l3 x3)
  (q:∀h',IsZip h' (s.heap.objs.size+5) (s.heap.objs.size+3) (s.heap.objs.size+4) .none->Row3 h' (s.heap.objs.size+3) (.ref s.heap.objs.size) (.ref (s.heap.objs.size+1)) (.ref (s.heap.objs.size+2))->Row3 h' (s.heap.objs.size+4) .none .none .none->It1 k1 h' s.heap.objs.size l1 0->It1 k2 h' (s.heap.objs.size+1) l2 0->It1 k3 h' (s.heap.objs.size+2) l3 0->h'.objs.size=s.heap.objs.size+6->(∀c o,s.heap.get? c=some o->h'.get? c=some o)->Q (.ref (s.heap.objs.size+5)) { s with heap:=h' }) :
  wpAny (model prog w) A (call (.type "zip") [.ref l1,.ref l2,.ref l3]) Q E s:=by
 refine callType_new F.called_zip (by decide) (aus _ _ _) (av3 _ _ _) (fun obj=>axl obj _ _ _) F.entry_zip_new (av5 k1 k2 k3 l1 l2 l3 x1 x2 x3) ⟨s1,s2,s3,?_⟩
 have e1:(anh s.heap k1 k2 k3 l1 l2 l3).objs.size=s.heap.objs.size+1:=by rw[Heap.size_push]
 have e2:(ang s.heap k1 k2 k3 l1 l2 l3).objs.size=s.heap.objs.size+2:=by rw[Heap.size_push,e1]
 have e3:(aq3 s.heap k1 k2 k3 l1 l2 l3).objs.size=s.heap.objs.size+3:=by rw[Heap.size_push,e2]
 have eI:(aq1 s.heap k1 k2 k3 l1 l2 l3).objs.size=s.heap.objs.size+4:=by rw[Heap.size_push,e3]
 have eO:(aqz s.heap k1 k2 k3 l1 l2 l3).objs.size=s.heap.objs.size+5:=by rw[Heap.size_push,eI]
 have eZ:(ahx s.heap k1 k2 k3 l1 l2 l3).objs.size=s.heap.objs.size+6:=by rw[Heap.size_push,eO]
 have gZ:(ahx s.heap k1 k2 k3 l1 l2 l3).get? (aqz s.heap k1 k2 k3 l1 l2 l3).objs.size=some _:=Heap.get?_push_size _ rfl;have gO:(ahx s.heap k1 k2 k3 l1 l2 l3).get? (aq1 s.heap k1 k2 k3 l1 l2 l3).objs.size=some _:=Heap.get?_push_of_some _ (Heap.get?_push_size _ rfl);have gI:(ahx s.heap k1 k2 k3 l1 l2 l3).get? (aq3 s.heap k1 k2 k3 l1 l2 l3).objs.size=some _:=Heap.get?_push_of_some _ (Heap.get?_push_of_some _ (Heap.get?_push_size _ rfl));have j1:(ahx s.heap k1 k2 k3 l1 l2 l3).get? s.heap.objs.size=some _:=Heap.get?_push_of_some _ (Heap.get?_push_of_some _ (Heap.get?_push_of_some _ (Heap.get?_push_of_some _ (Heap.get?_push_of_some _ (Heap.get?_push_size _ rfl)))));have j2:(ahx s.heap k1 k2 k3 l1 l2 l3).get? (anh s.heap k1 k2 k3 l1 l2 l3).objs.size=some _:=Heap.get?_push_of_some _ (Heap.get?_push_of_some _ (Heap.get?_push_of_some _ (Heap.get?_push_of_some _ (Heap.get?_push_size _ rfl))));have j3:(ahx s.heap k1 k2 k3 l1 l2 l3).get? (ang s.heap k1 k2 k3 l1 l2 l3).objs.size=some _:=Heap.get?_push_of_some _ (Heap.get?_push_of_some _ (Heap.get?_push_of_some _ (Heap.get?_push_size _ rfl)));show _/\_;rw[e3,eI,eO] at gZ;rw[e1,e2,e3] at gI;rw[eI] at gO;rw[e1] at j2;rw[e2] at j3;rw[eO];exact⟨⟨_,gZ,rfl⟩,q _ gZ gI gO (adl j1) (adl j2) (adl j3) eZ fun c o x=>Heap.get?_push_of_some _ (Heap.get?_push_of_some _ (Heap.get?_push_of_some _ (Heap.get?_push_of_some _ (Heap.get?_push_of_some _ (Heap.get?_push_of_some _ (x))))))⟩
end
end En
namespace Mn
open L2 En
def SqK(k:Bool)(K:Fg9)(H:Hp)(a:Addr)(xs:List V):Prop:=cond k (SqT K H a xs) (SqL K H a xs)
theorem yq{xs:List V}{us:List Value}(r:Vals xs us){i:Nat}{x:V}{u:Value}(h:xs[i]? = some x)(h':us.toArray[i]? = some u):RelV x u:=by
 obtain⟨u',e,z⟩:=r.get h;have:us[i]? = some u:=by simpa using h'
 rw[this] at e;cases e;exact z
section
variable{X:Cx}{zv:List (Addr×Obj)}{σ:L2.St}{H:Hp}{s:Shared}{h':Heap}{a:Addr}{xs ys:List V}{k:Bool}
theorem v9(I:Inv X zv σ H s)(h:SqK k X.K H a xs):∃its:List Value,Vals xs its/\Sq1 k s.heap a its.toArray:=by
 cases k with
 | false =>
  obtain⟨its,r,p,_⟩:=I.list h;exact⟨its,r,p.isList⟩
 | true =>
  obtain⟨its,r,p,_⟩:=I.tuple h;exact⟨its,r,p⟩
theorem adm(I:Inv X zv σ H s)(h:SqK k X.K H a xs)(h2:SqK k X.K H a ys):xs=ys:=by
 cases k with
 | false=>exact I.list_inj h h2
 | true=>exact I.tuple_inj h h2
theorem abh{t':Nat}{fp:List Addr}(I:Inv X zv σ H s)(kk:∀b o,b∉fp->s.heap.get? b=some o->h'.get? b=some o)(hf:∀b∈fp,FpOk X zv H b):Inv X zv σ H { s with heap:=h',toks:=t' }:=by
 have nit:∀b u,H b=some u->b∉fp:=fun b u e z=>by rw[(hf b z).1] at e;cases e
 have nL:X.env.locals∉fp:=fun z=>(hf _ z).2.1 rfl
 refine I.step (g':=s.gens) (d':=s.drawn) (ch:=fp) (fun b hb=>⟨(hf b hb).2.2.2.1,(hf b hb).2.1,(hf b hb).2.2.2.2.1,(hf b hb).2.2.2.2.2⟩) (fun b o _ _ hc e _=>kk b o hc e) (fun b o _ _ hc e _=>⟨o.slots,kk b o hc e⟩) (fun _ _ _ _ n=>n)
  (fun b o hc e=>⟨o,kk b o hc e⟩) (fun _ _ e=>e) (fun _ _ _ e=>e) (fun b ps e=>⟨#[],by rw[e];simp⟩) (fun m hm =>?_) (fun b u e =>?_) I.bare
 ·obtain⟨o,es,ep,ho,r⟩:=hm;exact⟨o,es,ep,kk _ o nL ho,r⟩
 ·refine(I.hok b u e).stay (fun c v hc q=>kk c v ?_ q) (fun _ q=>q) fun _ _ q=>q
  rcases hc with z | z
  ·rw[z];exact nit b u e
  ·exact nit c _ z
theorem aki{t':Nat}{fp:List Addr}{vs:List V}{us:List Value}(I:Inv X zv σ H s)(kk:∀b o,b∉fp->s.heap.get? b=some o->h'.get? b=some o)(hf:∀b∈fp,FpOk X zv H b)(hb:∀b∈fp,b < s.heap.objs.size)
  (r:Vals vs us) (hz:vs.length<=sizeLine) (ht:h'.get? s.heap.objs.size=some { cls:=.type "tuple", data:=.seq us.toArray }):Inv X zv σ (upd H s.heap.objs.size (.tup vs)) { s with heap:=h',toks:=t' }:=by
 have I1:=I.laid (h':=s.heap.push { cls:=.type "tuple", data:=.seq us.toArray }) (t':=s.toks) (a:=s.heap.objs.size) (o:=.tup vs) (fun b u e=>Heap.get?_push_of_some _ e) (Nat.le_refl _) ⟨hz,us,r,⟨_,Heap.get?_push_size _ rfl,rfl,rfl,_,rfl⟩⟩
 have k2:∀b o,b∉fp->(s.heap.push { cls:=.type "tuple", data:=.seq us.toArray }).get? b=some o->h'.get? b=some o:=fun b o hn e=>by
  rcases Heap.get?_push_cases e with⟨rfl,rfl⟩ | e
  ·exact ht
  ·exact kk b o hn e
 have f2:∀b∈fp,FpOk X zv (upd H s.heap.objs.size (.tup vs)) b:=fun b hb'=>by
  obtain⟨f0,f⟩:=hf b hb';exact⟨by rw[cu (Nat.ne_of_lt (hb b hb'))];exact f0,f⟩
 have R:=abh (t':=t') (h':=h') (fp:=fp) I1 k2 f2;exact R
end
theorem at4{k:Bool}{h:Heap}{it a l:Addr}{i:Nat}{xs:Array Value}(x:It1 k h it l i){k':Bool}(y:Sq1 k' h a xs):a≠it:=fun e=>by
 subst e;cases k <;> cases k' <;> exact(by
  obtain⟨o,e1,c1,_⟩:=x;obtain⟨o',e2,c2,_⟩:=y;rw[e1] at e2;cases e2;rw[c1] at c2;simp at c2)
theorem a2q{h:Heap}{a b:Addr}{o:Obj}{n:String}{k:Bool}{xs:Array Value}(e:h.get? b=some o)(c:o.cls=.type n)(hn:n ≠ "list" /\ n ≠ "tuple")(y:Sq1 k h a xs):a≠b:=fun z=>by
 subst z;cases k <;> exact(by
  obtain⟨o',e2,c2,_⟩:=y;rw[e] at e2;cases e2;rw[c] at c2;simp at c2
  first | exact hn.1 c2 | exact hn.2 c2)
def Ite(K:Fg9)(k:Bool)(a:Addr):It :=
 ⟨fun i H=>∃xs x,SqK k K H a xs/\xs[i]? = some x,fun i H x H'=>∃q v,H q=none/\x=.ref q/\H'=upd H q (.tup [.int i,v])/\∀xs,SqK k K H a xs->xs[i]? = some v,fun i H=>∃xs,SqK k K H a xs/\xs.length=i⟩
theorem ant{P:Program}{w:World}{K:Fg9}{elts:List Expr}{n:Nat}{pos:Pos}(k:Bool)(a e it:Addr)(ne:e≠it) :
  Turn P w K (.Tuple elts n pos) (Ite K k a) [e,it] e (fun i h=>(∃old,IsEnum h e it i old)/\It1 k h it a i) where
 mem:=by simp
 obj:=fun i h st b hb=>by
  have hb:b=e∨b=it:=by simpa using hb
  rcases hb with rfl | rfl
  ·obtain⟨old,z⟩:=st.1;exact⟨_,z,fun v z=>by cases z⟩
  ·exact st.2.got
 keep:=fun i h h' st kk=>by
  obtain⟨⟨old,z⟩,y⟩:=st;exact⟨⟨old,kk e (by simp) _ z⟩,y.at fun o z=>kk it (by simp) o z⟩
 item:=by
  intro X hP hw hK hc i zv s σ H E I hf st hg;subst hP hw hK;obtain⟨⟨old,he⟩,hi⟩:=st;obtain⟨xs,x,hq,hx⟩:=hg;obtain⟨its,rv,sq⟩:=v9 I hq;obtain⟨u,hu,ru⟩:=rv.get hx;have hlt:i < its.toArray.size:=by simpa using (List.getElem?_eq_some_iff.mp hu).1
  have nai:=at4 hi sq;have nae:a≠e:=a2q he rfl (by decide) sq
  have D:=En.src (prog:=X.prog) (w:=X.w) (A:=X.A.in1) (I.ok.hd hc) k it a nai its.toArray;refine wpAny_pyNext_enum_itemD D he ⟨hi,sq⟩ hlt ne (by simp[ne,nae.symm]) fun y g tk hy ho hs hT hz hk =>?_
  refine⟨_,rfl,wpAny_letOwnedTupleGo_enum ho fun g2 he2 sb =>?_⟩
  have ry:=yq rv hx hy;have lte:e < s.heap.objs.size:=Heap.lt_size he;have lti:it < s.heap.objs.size:=by obtain⟨o,z,_⟩:=hi.got;exact Heap.lt_size z
  have fr:H s.heap.objs.size=none:=I.hok.fresh (Nat.le_refl _);refine⟨.ref s.heap.objs.size,upd H s.heap.objs.size (.tup [.int i,x]),?_,rfl,⟨_,x,fr,rfl,rfl,fun ys hy=>by rw[adm I hy hq];exact hx⟩,⟨⟨_,he2⟩,hs.1.at fun o z=>sb.extBut _ _ ne.symm z⟩,fun b hb =>?_⟩
  ·refine aki (fp:=[e,it]) (us:=[.int i tk,y]) I (fun b o hn z =>?_) hf (fun b hb =>?_) (.cons ⟨tk,rfl⟩ (.cons ry .nil)) (by rw[sizeLine_eq];simp) (sb.extBut _ _ (Nat.ne_of_gt lte) hT)
   ·have h1:b≠e:=fun z=>hn (by simp[z])
    have h2:b≠it:=fun z=>hn (by simp[z])
    exact sb.extBut _ _ h1 (hk b o h1 h2 z)
   ·have hb:b=e∨b=it:=by simpa using hb
    rcases hb with rfl | rfl
    ·exact lte
    ·exact lti
  ·have hb':b=e∨b=it:=by simpa using hb
   rw[cu (by rcases hb' with rfl | rfl;exact Nat.ne_of_lt lte;exact Nat.ne_of_lt lti)]
   exact(hf b hb).1
 done:=by
  intro X hP hw hK hc i zv s σ H E I hf st hg;subst hP hw hK;obtain⟨⟨old,he⟩,hi⟩:=st;obtain⟨xs,hq,hx⟩:=hg;obtain⟨its,rv,sq⟩:=v9 I hq;have hl:i=its.toArray.size:=by have:=rv.length;simp;omega
  subst hl;have D:=En.src (prog:=X.prog) (w:=X.w) (A:=X.A.in1) (I.ok.hd hc) k it a (at4 hi sq) its.toArray;refine wpAny_pyNext_enum_endD D he ⟨hi,sq⟩ fun g eb=>⟨rfl,abh (t':=s.toks) (fp:=[e,it]) I (fun b o hn z=>eb b o (fun z=>hn (by simp[z])) z) hf⟩
 self:=fun _ _ _ _ _ st h=>let ⟨_,z⟩:=st.1;wpAny_pyIter_enum z h
theorem aui:bootBuiltins "zip" = some (.type "zip"):=by decide +kernel
section
variable{X:Cx}
def a4m(K:Fg9)(ta:TA):TI:=fun σ H R=>ta σ H fun vs H1=>∃a k,vs=[.ref a]/\(∃xs,SqK k K H1 a xs)/\R (Ite K k a) H1
theorem avi{a:Expr}{ta:TA}{p pos:Pos}{elts:List Expr}{n:Nat}{tp:Pos}(hg:Gl X "enumerate")(hm:X.mg "enumerate" = none)(ha:PA X [a] ta)(hs:starEach [a] X.env=[(false,eval a X.env)]:=by rfl) :
  PI X (.Tuple elts n tp) (.Call (.Name "enumerate" p) [a] [] pos) (a4m X.K ta):=by
 intro zv s σ H R I h;refine Call_ (ae2 I hg hm ajl (PyProof.Rows.callWith_type1 (thn (ha pos zv s σ H _ I h) fun us s1 ⟨vs,H1,I1,r1,q1⟩ =>?_) hs rfl))
 obtain⟨b,k,rfl,⟨xs,hq⟩,q⟩:=q1;obtain⟨u,rfl,ru⟩:=vals1 r1;cases ru;obtain⟨its,rv,sq⟩:=v9 I1 hq;refine aqi sq fun g he hi hz kk=>wpAny_pyIter_enum he ?_
 have I2:Inv X zv σ H1 { s1 with heap:=g }:=I1.kept (t':=s1.toks) kk
 refine⟨_,[s1.heap.objs.size+1,s1.heap.objs.size],_,_,H1,rfl,I2,ant k b _ _ (Nat.succ_ne_self _),⟨⟨_,he⟩,hi⟩,fun c hc =>?_,q⟩
 have hc:c=s1.heap.objs.size+1∨c=s1.heap.objs.size:=by simpa using hc
 rcases hc with rfl | rfl
 ·exact I1.fpOk (Nat.le_succ _) (I1.hok.fresh (Nat.le_succ _))
 ·exact I1.fpOk (Nat.le_refl _) (I1.hok.fresh (Nat.le_refl _))
end
end Mn
namespace En
open PySem PySem.Builtin
theorem alc{prog:Program}{w:World}{A:Around}{E:Value->Shared->Prop}{s:Shared}{z TI TO:Addr}{f0:Value}{Q:Option Value->Shared->Prop}(hz:IsZip s.heap z TI TO f0)
  (h:wpAny (model prog w) A.in1 (Builtin.«zip.__next__» ⟨[.ref z],[]⟩) (fun fin s'=>∃v,fin=.done (.ret v)/\Q (some v) s') (fun e s'=>∃a o,e=.ref a/\s'.heap.get? a=some o/\o.cls=.type "StopIteration" /\ Q none s') s) :
  wpAny (model prog w) A (pyNext (.ref z)) Q E s:=by
 have tz:s.TypeIs (.ref z) "zip" := ⟨_,hz,rfl⟩;unfold pyNext;refine wpAny_bind (wpAny_attempt (wpAny_callSpecial?_slot (name:=Str.ofString "__next__") tz F.slot_zip_next (wpAny_call_entry F.slot_zip_next tz F.entry_zip_next (wpAny_mono h (fun fin s' ⟨v,e,q⟩=>⟨v,e,wpAny_pure q⟩) fun e s' ⟨a,o,e1,e2,e3,q⟩ =>?_) (F.args_zip_next_1 _))))
 subst e1;exact wpAny_bind (wpAny_isInstance (T := "StopIteration") (b:=true) ⟨o,e2,e3⟩ isSubtype_stop (wpAny_pure q))
end En
namespace Mn
open L2 En
def Itz2(K:Fg9)(k1 k2:Bool)(a1 a2:Addr):It :=
 ⟨fun i H=>∃x1 x2 v1 v2,(SqK k1 K H a1 x1/\x1[i]? = some v1)/\(SqK k2 K H a2 x2/\x2[i]? = some v2),fun i H x H'=>∃q v1 v2,H q=none/\x=.ref q/\H'=upd H q (.tup [v1,v2])/\(∀xs,SqK k1 K H a1 xs->xs[i]? = some v1)/\(∀xs,SqK k2 K H a2 xs->xs[i]? = some v2),fun i H=>∃xs,SqK k1 K H a1 xs/\xs.length=i⟩
theorem anq{P:Program}{w:World}{K:Fg9}{elts:List Expr}{n:Nat}{pos:Pos}(k1 k2:Bool)(a1 a2 z TI TO i1 i2:Addr)(D:Apart2 z TI TO i1 i2 a1 a2) :
  Turn P w K (.Tuple elts n pos) (Itz2 K k1 k2 a1 a2) [z,TI,TO,i1,i2] z (fun i h=>IsZip h z TI TO .none/\Row2 h TI (.ref i1) (.ref i2)/\(∃v1 v2,Row2 h TO v1 v2)/\It1 k1 h i1 a1 i/\It1 k2 h i2 a2 i) where
 mem:=by simp
 obj:=fun i h ⟨hz,hI,⟨v1,v2,hO⟩,h1,h2⟩ b hb=>by
  have hb:b=z∨b=TI∨b=TO∨b=i1∨b=i2:=by simpa using hb
  rcases hb with rfl | rfl | rfl | rfl | rfl
  ·exact⟨_,hz,fun v z=>by cases z⟩
  ·exact⟨_,hI,fun v z=>by cases z⟩
  ·exact⟨_,hO,fun v z=>by cases z⟩
  ·exact h1.got
  ·exact h2.got
 keep:=fun i h h' ⟨hz,hI,⟨v1,v2,hO⟩,h1,h2⟩ kk=>⟨kk z (by simp) _ hz,kk TI (by simp) _ hI,⟨v1,v2,kk TO (by simp) _ hO⟩,h1.at fun o e=>kk i1 (by simp) o e,h2.at fun o e=>kk i2 (by simp) o e⟩
 item:=by
  intro X hP hw hK hc i zv s σ H E I hf st hg;subst hP hw hK;obtain⟨hz,hI,⟨o1,o2,hO⟩,h1,h2⟩:=st;obtain⟨x1,x2,v1,v2,⟨hq1,hx1⟩,⟨hq2,hx2⟩⟩:=hg;obtain⟨t1,r1,s1⟩:=v9 I hq1;obtain⟨u1,hu1,_⟩:=r1.get hx1;have b1:i < t1.toArray.size:=by simpa using (List.getElem?_eq_some_iff.mp hu1).1
  obtain⟨t2,r2,s2⟩:=v9 I hq2;obtain⟨u2,hu2,_⟩:=r2.get hx2;have b2:i < t2.toArray.size:=by simpa using (List.getElem?_eq_some_iff.mp hu2).1
  refine alc hz (anf (I.ok.hd hc) D hz hI hO h1 s1 h2 s2 b1 b2 fun g tk y1 y2 p1 p2 z2 O2 j1 j2 T2 hsz hk =>?_)
  refine⟨_,rfl,wpAny_letOwnedTupleGo_zip z2 fun g2 he2 sb =>?_⟩
  have fr:H s.heap.objs.size=none:=I.hok.fresh (Nat.le_refl _);have lt:∀b∈[z,TI,TO,i1,i2],b < s.heap.objs.size:=fun b hb=>by
   have hb:b=z∨b=TI∨b=TO∨b=i1∨b=i2:=by simpa using hb
   rcases hb with rfl | rfl | rfl | rfl | rfl
   ·exact Heap.lt_size hz
   ·exact Heap.lt_size hI
   ·exact Heap.lt_size hO
   ·obtain⟨o,e,_⟩:=h1.got;exact Heap.lt_size e
   ·obtain⟨o,e,_⟩:=h2.got;exact Heap.lt_size e
  have up:∀b o,b∉[z,TI,TO,i1,i2]->s.heap.get? b=some o->g2.get? b=some o:=fun b o hn e=>sb.extBut _ _ (fun x=>hn (by simp[x])) (hk b o (fun x=>hn (by simp[x])) (fun x=>hn (by simp[x])) (fun x=>hn (by simp[x])) (fun x=>hn (by simp[x])) e)
  have TI2:g2.get? TI=_:=sb.extBut _ _ D.nTIz (hk TI _ D.nTIz D.nTOTI.symm D.ni1TI.symm D.ni2TI.symm hI);refine⟨.ref s.heap.objs.size,upd H s.heap.objs.size (.tup [v1,v2]),?_,rfl,⟨_,v1,v2,fr,rfl,rfl,fun ys hy=>by rw[adm I hy hq1];exact hx1,fun ys hy=>by rw[adm I hy hq2];exact hx2⟩,⟨he2,TI2,⟨y1,y2,sb.extBut _ _ D.nTOz O2⟩,(j1.at fun o e=>sb.extBut _ _ D.ni1z e),(j2.at fun o e=>sb.extBut _ _ D.ni2z e)⟩,fun b hb =>?_⟩
  ·exact aki (fp:=[z,TI,TO,i1,i2]) (us:=[y1,y2]) I up hf lt (.cons (yq r1 hx1 p1) (.cons (yq r2 hx2 p2) .nil)) (by rw[sizeLine_eq];simp) (sb.extBut _ _ (Nat.ne_of_gt (lt z (by simp))) T2)
  ·rw[cu (Nat.ne_of_lt (lt b hb))];exact(hf b hb).1
 done:=by
  intro X hP hw hK hc i zv s σ H E I hf st hg;subst hP hw hK;obtain⟨hz,hI,⟨o1,o2,hO⟩,h1,h2⟩:=st;obtain⟨xs,hq,hx⟩:=hg;obtain⟨its,rv,sq⟩:=v9 I hq;have hl:i=its.toArray.size:=by have:=rv.length;simp;omega
  subst hl;refine alc hz (aqy (I.ok.hd hc) D hz hI hO h1 sq fun g e kk ⟨o,he,ce⟩=>⟨e,o,rfl,he,ce,rfl,abh (t':=s.toks) (fp:=[z,TI,TO,i1,i2]) I (fun b o hn z=>kk b o (fun z=>hn (by simp[z])) (fun z=>hn (by simp[z])) z) hf⟩)
 self:=fun _ _ _ _ _ st h=>wpAny_pyIter_zip st.1 h
theorem apart2{N l1 l2:Nat}(h1:l1 < N)(h2:l2 < N):Apart2 (N+4) (N+2) (N+3) N (N+1) l1 l2:=by
 constructor <;> (intro e;have e:(_:Nat)=_:=e;omega)
section
variable{X:Cx}
def a4j(K:Fg9)(ta:TA):TI:=fun σ H R=>ta σ H fun vs H1=>∃a1 a2 k1 k2,vs=[.ref a1,.ref a2]/\(∃xs,SqK k1 K H1 a1 xs)/\(∃xs,SqK k2 K H1 a2 xs)/\R (Itz2 K k1 k2 a1 a2) H1
theorem avh{e1 e2:Expr}{ta:TA}{p pos:Pos}{elts:List Expr}{n:Nat}{tp:Pos}(hg:Gl X "zip")(hm:X.mg "zip" = none)(ha:PA X [e1,e2] ta)(hs:starEach [e1,e2] X.env=[(false,eval e1 X.env),(false,eval e2 X.env)]:=by rfl)(hs2:starEach [e2] X.env=[(false,eval e2 X.env)]:=by rfl) :
  PI X (.Tuple elts n tp) (.Call (.Name "zip" p) [e1,e2] [] pos) (a4j X.K ta):=by
 intro zv s σ H R I h;refine Call_ (ae2 I hg hm aui (PyProof.Rows.callWith_type1 (thn (ha pos zv s σ H _ I h) fun us s1 ⟨vs,H1,I1,r1,q1⟩ =>?_) (by rw[hs,hs2]) (by rw[hs2];rfl)))
 obtain⟨a1,a2,k1,k2,rfl,⟨x1,hq1⟩,⟨x2,hq2⟩,q⟩:=q1;obtain⟨u1,u2,rfl,ru1,ru2⟩:=vals2 r1;cases ru1;cases ru2;obtain⟨t1,r1',sq1⟩:=v9 I1 hq1;have b1:a1 < s1.heap.objs.size:=by obtain⟨o,e⟩:=sq1.got;exact Heap.lt_size e
 obtain⟨t2,r2',sq2⟩:=v9 I1 hq2;have b2:a2 < s1.heap.objs.size:=by obtain⟨o,e⟩:=sq2.got;exact Heap.lt_size e
 refine aqe sq1 sq2 fun g hz hI hO h1 h2 hsz kk=>wpAny_pyIter_zip hz ?_
 have I2:Inv X zv σ H1 { s1 with heap:=g }:=I1.kept (t':=s1.toks) kk
 refine⟨_,[s1.heap.objs.size+4,s1.heap.objs.size+2,s1.heap.objs.size+3,s1.heap.objs.size,s1.heap.objs.size+1],_,_,H1,rfl,I2,anq k1 k2 a1 a2 _ _ _ _ _ (apart2 b1 b2),⟨hz,hI,⟨_,_,hO⟩,h1,h2⟩,fun c hc =>?_,q⟩
 have hc:s1.heap.objs.size<=c:=by
  simp only[List.mem_cons,List.not_mem_nil,or_false] at hc;rcases hc with rfl | rfl | rfl | rfl | rfl <;> first | exact Nat.le_refl _ | exact Nat.le_add_right _ _
 exact I1.fpOk hc (I1.hok.fresh hc)
end
def Itz3(K:Fg9)(k1 k2 k3:Bool)(a1 a2 a3:Addr):It :=
 ⟨fun i H=>∃x1 x2 x3 v1 v2 v3,(SqK k1 K H a1 x1/\x1[i]? = some v1)/\(SqK k2 K H a2 x2/\x2[i]? = some v2)/\(SqK k3 K H a3 x3/\x3[i]? = some v3),fun i H x H'=>∃q v1 v2 v3,H q=none/\x=.ref q/\H'=upd H q (.tup [v1,v2,v3])/\(∀xs,SqK k1 K H a1 xs->xs[i]? = some v1)/\(∀xs,SqK k2 K H a2 xs->xs[i]? = some v2)/\(∀xs,SqK k3 K H a3 xs->xs[i]? = some v3),fun i H=>∃xs,SqK k1 K H a1 xs/\xs.length=i⟩
theorem anp{P:Program}{w:World}{K:Fg9}{elts:List Expr}{n:Nat}{pos:Pos}(k1 k2 k3:Bool)(a1 a2 a3 z TI TO i1 i2 i3:Addr)(D:Apart3 z TI TO i1 i2 i3 a1 a2 a3) :
  Turn P w K (.Tuple elts n pos) (Itz3 K k1 k2 k3 a1 a2 a3) [z,TI,TO,i1,i2,i3] z (fun i h=>IsZip h z TI TO .none/\Row3 h TI (.ref i1) (.ref i2) (.ref i3)/\(∃v1 v2 v3,Row3 h TO v1 v2 v3)/\It1 k1 h i1 a1 i/\It1 k2 h i2 a2 i/\It1 k3 h i3 a3 i) where
 mem:=by simp
 obj:=fun i h ⟨hz,hI,⟨v1,v2,v3,hO⟩,h1,h2,h3⟩ b hb=>by
  have hb:b=z∨b=TI∨b=TO∨b=i1∨b=i2∨b=i3:=by simpa using hb
  rcases hb with rfl | rfl | rfl | rfl | rfl | rfl
  ·exact⟨_,hz,fun v z=>by cases z⟩
  ·exact⟨_,hI,fun v z=>by cases z⟩
  ·exact⟨_,hO,fun v z=>by cases z⟩
  ·exact h1.got
  ·exact h2.got
  ·exact h3.got
 keep:=fun i h h' ⟨hz,hI,⟨v1,v2,v3,hO⟩,h1,h2,h3⟩ kk=>⟨kk z (by simp) _ hz,kk TI (by simp) _ hI,⟨v1,v2,v3,kk TO (by simp) _ hO⟩,h1.at fun o e=>kk i1 (by simp) o e,h2.at fun o e=>kk i2 (by simp) o e,h3.at fun o e=>kk i3 (by simp) o e⟩
 item:=by
  intro X hP hw hK hc i zv s σ H E I hf st hg;subst hP hw hK;obtain⟨hz,hI,⟨o1,o2,o3,hO⟩,h1,h2,h3⟩:=st;obtain⟨x1,x2,x3,v1,v2,v3,⟨hq1,hx1⟩,⟨hq2,hx2⟩,⟨hq3,hx3⟩⟩:=hg;obtain⟨t1,r1,s1⟩:=v9 I hq1;obtain⟨u1,hu1,_⟩:=r1.get hx1;have b1:i < t1.toArray.size:=by simpa using (List.getElem?_eq_some_iff.mp hu1).1
  obtain⟨t2,r2,s2⟩:=v9 I hq2;obtain⟨u2,hu2,_⟩:=r2.get hx2;have b2:i < t2.toArray.size:=by simpa using (List.getElem?_eq_some_iff.mp hu2).1
  obtain⟨t3,r3,s3⟩:=v9 I hq3;obtain⟨u3,hu3,_⟩:=r3.get hx3;have b3:i < t3.toArray.size:=by simpa using (List.getElem?_eq_some_iff.mp hu3).1
  refine alc hz (ane (I.ok.hd hc) D hz hI hO h1 s1 h2 s2 h3 s3 b1 b2 b3 fun g tk y1 y2 y3 p1 p2 p3 z2 O2 j1 j2 j3 T2 hsz hk =>?_)
  refine⟨_,rfl,wpAny_letOwnedTupleGo_zip z2 fun g2 he2 sb =>?_⟩
  have fr:H s.heap.objs.size=none:=I.hok.fresh (Nat.le_refl _);have lt:∀b∈[z,TI,TO,i1,i2,i3],b < s.heap.objs.size:=fun b hb=>by
   have hb:b=z∨b=TI∨b=TO∨b=i1∨b=i2∨b=i3:=by simpa using hb
   rcases hb with rfl | rfl | rfl | rfl | rfl | rfl
   ·exact Heap.lt_size hz
   ·exact Heap.lt_size hI
   ·exact Heap.lt_size hO
   ·obtain⟨o,e,_⟩:=h1.got;exact Heap.lt_size e
   ·obtain⟨o,e,_⟩:=h2.got;exact Heap.lt_size e
   ·obtain⟨o,e,_⟩:=h3.got;exact Heap.lt_size e
  have up:∀b o,b∉[z,TI,TO,i1,i2,i3]->s.heap.get? b=some o->g2.get? b=some o:=fun b o hn e=>sb.extBut _ _ (fun x=>hn (by simp[x])) (hk b o (fun x=>hn (by simp[x])) (fun x=>hn (by simp[x])) (fun x=>hn (by simp[x])) (fun x=>hn (by simp[x])) (fun x=>hn (by simp[x])) e)
  have TI2:g2.get? TI=_:=sb.extBut _ _ D.nTIz (hk TI _ D.nTIz D.nTOTI.symm D.ni1TI.symm D.ni2TI.symm D.ni3TI.symm hI);refine⟨.ref s.heap.objs.size,upd H s.heap.objs.size (.tup [v1,v2,v3]),?_,rfl,⟨_,v1,v2,v3,fr,rfl,rfl,fun ys hy=>by rw[adm I hy hq1];exact hx1,fun ys hy=>by rw[adm I hy hq2];exact hx2,fun ys hy=>by rw[adm I hy hq3];exact hx3⟩,⟨he2,TI2,⟨y1,y2,y3,sb.extBut _ _ D.nTOz O2⟩,(j1.at fun o e=>sb.extBut _ _ D.ni1z e),(j2.at fun o e=>sb.extBut _ _ D.ni2z e),(j3.at fun o e=>sb.extBut _ _ D.ni3z e)⟩,fun b hb =>?_⟩
  ·exact aki (fp:=[z,TI,TO,i1,i2,i3]) (us:=[y1,y2,y3]) I up hf lt (.cons (yq r1 hx1 p1) (.cons (yq r2 hx2 p2) (.cons (yq r3 hx3 p3) .nil))) (by rw[sizeLine_eq];simp) (sb.extBut _ _ (Nat.ne_of_gt (lt z (by simp))) T2)
  ·rw[cu (Nat.ne_of_lt (lt b hb))];exact(hf b hb).1
 done:=by
  intro X hP hw hK hc i zv s σ H E I hf st hg;subst hP hw hK;obtain⟨hz,hI,⟨o1,o2,o3,hO⟩,h1,h2,h3⟩:=st;obtain⟨xs,hq,hx⟩:=hg;obtain⟨its,rv,sq⟩:=v9 I hq;have hl:i=its.toArray.size:=by have:=rv.length;simp;omega
  subst hl;refine alc hz (aqx (I.ok.hd hc) D hz hI hO h1 sq fun g e kk ⟨o,he,ce⟩=>⟨e,o,rfl,he,ce,rfl,abh (t':=s.toks) (fp:=[z,TI,TO,i1,i2,i3]) I (fun b o hn z=>kk b o (fun z=>hn (by simp[z])) (fun z=>hn (by simp[z])) z) hf⟩)
 self:=fun _ _ _ _ _ st h=>wpAny_pyIter_zip st.1 h
theorem a0r{N l1 l2 l3:Nat}(h1:l1 < N)(h2:l2 < N)(h3:l3 < N):Apart3 (N+5) (N+3) (N+4) N (N+1) (N+2) l1 l2 l3:=by
 constructor <;> (intro e;have e:(_:Nat)=_:=e;omega)
section
variable{X:Cx}
def a4i(K:Fg9)(ta:TA):TI:=fun σ H R=>ta σ H fun vs H1=>∃a1 a2 a3 k1 k2 k3,vs=[.ref a1,.ref a2,.ref a3]/\(∃xs,SqK k1 K H1 a1 xs)/\(∃xs,SqK k2 K H1 a2 xs)/\(∃xs,SqK k3 K H1 a3 xs)/\R (Itz3 K k1 k2 k3 a1 a2 a3) H1
theorem avf{e1 e2 e3:Expr}{ta:TA}{p pos:Pos}{elts:List Expr}{n:Nat}{tp:Pos}(hg:Gl X "zip")(hm:X.mg "zip" = none)(ha:PA X [e1,e2,e3] ta)(hs:starEach [e1,e2,e3] X.env=[(false,eval e1 X.env),(false,eval e2 X.env),(false,eval e3 X.env)]:=by rfl)(hs2:starEach [e2,e3] X.env=[(false,eval e2 X.env),(false,eval e3 X.env)]:=by rfl) :
  PI X (.Tuple elts n tp) (.Call (.Name "zip" p) [e1,e2,e3] [] pos) (a4i X.K ta):=by
 intro zv s σ H R I h;refine Call_ (ae2 I hg hm aui (PyProof.Rows.callWith_type1 (thn (ha pos zv s σ H _ I h) fun us s1 ⟨vs,H1,I1,r1,q1⟩ =>?_) (by rw[hs,hs2]) (by rw[hs2];rfl)))
 obtain⟨a1,a2,a3,k1,k2,k3,rfl,⟨x1,hq1⟩,⟨x2,hq2⟩,⟨x3,hq3⟩,q⟩:=q1;cases r1 with
 | cons ru1 r1 =>
 obtain⟨u2,u3,rfl,ru2,ru3⟩:=vals2 r1;cases ru1;cases ru2;cases ru3;obtain⟨t1,r1',sq1⟩:=v9 I1 hq1;have b1:a1 < s1.heap.objs.size:=by obtain⟨o,e⟩:=sq1.got;exact Heap.lt_size e
 obtain⟨t2,r2',sq2⟩:=v9 I1 hq2;have b2:a2 < s1.heap.objs.size:=by obtain⟨o,e⟩:=sq2.got;exact Heap.lt_size e
 obtain⟨t3,r3',sq3⟩:=v9 I1 hq3;have b3:a3 < s1.heap.objs.size:=by obtain⟨o,e⟩:=sq3.got;exact Heap.lt_size e
 refine aqd sq1 sq2 sq3 fun g hz hI hO h1 h2 h3 hsz kk=>wpAny_pyIter_zip hz ?_
 have I2:Inv X zv σ H1 { s1 with heap:=g }:=I1.kept (t':=s1.toks) kk
 refine⟨_,[s1.heap.objs.size+5,s1.heap.objs.size+3,s1.heap.objs.size+4,s1.heap.objs.size,s1.heap.objs.size+1,s1.heap.objs.size+2],_,_,H1,rfl,I2,anp k1 k2 k3 a1 a2 a3 _ _ _ _ _ _ (a0r b1 b2 b3),⟨hz,hI,⟨_,_,_,hO⟩,h1,h2,h3⟩,fun c hc =>?_,q⟩
 have hc:s1.heap.objs.size<=c:=by
  simp only[List.mem_cons,List.not_mem_nil,or_false] at hc;rcases hc with rfl | rfl | rfl | rfl | rfl | rfl <;> first | exact Nat.le_refl _ | exact Nat.le_add_right _ _
 exact I1.fpOk hc (I1.hok.fresh hc)
end
end Mn
namespace Dn
open L2 Mn
section
variable{K:Fg9}{X:Cx}{e a b c:Expr}{es elts:List Expr}{pos p tp:Pos}{n:Nat}
theorem aga{F:Hp}{d:D}{l:List D}{v:V}(e:itemsD d=some l)(h:Is K F d v):∃a k vs,v=.ref a/\IsL K F l vs/\∀H,Same F H->SqK k K H a vs:=by
 cases h with
 | tup e1 h1=>cases e;exact⟨_,true,_,rfl,h1,fun H g=>SqT.of (g _ _ e1)⟩
 | lst e1 h1=>cases e;exact⟨_,false,_,rfl,h1,fun H g=>SqL.of (g _ _ e1)⟩
 | kst e1 h1=>cases e;exact⟨_,false,_,rfl,h1,fun H g=>L2.Same.seq g e1⟩
 | _=>cases e
def afn(l:List D):List D:=l.mapIdx fun i d=>.tup [.int (i:Nat),d]
def as6:List D->Option (List D)
 | [d]=>(itemsD d).map afn
 | _=>none
theorem ac3(l:List D):(afn l).length=l.length:=by unfold afn;simp
theorem afm{l:List D}{i:Nat}{d:D}(h:(afn l)[i]? = some d):∃d0,l[i]? = some d0/\d=.tup [.int (i:Nat),d0]:=by
 unfold afn at h;rw[List.getElem?_mapIdx] at h;cases e:l[i]? with
 | none=>rw[e] at h;cases h
 | some d0=>rw[e] at h;cases h;exact⟨d0,rfl,rfl⟩
theorem aso{F:Hp}{k:Bool}{a:Addr}{l:List D}{vs:List V}(il:IsL K F l vs)(hs:∀H,Same F H->SqK k K H a vs):ItD K (Ite K k a) (afn l) F where
 go:=fun i H s hi=>by
  have hi:i < vs.length:=by rw[<-il.length,<-ac3];exact hi
  exact⟨vs,_,hs H s,List.getElem?_eq_getElem hi⟩
 yld:=fun i H x H' d s y hd=>by
  obtain⟨d0,h0,rfl⟩:=afm hd;obtain⟨q,v,hq,rfl,rfl,hv⟩:=y;obtain⟨v',e1,i1⟩:=il.get h0;have:=hv _ (hs H s);rw[e1] at this;cases this;exact .inr ⟨q,_,_,hq,rfl,rfl,rfl,.cons (.int _) (.cons i1 .nil)⟩
 stop:=fun H s=>⟨vs,hs H s,by rw[ac3,il.length]⟩
theorem apc{m:M (List D)}(hg:Gl X "enumerate")(hm:X.mg "enumerate" = none)(h:ED K X [a] m)(hs:starEach [a] X.env=[(false,eval a X.env)]:=by rfl):IT K X (.Tuple elts n tp) (.Call (.Name "enumerate" p) [a] [] pos) (mGet as6 m):=IT.mk fun hk=>by
 intro zv s σ H R I ⟨tg,F,ρ,l,ρ',G,em,q⟩;obtain⟨ds,ρ1,e1,em⟩:=aq em;obtain⟨e2,rfl⟩:=gj em;have h:=h hk;subst hk;refine avi hg hm h hs zv s σ H R I ⟨tg,F,ρ,ds,_,G,e1,fun vs H' F' G' x r =>?_⟩
 match ds,e2 with
 | [d],e2 =>
  have e2:(itemsD d).map afn=some l:=e2;cases e3:itemsD d with
  | none=>rw[e3] at e2;cases e2
  | some l0 =>
   rw[e3] at e2;cases e2;cases r with
   | cons h1 t =>
    cases t;obtain⟨b,k,ws,rfl,il,hq⟩:=aga e3 h1;exact⟨b,k,rfl,⟨ws,hq _ G'.sub⟩,q _ H' F' G' x (aso il hq)⟩
def uz(l1 l2:List D):List D:=List.zipWith (fun x y=>.tup [x,y]) l1 l2
def ab1(l1 l2 l3:List D):List D:=List.zipWith (fun x (p:D×D)=>.tup [x,p.1,p.2]) l1 (List.zip l2 l3)
def ahj:List D->Option (List D)
 | [a,b]=>(itemsD a).bind fun l1=>(itemsD b).bind fun l2=>if l1.length<=l2.length then some (uz l1 l2) else none
 | _=>none
def apj:List D->Option (List D)
 | [a,b,c]=>(itemsD a).bind fun l1=>(itemsD b).bind fun l2=>(itemsD c).bind fun l3=>if l1.length<=l2.length/\l1.length<=l3.length then some (ab1 l1 l2 l3) else none
 | _=>none
theorem aei{l1 l2:List D}{i:Nat}{d:D}(h:(uz l1 l2)[i]? = some d):∃d1 d2,l1[i]? = some d1/\l2[i]? = some d2/\d=.tup [d1,d2]:=by
 unfold uz at h;rw[List.getElem?_zipWith] at h;cases e1:l1[i]? with
 | none=>rw[e1] at h;cases h
 | some d1 =>
  cases e2:l2[i]? with
  | none=>rw[e1,e2] at h;cases h
  | some d2=>rw[e1,e2] at h;cases h;exact⟨_,_,rfl,rfl,rfl⟩
theorem acb{l1 l2 l3:List D}{i:Nat}{d:D}(h:(ab1 l1 l2 l3)[i]? = some d):∃d1 d2 d3,l1[i]? = some d1/\l2[i]? = some d2/\l3[i]? = some d3/\d=.tup [d1,d2,d3]:=by
 unfold ab1 at h;rw[List.getElem?_zipWith] at h;cases e1:l1[i]? with
 | none=>rw[e1] at h;cases h
 | some d1 =>
  cases e2:(List.zip l2 l3)[i]? with
  | none=>rw[e1,e2] at h;cases h
  | some p =>
   rw[e1,e2] at h;cases h;rw[List.getElem?_zip_eq_some] at e2;exact⟨_,_,_,rfl,e2.1,e2.2,rfl⟩
theorem asn{F:Hp}{k1 k2:Bool}{a1 a2:Addr}{l1 l2:List D}{x1 x2:List V}(h:l1.length<=l2.length)(i1:IsL K F l1 x1)(i2:IsL K F l2 x2)(s1:∀H,Same F H->SqK k1 K H a1 x1)(s2:∀H,Same F H->SqK k2 K H a2 x2):ItD K (Itz2 K k1 k2 a1 a2) (uz l1 l2) F where
 go:=fun i H s hi=>by
  have z1:=i1.length;have z2:=i2.length;have hi:i < l1.length:=by unfold uz at hi;simp at hi;omega
  exact⟨x1,x2,_,_,⟨s1 H s,List.getElem?_eq_getElem (by omega)⟩,s2 H s,List.getElem?_eq_getElem (by omega)⟩
 yld:=fun i H x H' d s y hd=>by
  obtain⟨d1,d2,h1,h2,rfl⟩:=aei hd;obtain⟨q,v1,v2,hq,rfl,rfl,y1,y2⟩:=y;obtain⟨w1,e1,j1⟩:=i1.get h1;obtain⟨w2,e2,j2⟩:=i2.get h2;have z1:=y1 _ (s1 H s);have z2:=y2 _ (s2 H s);rw[e1] at z1;rw[e2] at z2;cases z1;cases z2;exact .inr ⟨q,_,_,hq,rfl,rfl,rfl,.cons j1 (.cons j2 .nil)⟩
 stop:=fun H s=>⟨x1,s1 H s,by unfold uz;rw[List.length_zipWith,<-i1.length];omega⟩
theorem asm{F:Hp}{k1 k2 k3:Bool}{a1 a2 a3:Addr}{l1 l2 l3:List D}{x1 x2 x3:List V}(h:l1.length<=l2.length/\l1.length<=l3.length)(i1:IsL K F l1 x1)(i2:IsL K F l2 x2)(i3:IsL K F l3 x3)
  (s1:∀H,Same F H->SqK k1 K H a1 x1) (s2:∀H,Same F H->SqK k2 K H a2 x2) (s3:∀H,Same F H->SqK k3 K H a3 x3):ItD K (Itz3 K k1 k2 k3 a1 a2 a3) (ab1 l1 l2 l3) F where
 go:=fun i H s hi=>by
  have z1:=i1.length;have z2:=i2.length;have z3:=i3.length;have hi:i < l1.length:=by unfold ab1 at hi;simp at hi;omega
  exact⟨x1,x2,x3,_,_,_,⟨s1 H s,List.getElem?_eq_getElem (by omega)⟩,⟨s2 H s,List.getElem?_eq_getElem (by omega)⟩,s3 H s,List.getElem?_eq_getElem (by omega)⟩
 yld:=fun i H x H' d s y hd=>by
  obtain⟨d1,d2,d3,h1,h2,h3,rfl⟩:=acb hd;obtain⟨q,v1,v2,v3,hq,rfl,rfl,y1,y2,y3⟩:=y;obtain⟨w1,e1,j1⟩:=i1.get h1;obtain⟨w2,e2,j2⟩:=i2.get h2;obtain⟨w3,e3,j3⟩:=i3.get h3;have z1:=y1 _ (s1 H s);have z2:=y2 _ (s2 H s);have z3:=y3 _ (s3 H s);rw[e1] at z1;rw[e2] at z2;rw[e3] at z3;cases z1;cases z2;cases z3;exact .inr ⟨q,_,_,hq,rfl,rfl,rfl,.cons j1 (.cons j2 (.cons j3 .nil))⟩
 stop:=fun H s=>⟨x1,s1 H s,by unfold ab1;rw[List.length_zipWith,List.length_zip,<-i1.length];omega⟩
theorem ab6{m:M (List D)}(hg:Gl X "zip")(hm:X.mg "zip" = none)(h:ED K X [a,b] m)(hs:starEach [a,b] X.env=[(false,eval a X.env),(false,eval b X.env)]:=by rfl)(hs2:starEach [b] X.env=[(false,eval b X.env)]:=by rfl) :
  IT K X (.Tuple elts n tp) (.Call (.Name "zip" p) [a,b] [] pos) (mGet ahj m):=IT.mk fun hk=>by
 intro zv s σ H R I ⟨tg,F,ρ,l,ρ',G,em,q⟩;obtain⟨ds,ρ1,e1,em⟩:=aq em;obtain⟨e2,rfl⟩:=gj em;have h:=h hk;subst hk;refine avh hg hm h hs hs2 zv s σ H R I ⟨tg,F,ρ,ds,_,G,e1,fun vs H' F' G' x r =>?_⟩
 match ds,e2 with
 | [d,d'],e2 =>
  have e2:((itemsD d).bind fun l1=>(itemsD d').bind fun l2=>if l1.length<=l2.length then some (uz l1 l2) else none)=some l:=e2
  cases e3:itemsD d with
  | none=>rw[e3] at e2;cases e2
  | some l1 =>
   cases e4:itemsD d' with
   | none=>rw[e3,e4] at e2;cases e2
   | some l2 =>
    rw[e3,e4] at e2;have e2:(if l1.length<=l2.length then some (uz l1 l2) else none)=some l:=e2
    split at e2
    ·rename_i hle;cases e2;cases r with
     | cons h1 t =>
      cases t with
      | cons h2 t =>
       cases t;obtain⟨b1,k1,w1,rfl,il1,hq1⟩:=aga e3 h1;obtain⟨b2,k2,w2,rfl,il2,hq2⟩:=aga e4 h2;exact⟨b1,b2,k1,k2,rfl,⟨w1,hq1 _ G'.sub⟩,⟨w2,hq2 _ G'.sub⟩,q _ H' F' G' x (asn hle il1 il2 hq1 hq2)⟩
    ·cases e2
theorem akg{m:M (List D)}(hg:Gl X "zip")(hm:X.mg "zip" = none)(h:ED K X [a,b,c] m)(hs:starEach [a,b,c] X.env=[(false,eval a X.env),(false,eval b X.env),(false,eval c X.env)]:=by rfl)(hs2:starEach [b,c] X.env=[(false,eval b X.env),(false,eval c X.env)]:=by rfl) :
  IT K X (.Tuple elts n tp) (.Call (.Name "zip" p) [a,b,c] [] pos) (mGet apj m):=IT.mk fun hk=>by
 intro zv s σ H R I ⟨tg,F,ρ,l,ρ',G,em,q⟩;obtain⟨ds,ρ1,e1,em⟩:=aq em;obtain⟨e2,rfl⟩:=gj em;have h:=h hk;subst hk;refine avf hg hm h hs hs2 zv s σ H R I ⟨tg,F,ρ,ds,_,G,e1,fun vs H' F' G' x r =>?_⟩
 match ds,e2 with
 | [d,d',d''],e2 =>
  have e2:((itemsD d).bind fun l1=>(itemsD d').bind fun l2=>(itemsD d'').bind fun l3=>if l1.length<=l2.length/\l1.length<=l3.length then some (ab1 l1 l2 l3) else none)=some l:=e2
  cases e3:itemsD d with
  | none=>rw[e3] at e2;cases e2
  | some l1 =>
   cases e4:itemsD d' with
   | none=>rw[e3,e4] at e2;cases e2
   | some l2 =>
    cases e5:itemsD d'' with
    | none=>rw[e3,e4,e5] at e2;cases e2
    | some l3 =>
     rw[e3,e4,e5] at e2;have e2:(if l1.length<=l2.length/\l1.length<=l3.length then some (ab1 l1 l2 l3) else none)=some l:=e2
     split at e2
     ·rename_i hle;cases e2;cases r with
      | cons h1 t =>
       cases t with
       | cons h2 t =>
        cases t with
        | cons h3 t =>
         cases t;obtain⟨b1,k1,w1,rfl,il1,hq1⟩:=aga e3 h1;obtain⟨b2,k2,w2,rfl,il2,hq2⟩:=aga e4 h2;obtain⟨b3,k3,w3,rfl,il3,hq3⟩:=aga e5 h3;exact⟨b1,b2,b3,k1,k2,k3,rfl,⟨w1,hq1 _ G'.sub⟩,⟨w2,hq2 _ G'.sub⟩,⟨w3,hq3 _ G'.sub⟩,q _ H' F' G' x (asm hle il1 il2 il3 hq1 hq2 hq3)⟩
     ·cases e2
end
end Dn
namespace Mn
open L2
theorem als{X:Cx}:PGet X (rIxL X.K):=by
 intro zv s σ H x y v u Q I rx ry h;obtain⟨p,xs,i,z,rfl,rfl,hq,he,q⟩:=h;cases rx;obtain⟨t,rfl⟩:=ry;obtain⟨its,r,pl,hz⟩:=I.list hq;obtain⟨j,h1,h2,h3,h4,h5⟩:=akx he;obtain⟨w,ew,rw'⟩:=r.get h2;have hl:=r.length;have hn:=aiv;have fin:EP X zv σ Q w s:=⟨z,H,I,rw',q⟩
 by_cases h0:0<=i
 ·have hj:i.toNat=j:=by
   rw[seqIndex_of h0 h5] at h1;exact Option.some.inj h1
  exact wpAny_getItem_list pl.isList h0 (by omega) (by rw[hj];simpa using ew) fin
 ·have hj:(i+(its.toArray.size:Int)).toNat=j:=by
   rw[seqIndex_neg (by omega) h4] at h1
   have:=Option.some.inj h1;rw[List.size_toArray,<-hl];exact this
  exact wpAny_getItem_list_neg pl.isList (by omega) (by simp only[List.size_toArray];omega) (by omega) (by rw[hj];simpa using ew) fin
end Mn
namespace Dn
open L2 Mn
section
variable{K:Fg9}{X:Cx}{e a b:Expr}{pos p:Pos}
def aks(f:Int->Int->Int)(i:Nat)(mi m:M D):Sd:=dM (mOwn i) fun _=>dM mi fun k=>dM (mOwn i) fun l=>dM (lift ((asI k).bind (ixN l.length))) fun j=>dM (lift ((l[j]?).bind asI)) fun x=>dM m fun y=>dM (lift (asI y)) fun y=>dM (mOwn i) fun l2=>dM (lift (if l2.length=l.length then some () else none)) fun _=>dM (aaz i (l2.set j (.int (f x y)))) fun _=>dNx
theorem at3{n:Nat}{k:Int}{j:Nat}{α:Type}{l:List α}(hn:l.length=n)(h:ixN n k=some j):atI l k=l[j]? := by
 unfold atI;rw[hn,h];rfl
theorem anw{f:Int->Int->Int}{op:Operator}{i:Nat}{mi m:M D}(ho:PE X a (tVar i))(hi:EV K X b mi)(h:EV K X e m)(hp:PIp X op (ipI f))
  (ha:∀ov iv new,augStore b ov iv new=(do holding [new,ov,iv] (setItem ov iv new);release [new,ov,iv] [];pure .next):=by intros;rfl):SV K X (.AugAssign (.Subscript a b p) op e pos) (aks f i mi m):=SV.mk fun hk=>by
 subst hk;refine PS.imp (aol ho (hi rfl) als (h rfl) hp set_list ha) fun E σ H ⟨tg,F,ρ,fl,ρ',G,em,q⟩ =>
  kj em q fun l0 ρ0 e0 em=>kj em q fun k ρ1 e1 em=>kj em q fun l ρ2 e2 em=>kj em q fun j ρ3 e3 em=>kj em q fun x ρ4 e4 em=>kj em q fun y ρ5 e5 em=>kj em q fun y' ρ6 e6 em=>kj em q fun l2 ρ7 e7 em=>kj em q fun u ρ8 e8 em=>kj em q fun u2 ρ9 e9 em =>?_
 cases em;obtain⟨rfl,t0,a0,xs0,es0,hv,hh0,hl0⟩:=abu G e0;refine⟨_,hv,tg,F,_,k,ρ1,G,e1,fun w H1 F1 G1 x1 r1 =>?_⟩
 obtain⟨rfl,t1,a1,xs1,es1,hv1,hh1,hl1⟩:=abu G1 e2;rw[hv] at hv1;cases hv1;obtain⟨g3,rfl⟩:=gj e3;obtain⟨g4,rfl⟩:=gj e4;cases ek:asI k with
 | none=>rw[ek] at g3;cases g3
 | some n =>
  rw[ek] at g3;obtain rfl:=aea ek;cases r1;have e3:ixN l.length n=some j:=g3;cases ej:l[j]? with
  | none=>rw[ej] at g4;cases g4
  | some d =>
   rw[ej] at g4;have h4:asI d=some x:=g4;obtain rfl:=aea h4;obtain⟨v,ev,iv⟩:=hl1.get ej;cases iv;refine⟨_,xs1,n,.int x,rfl,rfl,SqL.of hh1,by rw[at3 hl1.length.symm e3];exact ev,?_⟩
   refine⟨tg,F1,_,y,ρ5,G1,e5,fun w2 H2 F2 G2 x2 r2 =>?_⟩
   obtain⟨g6,rfl⟩:=gj e6;obtain rfl:=aea g6;cases r2;refine⟨x,y',rfl,rfl,?_⟩;obtain⟨rfl,t2,a2,xs2,es2,hv2,hh2,hl2⟩:=abu G2 e7;rw[hv] at hv2;cases hv2;obtain⟨g8,rfl⟩:=gj e8;split at g8
   ·rename_i hlen;obtain⟨G3,x3⟩:=aez G2 e9 hv (hl2.set (Is.int (f x y')) j);exact⟨_,xs2,n,j,rfl,rfl,hh2,by rw[<-hl2.length,hlen];exact e3,q _ _ F2 G3 ((x1.trans x2).trans x3)⟩
   ·cases g8
end
section
variable{K:Fg9}{X:Cx}{a:Expr}{pos p p2 pos2:Pos}
theorem aqf:yp X (.type "range") (fun xs H Q=>∃b,xs=[.int b]/\∀q,H q=none->Q (.ref q) (upd H q (.rng 0 b))):=by
 intro zv s σ H xs us Q I r h;obtain⟨b,rfl,q⟩:=h;obtain⟨u,rfl,ru⟩:=vals1 r;obtain⟨t,rfl⟩:=ru;exact call_range_1 ⟨.ref s.heap.objs.size,_,I.laid (t':=s.toks+1+1) (o:=.rng 0 b) (fun b ob q=>Heap.get?_push_of_some _ q) (Nat.le_refl _) ⟨_,_,_,Heap.get?_push_size _ rfl⟩,rfl,q _ (I.hok.fresh (Nat.le_refl _))⟩
theorem aq8{acc:Array Value}{n:Nat}(h:ItemsOf (fun i v=>∃t,v=.int (0+i*1) t) acc n):Vals (ups 0 n) acc.toList:=by
 have key:∀(l:List Value) (k:Nat),(∀j v,l[j]? = some v->∃t,v=Value.int ((k+j:Nat):Int) t)->Vals ((List.range' k l.length).map fun(i:Nat)=>V.int ((i:Nat):Int)) l:=by
  intro l
  induction l with
  | nil=>intro k _;exact .nil
  | cons x r ih =>
   intro k hk;rw[List.length_cons,List.range'_succ,List.map_cons];refine .cons ?_ (ih (k+1) fun j v hj =>?_)
   ·obtain⟨t,rfl⟩:=hk 0 x rfl;exact⟨t,by simp⟩
   ·obtain⟨t,rfl⟩:=hk (j+1) v (by simpa using hj)
    exact⟨t,by rw[show k+(j+1)=k+1+j by omega]⟩
 have e:=key acc.toList 0 fun j v hj=>by
  obtain⟨t,rfl⟩:=h.2 j v (by simpa using hj)
  exact⟨t,by simp⟩
 have hs:acc.toList.length=n:=by simpa using h.1
 rw[hs] at e;unfold ups;rw[List.range_eq_range']
 simpa using e
theorem ajg(hc:X.calm=true):yp X (.type "list") (fun xs H Q=>∃p b,xs=[.ref p]/\H p=some (.rng 0 b)/\b.natAbs < 1000000/\∀q,H q=none->Q (.ref q) (upd H q (.lst (ups 0 b.toNat)))):=by
 intro zv s σ H xs us Q I r h;obtain⟨p,b,rfl,hp,hb,q⟩:=h;obtain⟨u,rfl,ru⟩:=vals1 r;cases ru;obtain⟨t,u,v,e⟩:=I.hok p _ hp;have e62:(2:Int) ^ 62=4611686018427387904:=by decide
 have e24:(2:Nat) ^ 24=16777216:=by decide
 refine call_list_range (I.ok.hd hc) e (small_one (by omega) (by omega) (by omega) (by omega)) (n:=b.toNat) (by rw[rangeSize_one];split <;> omega) (by omega) fun h' tk acc c' kk e' it =>?_
 refine⟨.ref s.heap.objs.size,_,?_,rfl,q _ (I.hok.fresh (Nat.le_refl _))⟩;exact I.laid kk (Nat.le_refl _) ⟨by rw[agq,sizeLine_eq];omega,acc.toList,c',aq8 it,by simpa using e'⟩
def abj:List D->Option Rv
 | [.int j]=>if j.natAbs < 1000000 then some (.fr (jx 0 j.toNat)) else none
 | _=>none
def adh(m:M (List D)):M Rv:=m.bind fun ds=>lift (abj ds)
@[simp] theorem asb(ρ:Ro)(m:M (List D)):adh m ρ=(m.bind fun ds=>lift (abj ds)) ρ:=rfl
@[simp] theorem aqw(j:Int):abj [.int j]=if j.natAbs < 1000000 then some (.fr (jx 0 j.toNat)) else none:=rfl
theorem ajc{m:M (List D)}(hc:X.calm=true)(hg1:Gl X "list")(hm1:X.mg "list" = none)(hg2:Gl X "range")(hm2:X.mg "range" = none)(h:ED K X [a] m)
  (he:starEach [a] X.env=[(false,eval a X.env)]:=by rfl) (he2:starEach [.Call (.Name "range" p2) [a] [] pos2] X.env=[(false,eval (.Call (.Name "range" p2) [a] [] pos2) X.env)]:=by rfl) :
  ER K X (.Call (.Name "list" p) [.Call (.Name "range" p2) [a] [] pos2] [] pos) (adh m):=ER.mk fun hk=>PE.imp (ack (ajg hc) hg1 hm1 adu (yh (ack aqf hg2 hm2 atk (h hk) (by decide) (by decide) he rfl) age he2) (by decide) (by decide) he2 rfl) fun σ H Q hq0=>by
 obtain⟨tg,F,ρ,r,ρ',G,em,q⟩:=hq0;obtain⟨ds,ρ1,e1,em⟩:=aq em;obtain⟨e2,rfl⟩:=gj em;refine⟨tg,F,ρ,ds,_,G,e1,fun vs H1 F1 G1 x1 bl =>?_⟩
 unfold abj at e2;split at e2
 ·rename_i j;split at e2
  ·rename_i hb;cases e2;cases bl with
   | cons hd t =>
    cases t;cases hd;refine⟨j,rfl,fun a hna =>?_⟩
    refine⟨a,j,rfl,ir,hb,fun b hnb =>?_⟩
    have G2:=G1.fresh hna (.rng 0 j);have X2:=G1.freshX hna (.rng 0 j);exact Res.lst G2 (fun v H3 F3 G3 x3 rr=>q v H3 F3 G3 ((x1.trans X2).trans x3) (p7 (x1.trans X2) rr)) (ak7 0 _) hnb
  ·cases e2
 ·cases e2
end
end Dn
namespace Mn
open L2
set_option maxRecDepth 100000
section
variable{prog:Program}{w:World}{A:Around}{E:Value->Shared->Prop}{s:Shared}
end
end Mn
namespace Dn
open L2 Mn
section
variable{K:Fg9}{X:Cx}{a:Expr}{pos p p2 pos2:Pos}
def afh:List D->Option Rv
 | [.int j]=>if j.natAbs < 1000000 then some (.v (.tup (jx 0 j.toNat))) else none
 | _=>none
def aj8(m:M (List D)):M Rv:=m.bind fun ds=>lift (afh ds)
@[simp] theorem aqv(ρ:Ro)(m:M (List D)):aj8 m ρ=(m.bind fun ds=>lift (afh ds)) ρ:=rfl
@[simp] theorem asy(j:Int):afh [.int j]=if j.natAbs < 1000000 then some (.v (.tup (jx 0 j.toNat))) else none:=rfl
end
end Dn
namespace Mn
open L2
section
variable{prog:Program}{w:World}{A:Around}{E:Value->Shared->Prop}{s:Shared}
end
section
variable{X:Cx}{e:Expr}{te:TE}{pos p2 p3:Pos}{st:Expr}{ts:TE}
end
end Mn
namespace Dn
open L2 Mn
section
variable{K:Fg9}{X:Cx}{a st:Expr}{pos p p2 pos2:Pos}
def gRev:D->D->Option Rv
 | .tup l,.int k=>if k = -1 then some (.v (.tup l.reverse)) else none
 | _,_=>none
@[simp] theorem a1h(l:List D):gRev (.tup l) (.int (-1))=some (.v (.tup l.reverse)):=rfl
def mRev(m ms:M D):M Rv:=m.bind fun d=>ms.bind fun k=>lift (gRev d k)
@[simp] theorem a3j(ρ:Ro)(m ms:M D):mRev m ms ρ=(m.bind fun d=>ms.bind fun k=>lift (gRev d k)) ρ:=rfl
end
section
variable{K:Fg9}{X:Cx}{e:Expr}{pos p:Pos}
def a5p(f:Int->Int->Option Int)(i:Nat)(m:M D):Sd:=dM (mVar i) fun x=>dM m fun y=>dM (lift ((asI x).bind fun n=>(asI y).bind fun k=>(f n k).map D.int)) fun z ρ=>some (.nx,List.set ρ i (.val z))
@[simp] theorem a2c(ρ:Ro)(f:Int->Int->Option Int)(i:Nat)(m:M D):a5p f i m ρ=(dM (mVar i) fun x=>dM m fun y=>dM (lift ((asI x).bind fun n=>(asI y).bind fun k=>(f n k).map D.int)) fun z ρ=>some (.nx,List.set ρ i (.val z))) ρ:=rfl
end
end Dn
namespace Mn
open L2
section
variable{prog:Program}{w:World}{A:Around}{E:Value->Shared->Prop}{s:Shared}
end
end Mn
namespace Dn
open L2 Mn
section
variable{K:Fg9}{X:Cx}
def asz:D->Option Rv
 | .tup l=>(u9 l).bind fun ns=>if ns.length < 64 then some (.fr ((sortI ns).map D.int)) else none
 | d=>apk d
@[simp] theorem at8(l:List D):asz (.lst l)=apk (.lst l):=rfl
end
section
variable{K:Fg9}{X:Cx}
end
end Dn
namespace Mn
open L2
section
variable{X:Cx}{e:Expr}{te:TE}{pos p2 p3:Pos}{st:Expr}{ts:TE}
end
end Mn
namespace Dn
open L2 Mn
section
variable{K:Fg9}{X:Cx}{a st:Expr}{pos p p2 pos2:Pos}
def as4:D->D->Option Rv
 | .lst l,.int k=>if k = -1 then some (.fr l.reverse) else none
 | d,k=>gRev d k
@[simp] theorem az6(l:List D):as4 (.lst l) (.int (-1))=some (.fr l.reverse):=rfl
@[simp] theorem az5(l:List D):as4 (.tup l) (.int (-1))=some (.v (.tup l.reverse)):=rfl
def a3k(m ms:M D):M Rv:=m.bind fun d=>ms.bind fun k=>lift (as4 d k)
@[simp] theorem a03(ρ:Ro)(m ms:M D):a3k m ms ρ=(m.bind fun d=>ms.bind fun k=>lift (as4 d k)) ρ:=rfl
end
end Dn
namespace Mn
open PySem
open PySem.Spec PyProof.Rows L2
section
variable{X:Cx}
theorem range_any(bs:List Bool):((List.range bs.length).any fun i=>(bs[i]?).getD true)=bs.any id:=by
 have key:∀(l:List Bool) (f:Nat->Bool),(∀i (h:i < l.length),f i=l[i])->(List.range l.length).any f=l.any id:=by
  intro l
  induction l with
  | nil=>intro f _;rfl
  | cons b r ih =>
   intro f hf;rw[List.length_cons,List.range_succ_eq_map,List.any_cons,List.any_map,List.any_cons];have h0:=hf 0 (by simp)
   rw[h0]
   congr 1
   exact ih (f∘Nat.succ) fun i hi=>by
    have:=hf (i+1) (by simpa using hi)
    simpa using this
 exact key bs _ fun i hi=>by simp[hi]
end
end Mn
namespace Dn
open L2 Mn
section
variable{K:Fg9}{X:Cx}
def gAny:D->Option Rv
 | .lst l=>(rz l).map fun bs=>.v (.bl (bs.any id))
 | _=>none
@[simp] theorem a1t(l:List D):gAny (.lst l)=(rz l).map fun bs=>.v (.bl (bs.any id)):=rfl
end
end Dn
namespace Mn
open L2
def ap5(y:Str)(env:Env)(XN:List Str)(scope:Scope)(fr N:List Str)(src:List (Option Nat)):Bool :=
 scope.names.all (fun z=>(z.2 != .cell||z.1==y)&&(z.2 != .local||scope.names.lookup z.1==some .local)&&(z.2 != .free||fr.contains z.1)) &&
 fr.all (fun x=>x != y&&(scope.names.lookup x==some .free&&(env.kindOf x==some .cell||env.kindOf x==some .free)))&&ac8 XN fr N src
structure CompOkY (y:Str) (env:Env) (XN:List Str) (scope:Scope) (fr N:List Str) (src:List (Option Nat)):Prop where
 cell:∀z∈scope.names,z.2=.cell->z.1=y
 loc:∀z∈scope.names,z.2=.local->scope.names.lookup z.1=some .local
 free:∀z∈scope.names,z.2=.free->z.1∈fr
 ne:∀x∈fr,x≠y
 frk:∀x∈fr,scope.names.lookup x=some .free
 out:∀x∈fr,env.kindOf x=some .cell∨env.kindOf x=some .free
 src:ac8 XN fr N src=true
theorem CompOkY.of{y:Str}{env:Env}{XN:List Str}{scope:Scope}{fr N:List Str}{src:List (Option Nat)}(h:ap5 y env XN scope fr N src=true):CompOkY y env XN scope fr N src:=by
 simp only[ap5,Bool.and_eq_true,List.all_eq_true] at h;obtain⟨⟨h1,h2⟩,h3⟩:=h;refine⟨fun z hz e =>?_,fun z hz e =>?_,fun z hz e =>?_,fun x hx =>?_,fun x hx =>?_,fun x hx =>?_,h3⟩
 ·have:=(h1 z hz).1.1;rw[e] at this
  simpa using this
 ·have:=(h1 z hz).1.2;rw[e] at this
  simpa using this
 ·have:=(h1 z hz).2;rw[e] at this
  simpa using this
 ·simpa using (h2 x hx).1
 ·simpa using (h2 x hx).2.1
 ·simpa using (h2 x hx).2.2
section
variable{y:Str}{X:Cx}{zv:List (Addr×Obj)}{σ:L2.St}{H:Hp}{s:Shared}{scope:Scope}{fr N:List Str}{src:List (Option Nat)}{fp:List Addr}
end
end Mn
namespace Dn
open L2 Mn
end Dn
namespace L2
section
variable{M:Model}{A:Around}{E:Value->Shared->Prop}{s:Shared}
structure KeptBut (fs ch:List Addr) (h h':Heap):Prop where
 keep:∀b o,b∉ch->b∉fs->h.get? b=some o->h'.get? b=some o
 slot:∀b o,b∉ch->h.get? b=some o->∃sl,h'.get? b=some { o with slots:=sl }
theorem KeptBut.trans{fs ch:List Addr}{h h1 h2:Heap}(a:KeptBut fs ch h h1)(b:KeptBut fs ch h1 h2):KeptBut fs ch h h2 :=
 ⟨fun c o n1 n2 e=>b.keep c o n1 n2 (a.keep c o n1 n2 e),fun c o n e=>let ⟨_,e1⟩:=a.slot c o n e;let ⟨sl,e2⟩:=b.slot c _ n e1;⟨sl,e2⟩⟩
theorem KeptBut.sub{fs ch ch':List Addr}{h h':Heap}(a:KeptBut fs ch h h')(q:∀b∈ch,b∈ch'):KeptBut fs ch' h h' :=
 ⟨fun c o n1 n2 e=>a.keep c o (fun z=>n1 (q c z)) n2 e,fun c o n e=>a.slot c o (fun z=>n (q c z)) e⟩
theorem KeptBut.upd{fs:List Addr}{h:Heap}{a:Addr}{f:Obj->Obj}:KeptBut fs [a] h (h.update a f) :=
 ⟨fun b o n _ e=>by rw[Heap.get?_update_other _ _ (fun z=>n (by simp[z]))];exact e,fun b o n e=>⟨o.slots,by rw[Heap.get?_update_other _ _ (fun z=>n (by simp[z]))];exact e⟩⟩
end
structure FlyAt (h:Heap) (a:Addr) (C:Addr) (dx:Option Addr) (ch:List Addr) (L:Addr):Prop where
 obj:∃oe vs,h.get? a=some oe/\oe.cls=.ref C/\oe.dict=dx/\oe.data=.fields vs/\1 < vs.size /\
  ((vs[1]? = some .none/\ch=[a])∨∃T oT ts fl,ch=[a,T]/\vs[1]? = some (.ref T)/\T≠a/\h.get? T=some oT/\oT.data=.fields ts/\ts[3]? = some fl/\(fl=.none∨fl=rawInt L))
theorem FlyAt.fresh{h:Heap}{a C L:Addr}{dx:Option Addr}{ch:List Addr}(x:FlyAt h a C dx ch L):a∈ch:=by
 obtain⟨oe,vs,_,_,_,_,_,⟨_,e⟩ | ⟨T,_,_,_,e,_⟩⟩:=x.obj <;> simp[e]
section
variable{M:Model}{A:Around}{E:Value->Shared->Prop}{s:Shared}
end
end L2
namespace Dn
open L2 Mn
def a5y(F:Hp)(dx:Option Addr)(fs:List (Str×Int)):Prop:=(dx=none/\fs=[])∨∃d,dx=some d/\F d=some (.xd (fs.map fun p=>(p.1,V.int p.2)))
structure ClsOk (K:Fg9) (c:Str) (C:Addr):Prop where
 ns:nsIn K mainGlobals c=some (some (.ref C))
 ok:ExcK K C
def FpX(X:Cx)(zv:List (Addr×Obj))(H:Hp)(b:Addr):Prop :=
 H b=none/\b≠X.env.locals/\b∉X.fs/\(b∈X.ex∨X.s₀.heap.get? b=none)/\(∀x c,X.env.cells.lookup x=some c->c≠b)/\∀p∈X.pn++zv,p.1≠b
section
variable{X:Cx}{zv:List (Addr×Obj)}{σ:L2.St}{H H':Hp}{s:Shared}
end
def FlyX(K:Fg9)(X:Cx)(zv:List (Addr×Obj))(x:Exn)(F H:Hp)(h:Heap)(e:Value):Prop :=
 ∃a C dx ch,e=.ref a/\ClsOk K x.cls C/\a5y F dx x.fs/\FlyAt h a C dx ch X.env.locals/\∀b∈ch,FpX X zv H b
def RX(K:Fg9)(X:Cx)(zv:List (Addr×Obj))(tg:Nat->Addr)(ρ:Ro)(σ:L2.St)(F H:Hp)(x:Exn)(ρ':Ro)(e:Value)(s':Shared):Prop :=
 ∃σ' H' F',Inv X zv σ' H' s'/\Good K tg F' H' ρ' σ'/\Ext (Own ρ σ) (Own ρ' σ') F H F' H'/\FlyX K X zv x F' H' s'.heap e
theorem RX.back{K:Fg9}{X:Cx}{zv:List (Addr×Obj)}{tg:Nat->Addr}{ρ ρ1 ρ':Ro}{σ σ1:L2.St}{F H F1 H1:Hp}{x:Exn}{e:Value}{s':Shared}(q:Ext (Own ρ σ) (Own ρ1 σ1) F H F1 H1)(h:RX K X zv tg ρ1 σ1 F1 H1 x ρ' e s'):RX K X zv tg ρ σ F H x ρ' e s' :=
 let ⟨σ',H',F',I,G,y,f⟩:=h;⟨σ',H',F',I,G,q.trans y,f⟩
abbrev XGo(K:Fg9)(X:Cx)(α:Type)(c:Sem α)(m:Ro->Option (Exn×Ro)):Prop :=
 X.K=K->X.xe=(fun _ _=>False)->∀zv s σ H tg F ρ x ρ',Inv X zv σ H s->Good K tg F H ρ σ->m ρ=some (x,ρ')->wpAny (model X.prog X.w) X.A c (fun _ _=>False) (RX K X zv tg ρ σ F H x ρ') s
def exE{α:Type}(m:M α):Ro->Option (Exn×Ro):=fun ρ=>match m ρ with
 | some (.exc x,ρ')=>some (x,ρ')
 | _=>none
def exS(g:Sd):Ro->Option (Exn×Ro):=fun ρ=>match g ρ with
 | some (.exc x,ρ')=>some (x,ρ')
 | _=>none
theorem adp{α:Type}{m:M α}{ρ ρ':Ro}{x:Exn}:exE m ρ=some (x,ρ')↔m ρ=some (.exc x,ρ'):=by
 unfold exE;split
 ·rename_i y ρ1 e;rw[e];constructor
  ·intro h;cases h;rfl
  ·intro h;cases h;rfl
 ·rename_i hn;constructor
  ·intro h;cases h
  ·intro h;exact absurd h (hn x ρ')
theorem aw0{g:Sd}{ρ ρ':Ro}{x:Exn}:exS g ρ=some (x,ρ')↔g ρ=some (.exc x,ρ'):=by
 unfold exS;split
 ·rename_i y ρ1 e;rw[e];constructor
  ·intro h;cases h;rfl
  ·intro h;cases h;rfl
 ·rename_i hn;constructor
  ·intro h;cases h
  ·intro h;exact absurd h (hn x ρ')
structure XE (K:Fg9) (X:Cx) (e:Expr) {α:Type} (m:M α):Prop where
 go:XGo K X Value (eval e X.env) (exE m)
structure XA (K:Fg9) (X:Cx) (es:List Expr) {α:Type} (m:M α):Prop where
 go:∀(pos:Pos),XGo K X (List Value) (spliced (backTo pos (starEach es X.env))) (exE m)
structure XS (K:Fg9) (X:Cx) (st:Stmt) (g:Sd):Prop where
 go:XGo K X Flow (exec st X.env) (exS g)
structure XSs (K:Fg9) (X:Cx) (ss:List Stmt) (g:Sd):Prop where
 go:XGo K X Flow (execs ss X.env) (exS g)
def NoX{α:Type}(m:M α):Prop:=∀ρ x ρ',m ρ≠some (.exc x,ρ')
def NoS(g:Sd):Prop:=∀ρ x ρ',g ρ≠some (.exc x,ρ')
section
variable{K:Fg9}{X:Cx}{e a b c:Expr}{es:List Expr}{pos p:Pos}{st:Stmt}{ss:List Stmt}
theorem XE.no{α:Type}{m:M α}(h:NoX m):XE K X e m:=⟨fun _ _ zv s σ H tg F ρ x ρ' I G em=>absurd (adp.mp em) (h ρ x ρ')⟩
theorem XS.no{g:Sd}(h:NoS g):XS K X st g:=⟨fun _ _ zv s σ H tg F ρ x ρ' I G em=>absurd (aw0.mp em) (h ρ x ρ')⟩
theorem al4{α β:Type}{m:M α}{k:α->M β}{ρ ρ':Ro}{x:Exn}(h:m.bind k ρ=some (.exc x,ρ')):m ρ=some (.exc x,ρ')∨∃a ρ1,m ρ=some (.ok a,ρ1)/\k a ρ1=some (.exc x,ρ'):=by
 unfold M.bind at h;split at h
 ·exact .inr ⟨_,_,by assumption,h⟩
 ·cases h;exact .inl (by assumption)
 ·cases h
theorem XA.no{α:Type}{m:M α}(h:NoX m):XA K X es m:=⟨fun _ _ _ zv s σ H tg F ρ x ρ' I G em=>absurd (adp.mp em) (h ρ x ρ')⟩
end
abbrev bmV:List Value:=[.type "ValueError", .type "Exception", .type "BaseException", .type "object"]
def a0h(x:Exn):Sd:=fun ρ=>some (.exc x,ρ)
section
variable{K:Fg9}{X:Cx}{c:Str}{C:Addr}{np cpos pos:Pos}
end
end Dn
namespace L2
section
variable{X:Cx}{zv:List (Addr×Obj)}{σ:List (Option V)}{H:Hp}{s:Shared}
end
section
variable{M:Model}{A:Around}{E:Value->Shared->Prop}{s:Shared}
structure CatK (K:Fg9) (B:Addr):Prop where
 cls:(PySem.W.clsIn K B).isSome=true
 ty:PySem.W.typeIn K (.ref B)=some (.type "type")
 base:PySem.W.subIn K (.ref B) (.type "BaseException")=some true
end
end L2
namespace Dn
open L2 Mn
def azz(c0 c:Str):Bool:=c0==c||c == "ArrowError" || c == "ValueError"
def gIsC(ns:List Str)(c:Str):D->Option D
 | .exn c0 _=>if ns.contains c0 then some (.bl (azz c0 c)) else none
 | _=>none
def mIsC(ns:List Str)(c:Str)(m:M D):M D:=m.bind fun d=>lift (gIsC ns c d)
section
variable{K:Fg9}{X:Cx}{e:Expr}{pos p:Pos}
end
@[simp] theorem a3u(ns:List Str)(c:Str)(m:M D)(ρ:Ro):mIsC ns c m ρ=(m.bind fun d=>lift (gIsC ns c d)) ρ:=rfl
@[simp] theorem a1m(ns:List Str)(c c0:Str)(fs:List (Str×Int)):gIsC ns c (.exn c0 fs)=if ns.contains c0 then some (.bl (azz c0 c)) else none:=rfl
end Dn
namespace L2
structure RoomU (k:Nat) (A:Around):Prop where
 dp:A.depth+3*k+5 < recursionLimit
 un:A.units+16*k+200 < cLine
 gd:A.guards=some []
theorem RoomU.mono{j k:Nat}{A:Around}(r:RoomU k A)(h:j<=k):RoomU j A:=⟨by have:=r.dp;omega,by have:=r.un;omega,r.gd⟩
theorem RoomU.deeper{k:Nat}{A:Around}(r:RoomU (k+1) A)(env:Env):RoomU k (A.deeper env) :=
 ⟨by have:=r.dp;show A.depth+1+3*k+5 < _;omega,by have:=r.un;show A.units+3+16*k+200 < _;omega,r.gd⟩
theorem RoomU.depth{k:Nat}{A:Around}(r:RoomU k A):A.depth < recursionLimit:=by have:=r.dp;omega
theorem RoomU.units{k:Nat}{A:Around}(r:RoomU k A):A.units+64 < cLine:=by have:=r.un;omega
theorem Room.mark{k:Nat}{A:Around}(r:Room k A)(e:Value):RoomU k (A.mark (some e)):=⟨r.dp,r.un,r.gd⟩
structure FnOkU (P:Program) (w:World) (K:Fg9) (mg:Str->Option Value) (base:Heap) (k:Nat) (f:Addr) (fd:FuncData) (ps:List Str) (sp:Sp):Prop where
 len:∀vs H Q E,sp vs H Q E->vs.length=ps.length
 run:∀(A:Around) (outer:List Env) (s:Shared) (H:Hp) (args:Args) (us:List Value) (vs:List V) (Q:VK),RoomU k A->Env0 P w K mg base A outer s H->BindsTo s fd args (ps.zip us)->Vals vs us->sp vs H Q E0 ->
  codeAny (model P w) A (.call (.ref f) args) (CR CX0 outer P w H s Q E0) s
end L2
namespace Dn
open L2 Mn
def cxH(X:Cx)(ev:Value):Cx:={ X with A:=X.A.mark (some ev),calm:=false }
section
variable{K:Fg9}{X:Cx}{zv:List (Addr×Obj)}{σ:L2.St}{H:Hp}{s:Shared}{tg:Nat->Addr}{F:Hp}{ρ:Ro}
theorem Inv.hnd(I:Inv X zv σ H s)(ev:Value):Inv (cxH X ev) zv σ H s :=
 ⟨⟨I.ok.mod,I.ok.kind,I.ok.glob,I.ok.blt,I.ok.above,I.ok.inj,I.ok.has,I.ok.cab,(fun z=>absurd z Bool.false_ne_true),I.ok.frames,I.ok.stk,I.ok.exf,I.ok.bs,I.ok.bsz,I.ok.noex,I.ok.exfs,I.ok.funs,I.ok.frf⟩,I.os,I.bare,I.base,I.loc,I.cell,I.free,I.freeC,I.pin,I.hok,I.len⟩
end
structure CatN (K:Fg9) (B:Addr):Prop extends CatK K B where
 ns:nsIn K mainGlobals "ArrowError" = some (some (.ref B))
 self:PySem.W.subIn K (.ref B) (.ref B)=some true
section
variable{K:Fg9}{X:Cx}{pos hpos bp:Pos}{n:Str}{B:Addr}{i:Nat}{b₀:Stmt}{body suite:List Stmt}{ns:List Str}{gb gh:Sd}
end
def okS{α:Type}(m:M α):M α:=fun ρ=>match m ρ with
 | some (.ok a,ρ1)=>some (.ok a,ρ1)
 | _=>none
def dOk(g:Sd):Sd:=fun ρ=>match g ρ with
 | some (.exc _,_)=>none
 | r=>r
@[simp] theorem a6d{α:Type}(m:M α)(ρ:Ro):okS m ρ=match m ρ with
 | some (.ok a,ρ1)=>some (.ok a,ρ1)
 | _=>none:=rfl
@[simp] theorem a6q(g:Sd)(ρ:Ro):dOk g ρ=match g ρ with
 | some (.exc _,_)=>none
 | r=>r:=rfl
theorem alb{α:Type}{m:M α}{ρ ρ':Ro}{o:Out α}(h:okS m ρ=some (o,ρ')):m ρ=some (o,ρ')/\∃a,o=.ok a:=by
 unfold okS at h;split at h
 ·rename_i a ρ1 e;cases h;exact⟨e,a,rfl⟩
 ·cases h
theorem a0i{g:Sd}{ρ ρ':Ro}{fl:Fl}(h:dOk g ρ=some (fl,ρ')):g ρ=some (fl,ρ')/\∀x,fl≠.exc x:=by
 unfold dOk at h;split at h
 ·cases h
 ·rename_i hn;exact⟨h,fun x e=>hn x ρ' (by rw[h,e])⟩
section
variable{K:Fg9}{X:Cx}{e a b c:Expr}{es:List Expr}{pos p:Pos}{st:Stmt}{ss:List Stmt}
theorem SV.s{g:Sd}(h:SV K X st g):SV K X st (dOk g):=SV.mk fun hk=>PS.imp (h.go hk) fun E σ H ⟨tg,F,ρ,fl,ρ',G,em,q⟩=>⟨tg,F,ρ,fl,ρ',G,(a0i em).1,q⟩
theorem EV.s{m:M D}(h:EV K X e m):EV K X e (okS m):=EV.mk fun hk=>PE.imp (h.go hk) fun σ H Q ⟨tg,F,ρ,d,ρ',G,em,q⟩=>⟨tg,F,ρ,d,ρ',G,(alb em).1,q⟩
theorem ER.s{m:M Rv}(h:ER K X e m):ER K X e (okS m):=ER.mk fun hk=>PE.imp (h.go hk) fun σ H Q ⟨tg,F,ρ,d,ρ',G,em,q⟩=>⟨tg,F,ρ,d,ρ',G,(alb em).1,q⟩
theorem ET.s{m:M Bool}(h:ET K X e m):ET K X e (okS m):=ET.mk fun hk=>fun zv s σ H Q I ⟨tg,F,ρ,d,ρ',G,em,q⟩=>h.go hk zv s σ H Q I ⟨tg,F,ρ,d,ρ',G,(alb em).1,q⟩
theorem EG.s{js:List (Option Nat)}{m:M (List (Option D))}(h:EG K X es js m):EG K X es js (okS m):=EG.mk fun hk=>PA.imp (h.go hk) fun σ H Q ⟨tg,F,ρ,d,ρ',G,em,q⟩=>⟨tg,F,ρ,d,ρ',G,(alb em).1,q⟩
theorem XE.d{m:M Rv}(h:XE K X e m):XE K X e m.d:=⟨fun hk hn zv s σ H tg F ρ x ρ' I G em=>by
 rcases al4 (adp.mp em) with em | ⟨_,_,_,em⟩
 ·exact h.go hk hn zv s σ H tg F ρ x ρ' I G (adp.mpr em)
 ·cases em⟩
theorem XE.v{m:M D}(h:XE K X e m):XE K X e m.v:=⟨fun hk hn zv s σ H tg F ρ x ρ' I G em=>by
 rcases al4 (adp.mp em) with em | ⟨_,_,_,em⟩
 ·exact h.go hk hn zv s σ H tg F ρ x ρ' I G (adp.mpr em)
 ·cases em⟩
end
def fnS(f:Fd):Fd:=fun as=>match f as with
 | some (.exc _,_)=>none
 | r=>r
@[simp] theorem a6n(f:Fd)(as:Ro):fnS f as=match f as with
 | some (.exc _,_)=>none
 | r=>r:=rfl
section
variable{K:Fg9}{X:Cx}{e:Expr}{es:List Expr}{pos p:Pos}
end
section
variable{K:Fg9}{X:Cx}{e:Expr}{pos p np cpos hpos bp:Pos}{c:Str}
end
@[simp] theorem a0g(x:Exn)(ρ:Ro):a0h x ρ=some (.exc x,ρ):=rfl
section
variable{K:Fg9}{h:Heap}{mg:Str->Option Value}{ns:List Str}{c:Str}
end
end Dn
namespace Mn
open L2
section
variable{X:Cx}
end
end Mn
namespace Dn
open L2 Mn
section
variable{K:Fg9}{X:Cx}{a b:Expr}{pos p p2:Pos}
def akk(neg:Bool):D->List D->Option D
 | .int i,[.int y]=>some (.bl (if neg then !(decide (0<=i)&&decide (i < y)) else (decide (0<=i)&&decide (i < y))))
 | _,_=>none
@[simp] theorem awn(neg:Bool)(i y:Int):akk neg (.int i) [.int y]=some (.bl (if neg then !(decide (0<=i)&&decide (i < y)) else (decide (0<=i)&&decide (i < y)))):=rfl
def awb(neg:Bool)(m1:M D)(m2:M (List D)):M D:=m1.bind fun x=>m2.bind fun ds=>lift (akk neg x ds)
@[simp] theorem axn(neg:Bool)(m1:M D)(m2:M (List D))(ρ:Ro):awb neg m1 m2 ρ=(m1.bind fun x=>m2.bind fun ds=>lift (akk neg x ds)) ρ:=rfl
end
section
variable{K:Fg9}{X:Cx}{a b e:Expr}{pos:Pos}{m1:M D}{m2 m:M Rv}
def a3i(m1:M D)(m2:M Rv):M Rv:=m1.bind fun d=>m2.bind fun r=>match r with
 | .v d2=>ret (.v (.tup [d,d2]))
 | .fr l=>ret (.tf d l)
 | .tf _ _=>lift none
@[simp] theorem a01(ρ:Ro):a3i m1 m2 ρ=(m1.bind fun d=>m2.bind fun r=>match r with
 | .v d2=>ret (.v (.tup [d,d2]))
 | .fr l=>ret (.tf d l)
 | .tf _ _=>lift none) ρ:=rfl
def a5r(i j:Nat)(m:M Rv):Sd:=dM m fun r ρ=>match r with
 | .tf d l=>some (.nx,List.set (List.set ρ i (.val d)) j (.own none l))
 | .v (.tup [d,d2])=>some (.nx,List.set (List.set ρ i (.val d)) j (.val d2))
 | _=>none
end
@[simp] theorem a2d(i j:Nat)(m:M Rv)(ρ:Ro):a5r i j m ρ=dM m (fun r ρ=>match r with
 | .tf d l=>some (.nx,List.set (List.set ρ i (.val d)) j (.own none l))
 | .v (.tup [d,d2])=>some (.nx,List.set (List.set ρ i (.val d)) j (.val d2))
 | _=>none) ρ:=rfl
def awy:D->Bool
 | .non | .bl _ | .int _ | .str _=>true
 | _=>false
def aot:Sl->Bool
 | .own _ l=>l.all awy
 | _=>true
def a3q(i:Nat)(m:M Rv):M Rv:=fun ρ=>match ρ[i]?,m ρ with
 | some (.own none l),some (.ok (.fr ys),ρ')=>if ys.all awy=true/\ρ.all aot=true then some (.ok (.fr ys),ρ) else none
 | _,_=>none
@[simp] theorem a09(i:Nat)(m:M Rv)(ρ:Ro):a3q i m ρ=match ρ[i]?,m ρ with
 | some (.own none l),some (.ok (.fr ys),ρ')=>if ys.all awy=true/\ρ.all aot=true then some (.ok (.fr ys),ρ) else none
 | _,_=>none:=rfl
end Dn
namespace Mn
open PySem PySem.SeqAt PySem.MeetsSeq
open PySem.AutoSeq1 (wpAny_loadPart')
end Mn
namespace Dn
open L2 Mn
end Dn
namespace Mn
open L2
section
variable{prog:Program}{w:World}{A:Around}{E:Value->Shared->Prop}{h:Heap}{g:Array GenState}{d:Drawn}{t:Nat}{os:OsState}
variable{nm q:Str}{C N:Addr}{bs bm bmB:List Value}{hdct:Bool}{sn:List Str}{sub:List Value}{ab:Bool}{col:Option Bool}{dd:Option Addr}{k0 k1 k2 k3 k5:Option Value}{B Bn newId nid initId inN:String}{bmN:List Value}
end
end Mn
namespace Dn
open L2 Mn
def refB:Value->Bool
 | .ref _=>true
 | _=>false
def awz(K:Fg9)(C:Addr):Bool:=(PySem.W.clsIn K C).any fun cd=>cd.mro.dropWhile refB==bmV
section
variable{prog:Program}{w:World}{A:Around}{E:Value->Shared->Prop}{s:Shared}{K:Fg9}{x C:Addr}{ox:Obj}{od:Option Obj}{name:Str}{v:Value}
end
section
variable{vs:Array Value}{X:Cx}{zv:List (Addr×Obj)}{σ:L2.St}{H:Hp}{s:Shared}{A:Around}{E:Value->Shared->Prop}{a C:Addr}{f:Str}
structure FldK (K:Fg9) (C:Addr) (f:Str):Prop where
 k:ExcK K C
 sa:findIn K (.ref C) "__setattr__" = some (some (.builtin "object.__setattr__"))
 ov:awz K C=true
 tk:PySem.W.takerIn K C f=some none
end
end Dn
namespace Mn
open L2
section
variable{M:Model}{A:Around}{E:Value->Shared->Prop}{env:Env}
variable{nm q:Str}{C N:Addr}{bs bm:List Value}{hdct:Bool}{sn:List Str}{sub:List Value}{ab:Bool}{col:Option Bool}{dd:Option Addr}{k0 k1 k2 k3 k5:Option Value}{newId:String}
end
section
variable{prog:Program}{w:World}{A:Around}{E:Value->Shared->Prop}{s:Shared}{env:Env}
variable{nm q:Str}{C N:Addr}{bs bm bmB:List Value}{hdct:Bool}{sn:List Str}{sub:List Value}{ab:Bool}{col:Option Bool}{dd:Option Addr}{k0 k1 k2 k3 k5:Option Value}{B Bn newId nid initId inN:String}{bmN:List Value}
end
end Mn
namespace Dn
open L2 Mn
def a0d(K:Fg9)(C fI:Addr):Bool:=match K.lookup C with
 | some ⟨.type "type", _,.cls cd,sl⟩=>(match cd.mro,sl.toList with
  | .ref C'::bm,[_,_,_,_,some (.builtin n),_]=>C'==C&&n == "ValueError.__new__" && !cd.hasDel&&PySem.W.tailIn K bmV bm&&PySem.W.nsOkIn K cd.ns&&nsIn K cd.ns "__init__" == some (some (.ref fI))&&PySem.W.typeIn K (.ref fI)==some (.type "function")
  | _,_=>false)
 | _=>false
section
variable{K:Fg9}{X:Cx}{c f:Str}{C fI:Addr}{fd:FuncData}{kk:Nat}{e1:Expr}{m:M D}{np cpos pos:Pos}
end
def mFld(cs:List Str)(f:Str)(m:M D):M D:=m.bind fun d=>match d with
 | .exn c fs=>if cs.contains c=true then lift ((fs.lookup f).map D.int) else lift none
 | _=>lift none
@[simp] theorem a3w(cs:List Str)(f:Str)(m:M D)(ρ:Ro):mFld cs f m ρ=(m.bind fun d=>match d with
 | .exn c fs=>if cs.contains c=true then lift ((fs.lookup f).map D.int) else lift none
 | _=>lift none) ρ:=rfl
section
variable{K:Fg9}{X:Cx}{c f:Str}{st st':Stmt}{e1:Expr}{m:M D}{np cpos pos p1 p2 p3 p4:Pos}
structure IniT (K:Fg9) (mg:Str->Option Value) (c f q:Str) (st:Stmt):Prop where
 ex:∃C fI fd,mg c=some (.ref C)/\ClsOk K c C/\a0d K C fI=true/\FldK K C f/\Fun K "__init__" q st fI fd
end
end Dn
namespace Stt
open PySem
def Rise(t:SetTable):Prop:=t.place.toList.Pairwise (· < ·)
theorem Rise.lt{t:SetTable}(h:Rise t){i j:Nat}{x y:Nat}(hij:i < j)(hx:t.place[i]? = some x)(hy:t.place[j]? = some y):x < y:=by
 obtain⟨hi,rfl⟩:=Array.getElem?_eq_some_iff.mp hx;obtain⟨hj,rfl⟩:=Array.getElem?_eq_some_iff.mp hy;have:=List.pairwise_iff_getElem.mp h i j (by simpa using hi) (by simpa using hj) hij
 simpa using this
def Cut(xs:Array Nat)(j p:Nat):Prop:=p<=xs.size/\(∀i x,i < p->xs[i]? = some x->x < j)/\∀i x,p<=i->xs[i]? = some x->j<=x
theorem ahs{xs:Array Nat}(hs:xs.toList.Pairwise (· < ·))(j:Nat):∀(fuel lo hi:Nat),hi - lo<=fuel->lo<=hi->hi<=xs.size->(∀i x,i < lo->xs[i]? = some x->x < j)->(∀i x,hi<=i->xs[i]? = some x->j<=x) ->
  Cut xs j (SetTable.below.go xs j fuel lo hi)
 | 0,lo,hi,hf,hle,hsz,a,b=>by
  have:lo=hi:=by omega
  subst this;exact⟨hsz,a,b⟩
 | fuel+1,lo,hi,hf,hle,hsz,a,b=>by
  unfold SetTable.below.go;split
  ·rename_i hlt;dsimp only;have hm:(lo+hi) / 2 < xs.size:=by omega
   have hg:xs.getD ((lo+hi) / 2) j=xs[(lo+hi) / 2]:=by simp[Array.getD,hm]
   have hx:xs[(lo+hi) / 2]? = some (xs[(lo+hi) / 2]):=by simp[hm]
   rw[hg]
   by_cases hc:xs[(lo+hi) / 2] < j
   ·rw[if_pos hc];refine ahs hs j fuel ((lo+hi) / 2+1) hi (by omega) (by omega) hsz (fun i x hi' hx' =>?_) b
    rcases Nat.lt_or_ge i ((lo+hi) / 2) with h | h
    ·exact Nat.lt_trans (Rise.lt (t:={ mask:=0,place:=xs,dummies := #[],finger:=0,led:=true,moves:=0,plain:=true }) hs h hx' hx) hc
    ·have:i=(lo+hi) / 2:=by omega
     subst this;rw[hx] at hx';cases hx';exact hc
   ·rw[if_neg hc];refine ahs hs j fuel lo ((lo+hi) / 2) (by omega) (by omega) (by omega) a (fun i x hi' hx' =>?_)
    rcases Nat.lt_or_ge ((lo+hi) / 2) i with h | h
    ·exact Nat.le_trans (Nat.not_lt.mp hc) (Nat.le_of_lt (Rise.lt (t:={ mask:=0,place:=xs,dummies := #[],finger:=0,led:=true,moves:=0,plain:=true }) hs h hx hx'))
    ·have:i=(lo+hi) / 2:=by omega
     subst this;rw[hx] at hx';cases hx';omega
  ·have:lo=hi:=by omega
   subst this;exact⟨hsz,a,b⟩
theorem afx{xs:Array Nat}(hs:xs.toList.Pairwise (· < ·))(j:Nat):Cut xs j (SetTable.below xs j) :=
 ahs hs j xs.size 0 xs.size (by omega) (Nat.zero_le _) (Nat.le_refl _) (fun i x h _=>absurd h (Nat.not_lt_zero _)) fun i x h hx=>by
  obtain⟨h',_⟩:=Array.getElem?_eq_some_iff.mp hx;omega
theorem ana{t:SetTable}(h:Rise t):SetTable.below t.place 0=0:=by
 obtain⟨hp,a,b⟩:=afx h 0;rcases Nat.eq_zero_or_pos (SetTable.below t.place 0) with h0 | h0
 ·exact h0
 ·have h1:0 < t.place.size:=by omega
  exact absurd (a 0 t.place[0] h0 (by simp[h1])) (Nat.not_lt_zero _)
theorem anb{t:SetTable}(h:Rise t){i x:Nat}(hx:t.place[i]? = some x):SetTable.below t.place (x+1)=i+1:=by
 obtain⟨hp,a,b⟩:=afx h (x+1);rcases Nat.lt_trichotomy (SetTable.below t.place (x+1)) (i+1) with h1 | h1 | h1
 ·have:=b i x (by omega) hx
  omega
 ·exact h1
 ·have h2:i+1 < t.place.size:=by omega
  have h3:t.place[i+1]? = some t.place[i+1]:=by simp[h2]
  have:=a (i+1) _ h1 h3;have:=h.lt (Nat.lt_succ_self i) hx h3;omega
theorem aj3{t:SetTable}(h:Rise t){j:Nat}(hj:t.place[SetTable.below t.place j]? ≠ some j):(SetTable.insertAt t.place (SetTable.below t.place j) j).toList.Pairwise (· < ·):=by
 obtain⟨hp,a,b⟩:=afx h j;rw[SetTable.toList_insertAt];generalize hq:SetTable.below t.place j=p at *;rw[List.pairwise_append];refine⟨List.Pairwise.sublist (List.take_sublist _ _) h,?_,?_⟩
 ·rw[List.pairwise_cons];refine⟨fun y hy =>?_,List.Pairwise.sublist (List.drop_sublist _ _) h⟩
  obtain⟨i,hi,rfl⟩:=List.mem_iff_getElem.mp hy;rw[List.length_drop,Array.length_toList] at hi;rw[List.getElem_drop,Array.getElem_toList];have h1:t.place[p+i]? = some t.place[p+i]:=by simp
  have h2:=b (p+i) _ (by omega) h1
  rcases Nat.eq_or_lt_of_le h2 with e | e
  ·exfalso;rcases Nat.eq_zero_or_pos i with z | z
   ·subst z;exact hj (by rw[e];exact h1)
   ·have h3:t.place[p]? = some t.place[p]:=by simp
    have h4:=h.lt (show p < p+i by omega) h3 h1
    have h5:=b p _ (Nat.le_refl _) h3;omega
  ·exact e
 ·intro x hx y hy;have hxj:x < j:=by
   obtain⟨i,hi,rfl⟩:=List.mem_iff_getElem.mp hx;rw[List.length_take,Array.length_toList] at hi;rw[List.getElem_take,Array.getElem_toList];exact a i _ (by omega) (by simp)
  rcases List.mem_cons.mp hy with rfl | hy
  ·exact hxj
  ·obtain⟨i,hi,rfl⟩:=List.mem_iff_getElem.mp hy;rw[List.length_drop,Array.length_toList] at hi;rw[List.getElem_drop,Array.getElem_toList];have:=b (p+i) t.place[p+i] (by omega) (by simp)
   omega
def Away(t:SetTable)(j:Nat):Prop:=t.place[SetTable.below t.place j]? ≠ some j
theorem ah3{t:SetTable}{j:Nat}(h:∀i,t.slot j≠.live i):Away t j:=fun e=>h (SetTable.below t.place j) (by
 unfold SetTable.slot;dsimp only;rw[if_pos (by rw[e];exact beq_self_eq_true _)])
theorem adc{t:SetTable}{f:Nat->Int}{h:Int}:∀(fuel:Nat) (p:SetTable.Probe) (j:Nat) (d:Option Nat),(∀x,p.dummy=some x->Away t x)->SetTable.probe.go t f h fuel p=some (.empty j d)->Away t (d.getD j)
 | 0,p,j,d,_,e=>by cases e
 | fuel+1,p,j,d,hd,e=>by
  unfold SetTable.probe.go at e;have adv:∀q:SetTable.Probe,(t.advance q).dummy=q.dummy:=fun q=>by unfold SetTable.advance;split <;> rfl
  split at e
  ·rename_i hs;cases e;cases hq:p.dummy with
   | none=>exact ah3 fun i z=>by rw[Option.getD_none,hs] at z;cases z
   | some x=>exact hd x hq
  ·rename_i hs;refine adc fuel _ j d (fun x hx =>?_) e
   rw[adv] at hx;cases hx;exact ah3 fun i z=>by rw[hs] at z;cases z
  ·split at e
   ·cases e
   ·exact adc fuel _ j d (fun x hx=>by rw[adv] at hx;exact hd x hx) e
theorem apq{t:SetTable}{h:Int}{j:Nat}{b:Bool}(e:t.freeSlot h=some (j,b)):Away t j:=by
 unfold SetTable.freeSlot at e;split at e
 ·rename_i j' d hp;cases e;exact adc _ _ j' d (fun x hx=>by cases hx) hp
 ·cases e
theorem amn(n:Nat):(Array.range n).toList.Pairwise (· < ·):=by
 rw[Array.toList_range];exact List.pairwise_lt_range
def Kept(b:Bool)(t:SetTable):Prop:=Rise t/\t.led=b
theorem Kept.standIn{b:Bool}{t:SetTable}(h:Kept b t)(n:Nat):Kept b (t.standIn n):=⟨amn n,h.2⟩
theorem ake{b:Bool}{t:SetTable}(h:Kept b t)(es:Array (Int×Value))(k:Int)(x:Value):Kept b (layNew t es k x).2.1:=by
 unfold layNew;split
 ·rename_i slot wd e;dsimp only;have h':Kept b (t.put slot).1:=⟨aj3 h.1 (apq e),h.2⟩;unfold SetTable.orStandIn;split
  ·exact h'
  ·exact h'.standIn _
 ·exact h.standIn _
theorem ao9{m f mv:Nat}{b p:Bool}{hs:Array Int}{t:SetTable}{o:Array Nat}(e:SetTable.laid m f mv b p hs=some (t,o)):Kept b t:=by
 unfold SetTable.laid at e;cases e1:SetTable.layClean m hs with
 | none=>rw[e1] at e;cases e
 | some ow =>
  rw[e1] at e;cases e;refine⟨?_,rfl⟩;show List.Pairwise _ _;dsimp only;have h0:((List.range (m+1)).filterMap fun j=>(ow.getD j none).map (j,·)).map (·.1)=(List.range (m+1)).filter fun j=>(ow.getD j none).isSome:=by
   generalize List.range (m+1)=l
   induction l with
   | nil=>rfl
   | cons a r ih =>
    cases h:ow.getD a none with
    | none=>simp only[List.filterMap_cons,List.filter_cons,h,Option.map_none,Option.isSome_none];simpa using ih
    | some z=>simp only[List.filterMap_cons,List.filter_cons,h,Option.map_some,Option.isSome_some,List.map_cons];simpa using ih
  rw[h0];exact List.Pairwise.sublist List.filter_sublist List.pairwise_lt_range
theorem aml{b:Bool}{t:SetTable}(h:Kept b t)(es:Array (Int×Value))(n:Nat):Kept b (relayAll t es n).2.1:=by
 unfold relayAll;split
 ·rename_i t' o e;dsimp only;split
  ·have:=ao9 e;rw[h.2] at this;exact this
  ·exact h.standIn _
 ·exact h.standIn _
theorem am8(b:Bool):Kept b (.fresh 0 0 b):=⟨List.Pairwise.nil,rfl⟩
open PySem.Spec PyProof.Rows
def keyE(e:Int×Value):Int:=match e.2 with
 | .int k _=>k
 | _=>0
def Ent(e:Int×Value):Prop:=∃k u,e=(hashInt k,Value.int k u)
structure SetG (w:World) (es:Array (Int×Value)) (t:SetTable) (ns:List Int):Prop where
 ent:∀e∈es.toList,Ent e
 nd:(es.toList.map keyE).Nodup
 mem:∀k,k∈es.toList.map keyE↔k∈ns
 fit:t.fits es.size=true
 kept:Kept (!w.params.followText "set-order") t
def setO(es:Array (Int×Value))(ep:Nat)(t:SetTable):Obj:={ cls:=.type "set", dict:=none,data:=.set es ep t }
theorem SetG.elems{prog:Program}{w:World}{es:Array (Int×Value)}{t:SetTable}{ns:List Int}(g:SetG w es t ns):ElemsOf (intKind prog w) es.toList:=fun e he=>by
 obtain⟨k,u,rfl⟩:=g.ent e he;exact⟨⟨k,intKind_is _ _ _ _,rfl⟩,rfl⟩
theorem SetG.empty(w:World):SetG w #[] (.fresh 0 0 (!w.params.followText "set-order")) []:=⟨fun e he=>by simp at he,List.Pairwise.nil,fun k=>by simp,rfl,am8 _⟩
theorem apy{e:Int×Value}(h:Ent e)(k:Int):Value.isInt k e.2=true↔keyE e=k:=by
 obtain⟨j,u,rfl⟩:=h;simp[Value.isInt,keyE]
theorem SetG.push{w:World}{es es':Array (Int×Value)}{t t':SetTable}{ns:List Int}{k:Int}{u:Tok}(g:SetG w es t ns)(hn:k∉es.toList.map keyE)(hp:es'.toList.Perm (es.push (hashInt k,.int k u)).toList)(hf:t'.fits es'.size=true)
  (hk:Kept (!w.params.followText "set-order") t'):SetG w es' t' (ns++[k]):=by
 rw[Array.toList_push] at hp;have hm:=hp.map keyE;rw[List.map_append] at hm;refine⟨fun e he =>?_,?_,fun j =>?_,hf,hk⟩
 ·rcases List.mem_append.mp (hp.mem_iff.mp he) with h | h
  ·exact g.ent e h
  ·rw[List.mem_singleton] at h;exact⟨k,u,h⟩
 ·rw[hm.nodup_iff,List.nodup_append];refine⟨g.nd,by simp,fun a ha b hb e =>?_⟩
  simp only[List.map_cons,List.map_nil,List.mem_singleton] at hb;subst hb;subst e;exact hn ha
 ·rw[hm.mem_iff,List.mem_append,List.mem_append,g.mem j];rfl
theorem SetG.perm{w:World}{es es':Array (Int×Value)}{t t':SetTable}{ns:List Int}(g:SetG w es t ns)(hp:es'.toList.Perm es.toList)(hf:t'.fits es'.size=true)(hk:Kept (!w.params.followText "set-order") t'):SetG w es' t' ns :=
 ⟨fun e he=>g.ent e (hp.mem_iff.mp he),(hp.map keyE).nodup_iff.mpr g.nd,fun k=>by rw[(hp.map keyE).mem_iff,g.mem k],hf,hk⟩
section
variable{prog:Program}{w:World}{A:Around}{E:Value->Shared->Prop}{s:Shared}
theorem ak5{h:Heap}{a:Addr}{es es':Array (Int×Value)}{ep:Nat}{t t':SetTable}(ho:h.get? a=some (setO es ep t)):(h.update a (Obj.putSet es' t')).get? a=some (setO es' (ep+1) t'):=by
 have:=Heap.get?_update_self (Obj.putSet es' t') ho (by rw[putSet_of es' t' (o:=setO es ep t) rfl];rfl)
 rw[putSet_of es' t' (o:=setO es ep t) rfl] at this;exact this
theorem auk{a:Addr}{es es1:Array (Int×Value)}{ep:Nat}{t t2:SetTable}{ns:List Int}(g:Bool->Sem Unit)(hg:∀(b:Bool) (s₁:Shared) (Q':Unit->Shared->Prop),Q' () s₁->wpAny (model prog w) A (g b) Q' E s₁)
  (ho:s.heap.get? a=some (setO es ep t)) (G:SetG w es1 t2 ns) (hb:es1.size < scanBound) {wasDummy:Bool} {R:Option Bool->Shared->Prop}
  (h:∀h' es' ep' t',Heap.SameBut a s.heap h'->h'.get? a=some (setO es' ep' t')->SetG w es' t' ns->es'.size=es1.size->R (some true) { s with heap:=h' }) :
  wpAny (model prog w) A (do
    storeSet a es1 t2
    if (!wasDummy&&t2.tooFull)=true then do
      g (relayAll t2 es1 (SetTable.grown es1.size)).2.2
      storeSet a (relayAll t2 es1 (SetTable.grown es1.size)).1 (relayAll t2 es1 (SetTable.grown es1.size)).2.1
      pure (some true)
     else pure (some true)) R E s:=by
 refine wpAny_bind (wpAny_storeSet_of ho rfl ?_ (fits_of_scanBound hb));have h1:=ak5 (es':=es1) (t':=t2) ho;have b1:=Heap.SameBut.update s.heap a (Obj.putSet es1 t2);split
 ·have hp:=relayAll_perm t2 es1 (SetTable.grown es1.size);have hsz:(relayAll t2 es1 (SetTable.grown es1.size)).1.size=es1.size:=by rw[<-Array.length_toList,hp.length_eq,Array.length_toList]
  refine wpAny_bind (hg _ _ _ ?_);refine wpAny_bind (wpAny_storeSet_of h1 rfl ?_ (fits_of_scanBound (by rw[hsz];exact hb)))
  exact wpAny_pure (h _ _ _ _ (b1.trans (Heap.SameBut.update _ a _)) (ak5 h1) (G.perm hp (relayAll_fits _ _ _) (aml G.kept _ _)) hsz)
 ·exact wpAny_pure (h _ _ _ _ b1 h1 G rfl)
theorem a0t{a:Addr}{es:Array (Int×Value)}{ep:Nat}{t:SetTable}{ns:List Int}{k:Int}{u:Tok}{Q:Bool->Shared->Prop}(ho:s.heap.get? a=some (setO es ep t))(G:SetG w es t ns)(hb:es.size+1 < scanBound)
  (h:∀h' es' ep' t' b,Heap.SameBut a s.heap h'->h'.get? a=some (setO es' ep' t')->SetG w es' t' (ns++[k])->es'.size<=es.size+1->Q b { s with heap:=h' }) :
  wpAny (model prog w) A (setAddHashed a (.int k u) (hashInt k)) Q E s:=by
 have hel:ElemsOf (intKind prog w) es.toList:=G.elems;have hkey:(intKind prog w).is k (.int k u)=true:=intKind_is _ _ _ _;unfold setAddHashed setAddHashedIn;refine wpAny_holding (wpAny_bind (wpAny_setState_of ho rfl G.fit ?_));dsimp only;rw[byScan_of (knd:=intKind prog w) rfl (by omega) hel]
 simp only[↓reduceIte];unfold setAddByScan;refine wpAny_bind ?_;refine wpAny_bind (wpAny_rule ?_);refine wpAny_bind (wpAny_setScan_of (knd:=intKind prog w) hkey ho rfl G.fit hel ?_);cases hr:List.findIdx? (fun e=>(intKind prog w).is k e.2) es.toList with
 | some j =>
  dsimp only;obtain⟨hj,hpj,_⟩:=List.findIdx?_eq_some_iff_getElem.mp hr;have hin:k∈es.toList.map keyE:=List.mem_map.mpr ⟨_,List.getElem_mem hj,(apy (G.ent _ (List.getElem_mem hj)) k).mp hpj⟩;refine wpAny_pure (wpAny_pure ?_);refine h s.heap es ep t _ (Heap.SameBut.refl a s.heap) ho ⟨G.ent,G.nd,fun j' =>?_,G.fit,G.kept⟩ (by omega)
  rw[List.mem_append,List.mem_singleton,G.mem j'];exact⟨.inl,fun z=>z.elim id fun z=>z▸(G.mem k).mp hin⟩
 | none =>
  dsimp only;have hout:k∉es.toList.map keyE:=fun z=>by
   obtain⟨e,he,hk⟩:=List.mem_map.mp z;have h1:=List.findIdx?_eq_none_iff.mp hr e he;have h2:(intKind prog w).is k e.2=true:=(apy (G.ent e he) k).mpr hk;rw[h2] at h1;cases h1
  have hgw:∀(b:Bool) {s₁:Shared} {Q':Unit->Shared->Prop},Q' () s₁->wpAny (model prog w) A (match b with | true=>rule "set.scan.the-table-gave-way" | false=>pure ()) Q' E s₁ :=
   fun b s₁ Q' hq=>by cases b <;> first | exact wpAny_pure hq | exact wpAny_rule hq
  have hperm:=layNew_perm t es (hashInt k) (.int k u);have hfits:=layNew_fits t es (hashInt k) (.int k u);have hkept:=ake G.kept es (hashInt k) (.int k u);show wpAny (model prog w) A _ _ _ _
  change wpAny (model prog w) A (match layNew t es (hashInt k) (.int k u) with | (es,t,wasDummy,gave)=>_) _ _ _
  generalize hL:layNew t es (hashInt k) (.int k u)=L at hperm hfits hkept ⊢
  obtain⟨es1,t1,wasDummy,gave⟩:=L;dsimp only at hperm hfits hkept ⊢
  have G1:=G.push hout hperm hfits hkept;have hsz1:es1.size=es.size+1:=by rw[<-Array.length_toList,hperm.length_eq,Array.length_toList,Array.size_push]
  refine wpAny_bind (hgw _ ?_);split
  ·refine wpAny_bind ?_;rw[hashByValue_scannable 8 rfl];refine wpAny_pure ?_;refine auk _ ?_ ho (ns:=ns++[k]) ?_ (by omega) ?_
   ·intro b s₁ Q' hq;cases b <;> first | exact wpAny_pure hq | exact wpAny_rule hq
   ·exact G1
   ·intro h' es' ep' t' hsb ho' G' hz;exact wpAny_pure (h h' es' ep' t' _ hsb ho' G' (by omega))
  ·refine wpAny_bind (wpAny_pure ?_);simp only[↓reduceIte];refine auk _ ?_ ho (ns:=ns++[k]) G1 (by omega) ?_
   ·intro b s₁ Q' hq;cases b <;> first | exact wpAny_pure hq | exact wpAny_rule hq
   ·intro h' es' ep' t' hsb ho' G' hz;exact wpAny_pure (h h' es' ep' t' _ hsb ho' G' (by omega))
end
section
variable{prog:Program}{w:World}{A:Around}{R:Result->Shared->Prop}{I:Addr}{fp wr:List Addr}{G:Array GenState->Array GenState->Prop}{n:Nat}{P:Nat->Value->Prop}{St:Nat->Shared->Prop}
theorem aup(W:WalksS prog w A.in1 I fp wr G n P St)(S:Addr)(hSf:S∉fp)(val:Nat->Int)(hval:∀i v,P i v->∃t,v=.int (val i) t)(hb:n+1 < scanBound) :
  ∀(k i:Nat) (s:Shared) (es:Array (Int×Value)) (ep:Nat) (t:SetTable),n - i=k->i<=n->St i s->s.heap.get? S=some (setO es ep t)->SetG w es t ((List.range i).map val)->es.size<=i ->
   (∀s' es' ep' t',Moved (S::wr) G s s'->s'.heap.get? S=some (setO es' ep' t')->SetG w es' t' ((List.range n).map val)->es'.size<=n->R (.ok (.ret .none)) s') ->
   codeAny (model prog w) A (.builtin "set.update.loop" ⟨[.ref S,.ref I],[]⟩) R s:=by
 have hSw:S∉wr:=fun h=>hSf (W.sub _ h)
 have hsub:∀b∈wr,b∈S::wr:=fun b hb=>List.mem_cons_of_mem _ hb
 intro k
 induction k with
 | zero =>
  intro i s es ep t hk hi hst ho g hz hR;have hin:i=n:=by omega
  subst hin;refine codeAny_builtin F.entry_set_update_loop ?_;rw[Around.under_plainId F.plain_set_update_loop _];show wpAny _ A.in1 (pyNext (.ref I) >>= _) _ _ s;refine wpAny_bind (W.done s _ _ hst fun s' hm =>?_)
  show wpAny _ A.in1 (ret Value.none) _ _ s';exact wpAny_pure (hR s' es ep t (hm.mono hsub) (hm.heap S _ hSw ho) g hz)
 | succ k ih =>
  intro i s es ep t hk hi hst ho g hz hR;have hlt:i < n:=by omega
  refine codeAny_builtin F.entry_set_update_loop ?_;rw[Around.under_plainId F.plain_set_update_loop _];show wpAny _ A.in1 (pyNext (.ref I) >>= _) _ _ s;refine wpAny_bind (W.item i s _ _ hlt hst fun v s' hP hst' hm =>?_)
  obtain⟨u,rfl⟩:=hval i v hP;have ho':s'.heap.get? S=some (setO es ep t):=hm.heap S _ hSw ho;show wpAny _ A.in1 (holding [Value.int (val i) u] (setAdd S (.int (val i) u)) >>= _) _ _ s';refine wpAny_bind (wpAny_holding ?_);unfold setAdd;refine wpAny_holding ?_;refine wpAny_bind ((intKind prog w).pyHash (k:=val i) (intKind_is _ _ _ _) ?_);refine a0t (s:={ s' with toks:=s'.toks+1 }) (u:=u) (k:=val i) ho' g (by omega) fun h' es' ep' t' b hsb ho2 g2 hz2 =>?_
  have g3:SetG w es' t' ((List.range (i+1)).map val):=by
   rw[List.range_succ,List.map_append];exact g2
  refine wpAny_pure ⟨plainId_quiet F.plain_set_update_loop _,ih (i+1) _ es' ep' t' (by omega) hlt (W.frame _ s' _ _ hst' (Nat.le_succ _) fun b hb o e =>?_) ho2 g3 (by omega) fun s'' es'' ep'' t'' hm'' ho'' g'' hz'' =>?_⟩
  ·rw[hsb.2 b (fun h:b=S=>hSf (by rw[<-h];exact hb))];exact e
  ·refine hR s'' es'' ep'' t'' (Moved.trans W.gtrans ((hm.mono hsub).then_heap (Nat.le_succ _) fun b o hb e =>?_) hm'') ho'' g'' hz''
   rw[hsb.2 b (fun h:b=S=>hb (by rw[h];exact List.mem_cons_self))];exact e
end
theorem sub_tuple_set:isSubtype (.type "tuple") (.type "set")=pure false:=by rw[isSubtype_type];kernel_rfl
theorem sub_tuple_frozenset:isSubtype (.type "tuple") (.type "frozenset")=pure false:=by rw[isSubtype_type];kernel_rfl
section
variable{prog:Program}{w:World}{A:Around}{E:Value->Shared->Prop}{s:Shared}
abbrev fresh0(w:World):Obj:=setO #[] 0 (.fresh 0 0 (!w.params.followText "set-order"))
theorem av2(a:Value){Q₁:Value->Shared->Prop}(h:Q₁ (.ref s.heap.objs.size) { s with heap:=s.heap.push (fresh0 w) }) :
  codeAny (model prog w) A (.call (.builtin "set.__new__") ⟨[.type "set", a],[]⟩) (wants Q₁ E) s:=by
 refine codeAny_of_tree ?_;show wpAny _ A.in1 (do checkBuiltinCall "set.__new__" ⟨[.type "set", a],[]⟩;again (.builtin "set.__new__" ⟨[.type "set", a],[]⟩)) _ _ s
 refine wpAny_bind (wpAny_of_eq (F.newCall_set_1 a) (wpAny_pure ⟨plainId_quiet F.plain_set_new _,codeAny_builtin F.entry_set_new ?_⟩));rw[Around.under_plainId F.plain_set_new _];unfold Builtin.«set.__new__» Builtin.Frozenset.newClass;have hsub:=sub_set_self;obtain⟨hp,g,d,tk,os⟩:=s;dsimp only;wp_walk;refine wpAny_askSetting (wpAny_pure ?_);dsimp only;simp only[newObj];refine wpAny_bind (wpAny_alloc (wpAny_pure ?_));exact wpAny_pure h
set_option maxRecDepth 100000 in
set_option maxHeartbeats 3200000 in
theorem ax7{l:Addr}{items:Array Value}{ns:List Int}{Q:Value->Shared->Prop}(hh:A.handled=none)(hl:s.heap.IsTuple l items)(hi:IntsAre items.toList ns)(hb:items.size+1 < scanBound)
  (h:∀(h':Heap) (tk:Nat) es ep t,h'.get? s.heap.objs.size=some (setO es ep t)->SetG w es t ns->es.size<=items.size->(∀b o,s.heap.get? b=some o->h'.get? b=some o)->Q (.ref s.heap.objs.size) { s with heap:=h',toks:=tk }) :
  wpAny (model prog w) A (call (.type "set") [.ref l]) Q E s:=by
 obtain⟨c,tl,hmro⟩:=F.called_set.mro;have hmade:=F.called_set.made;have hsub:=F.called_set.sub;refine wpAny_call (codeAny_of_tree ?_);show wpAny _ _ (callAny (.type "set") _) _ _ _;refine wpAny_pure ⟨Code.quiet_builtin _ (by decide +kernel),codeAny_builtin F.entry_type_call ?_⟩
 rw[Around.under_plain (weight_type_call_type "set" [.ref l] []) rfl];have h1:=F.called_set.notType;have h2:=F.called_set.canCreate;have hct:=F.typeCall_set_1 (.ref l)
 repeat (any_goals (first | assumption | wp_step))
 refine codeAny_mono (av2 (.ref l) (E:=E) (Q₁:=fun obj s₁=>obj=.ref s.heap.objs.size/\s₁={ s with heap:=s.heap.push (fresh0 w) }) ⟨rfl,rfl⟩) fun r s₁ hr =>?_
 cases r with
 | error e=>exact hr
 | ok fl =>
  cases fl with
  | ret obj =>
   obtain⟨rfl,rfl⟩:=hr;have hS:(s.heap.push (fresh0 w)).get? s.heap.objs.size=some (fresh0 w):=Heap.get?_push_size _ rfl;have hT:Shared.TypeIs { s with heap:=s.heap.push (fresh0 w) } (.ref s.heap.objs.size) "set" := ⟨_,hS,rfl⟩
   have hli:=F.called_set.init.lookup;have hbi:=F.called_set.init.bind (.ref s.heap.objs.size)
   repeat (any_goals (first | assumption | wp_step))
   refine codeAny_mono (codeAny_call_builtin (R:=wants (fun r s₂=>r=.none/\∃h' tk es ep t,s₂={ s with heap:=h',toks:=tk }/\h'.get? s.heap.objs.size=some (setO es ep t)/\SetG w es t ns/\es.size<=items.size /\
     (∀b o,s.heap.get? b=some o->h'.get? b=some o)) E) F.called_set.init.plain F.entry_set_init (check_set_init_1 hT ?_)) fun r₂ s₂ hr₂ =>?_
   ·obtain⟨ol,hol,hcl,nl,hdl⟩:=hl;obtain⟨ocls,odict,odata,oslots⟩:=ol;simp only at hcl hdl;subst hcl;subst hdl;have hol':(s.heap.push (fresh0 w)).get? l=some { cls:=.type "tuple", dict:=odict,data:=.seq items nl,slots:=oslots }:=Heap.get?_push_of_some _ hol;have hsls:=sub_tuple_set;have hslf:=sub_tuple_frozenset;have hne:(Value.type "tuple" == Value.type "dict")=false:=by decide
    have hl1:(s.heap.push (fresh0 w)).IsTuple l items:=⟨_,hol',rfl,nl,rfl⟩;unfold Builtin.«set.__init__» noKeywords Builtin.Frozenset.updateFrom;generalize hPI:pyIter=PI;wp_walk;subst hPI;refine wpAny_pyIter_tuple hl1 ?_;refine wpAny_bind (wpAny_runValue ?_);have hlS:l < s.heap.objs.size:=Heap.lt_size hol;have hh3:A.in1.in1.in1.handled=none:=by simp[hh]
    have hneI:l≠(s.heap.push (fresh0 w)).objs.size:=by
     rw[Heap.size_push];exact Nat.ne_of_lt (Nat.lt_succ_of_lt hlS)
    have hSf:s.heap.objs.size∉[(s.heap.push (fresh0 w)).objs.size,l]:=by
     rw[Heap.size_push];simp only[List.mem_cons,List.mem_singleton,List.not_mem_nil,or_false,not_or];exact⟨Nat.ne_of_lt (Nat.lt_succ_self _),Nat.ne_of_gt hlS⟩
    have hval:∀(i:Nat) (v:Value),items[i]? = some v->∃t,v=.int ((fun i=>ns.getD i 0) i) t:=fun i v hv =>
     PyProof.Rows.IntsAre.int_at hi i v (by rw[Array.getElem?_toList];exact hv)
    have hlen:items.size=ns.length:=by rw[<-Array.length_toList];exact hi.length
    have hns:(List.range items.size).map (fun i=>ns.getD i 0)=ns:=by
     rw[hlen];apply List.ext_getElem
     ·simp
     ·intro i h1 h2;simp[List.getD_eq_getElem?_getD,h2]
    refine aup ((Walks.tuple hh3 _ l hneI items).toS) s.heap.objs.size hSf (fun i=>ns.getD i 0) hval hb (items.size - 0) 0 _ #[] 0 _ (by omega) (Nat.zero_le _)
     ⟨⟨_,Heap.get?_push_size _ rfl,rfl,rfl⟩,(hl1.push _)⟩ (Heap.get?_push_of_some _ hS) (SetG.empty w) (Nat.zero_le _) ?hR
    case hR =>
     intro s' es ep t hm ho' g' hz';rw[hns] at g';obtain⟨h',g₀,d',tk',os'⟩:=s';have eg:g₀=s.gens:=hm.gens;have ed:d'=s.drawn:=hm.drawn;have eo:os'=s.os:=hm.os;subst eg;subst ed;subst eo;show wpAny _ _ _ _ _ _;refine wpAny_pure ?_;show wpAny _ _ (ret Value.none) _ _ _;refine wpAny_pure ⟨rfl,h',tk',es,ep,t,rfl,ho',g',hz',fun b o e =>?_⟩
     have hlt:=Heap.lt_size e;have hb1:b≠s.heap.objs.size:=Nat.ne_of_lt hlt;have hb2:b≠(s.heap.push (fresh0 w)).objs.size:=by
      rw[Heap.size_push];exact Nat.ne_of_lt (Nat.lt_succ_of_lt hlt)
     exact hm.heap b o (by simp only[List.mem_cons,List.mem_singleton,List.not_mem_nil,or_false,not_or];exact⟨hb1,hb2⟩) (Heap.get?_push_of_some _ (Heap.get?_push_of_some _ e))
   ·cases r₂ with
    | error e=>exact hr₂
    | ok fl₂ =>
     cases fl₂ with
     | ret r =>
      obtain⟨rfl,h',tk,es,ep,t,rfl,hS',g',hz',hk'⟩:=hr₂
      repeat (any_goals (first | assumption | wp_step))
      exact h _ _ _ _ _ hS' g' hz' hk'
     | _=>exact hr₂.elim
  | _=>exact hr.elim
end
theorem af5:entryFor table "set.__iter__" = some Builtin.«frozenset.__iter__» :=
 entryFor_alias (id' := "frozenset.__iter__") (by kernel_rfl) rfl (by decide +kernel) (by kernel_rfl)
theorem jb:Slot "set_iterator" "__next__" "set_iterator.__next__" :=
 .of (owner := "set_iterator") (n := "__next__") (by rw[typeLookup_type,builtinLookup_eq_fast];kernel_rfl) (by decide +kernel) (by decide +kernel) (by decide +kernel)
  (by first | exact .inl (by decide +kernel) | exact .inr (by decide +kernel)) (by rw[isSubtype_type];kernel_rfl)
theorem vd:entryFor table "set_iterator.__next__" = some Builtin.«set_iterator.__next__» := entryFor_of_tree (by kernel_rfl)
theorem adz:Slot "set_iterator" "__iter__" "set_iterator.__iter__" :=
 .of (owner := "set_iterator") (n := "__iter__") (by rw[typeLookup_type,builtinLookup_eq_fast];kernel_rfl) (by decide +kernel) (by decide +kernel) (by decide +kernel)
  (by first | exact .inl (by decide +kernel) | exact .inr (by decide +kernel)) (by rw[isSubtype_type];kernel_rfl)
theorem ahp:entryFor table "set_iterator.__iter__" = some Builtin.«dict_keyiterator.__iter__» :=
 entryFor_alias (id' := "dict_keyiterator.__iter__") (by kernel_rfl) rfl (by decide +kernel) (by kernel_rfl)
theorem ak9:Manifest.owners.lookup (String.ofList ['r','o','t','a','r','e','t','i','_','t','e','s'].reverse)=some Manifest.sig_set_iterator:=by kernel_rfl
theorem xu(a:Value):argsOk "set_iterator.__next__" ⟨[a],[]⟩:=by
 unfold argsOk;rw[signature?_of (id := "set_iterator.__next__") (n:=['_','_','t','x','e','n','_','_']) (o:=['r','o','t','a','r','e','t','i','_','t','e','s']) (by kernel_rfl) ak9];kernel_rfl
theorem ajs(a:Value):argsOk "set_iterator.__iter__" ⟨[a],[]⟩:=by
 unfold argsOk;rw[signature?_of (id := "set_iterator.__iter__") (n:=['_','_','r','e','t','i','_','_']) (o:=['r','o','t','a','r','e','t','i','_','t','e','s']) (by kernel_rfl) ak9];kernel_rfl
def IsSI(h:Heap)(I S:Addr)(first:Value)(i n ep:Nat):Prop:=∃o,h.get? I=some o/\o.cls=.type "set_iterator" /\ o.data=.fields #[first,.int i 0,.ref S,.int n 0,.int ep 0]
theorem IsSI.typeIs{s:Shared}{I S:Addr}{first:Value}{i n ep:Nat}(x:IsSI s.heap I S first i n ep):s.TypeIs (.ref I) "set_iterator" := let ⟨o,ho,hc,_⟩:=x;⟨o,ho,hc⟩
theorem IsSI.at{h h':Heap}{I S:Addr}{first:Value}{i n ep:Nat}(x:IsSI h I S first i n ep)(e:∀o,h.get? I=some o->h'.get? I=some o):IsSI h' I S first i n ep:=let ⟨o,ho,r⟩:=x;⟨o,e _ ho,r⟩
section
variable{prog:Program}{w:World}{A:Around}{E:Value->Shared->Prop}{s:Shared}
theorem aj0{I S:Addr}{first:Value}{i n ep:Nat}{Q:Value->Shared->Prop}(hit:IsSI s.heap I S first i n ep)(h:Q (.ref I) s):wpAny (model prog w) A (pyIter (.ref I)) Q E s:=by
 refine wpAny_pyIter_slot hit.typeIs adz (wpAny_call_entry adz hit.typeIs ahp ?_ (ajs _));show wpAny _ _ (ret (.ref I)) _ _ s;exact wpAny_pure ⟨_,rfl, "set_iterator", _,hit.typeIs,jb.lookup,h⟩
theorem aoc{I S:Addr}{slot i:Nat}{es:Array (Int×Value)}{ep:Nat}{t:SetTable}{Q:Option Value->Shared->Prop}{x:Value}{slot':Nat}(hit:IsSI s.heap I S (.int slot 0) i es.size ep)(ho:s.heap.get? S=some (setO es ep t))(hf:t.fits es.size=true)
  (hn:∀(A':Around) (Q':Option (Value×Nat)->Shared->Prop) (E':Value->Shared->Prop),Q' (some (x,slot')) s->wpAny (model prog w) A' (setNext S slot i ep) Q' E' s)
  (hQ:∀h',IsSI h' I S (.int slot' 0) (i+1) es.size ep->Heap.SameBut I s.heap h'->Q (some x) { s with heap:=h' }) :
  wpAny (model prog w) A (pyNext (.ref I)) Q E s:=by
 obtain⟨o,hI,hc,hd⟩:=id hit;unfold pyNext;refine wpAny_bind (wpAny_attempt (wpAny_callSpecial?_slot (name:=Str.ofString "__next__") hit.typeIs jb
  (wpAny_call_entry jb hit.typeIs vd ?_ (xu _))))
 refine wpAny_bind (wpAny_pure ?_);refine wpAny_bind (wpAny_fieldsOf hI hd ?_);dsimp only;refine wpAny_bind (wpAny_setEntries_of ho rfl hf ?_);rw[if_neg (by simp)]
 simp only[Int.toNat_natCast];refine wpAny_bind (hn _ _ _ ?_);dsimp only;refine wpAny_bind (wpAny_setField hI hd (by simp) ?_)
 have h1:=Heap.get?_update_self (Obj.mapFields (·.setIfInBounds 0 (rawInt (slot':Int)))) hI (Obj.isFreed_of_fields (Obj.data_mapFields hd _));refine wpAny_bind (wpAny_setField h1 (Obj.data_mapFields hd _) (by simp) ?_)
 refine wpAny_pure ⟨_,rfl,wpAny_pure (hQ _ ?_ ((Heap.SameBut.update ..).trans (Heap.SameBut.update ..)))⟩;exact⟨_,Heap.get?_update_self _ h1 (Obj.isFreed_of_fields (Obj.data_mapFields (Obj.data_mapFields hd _) _)),(Obj.cls_mapFields ..).trans ((Obj.cls_mapFields ..).trans hc),by
  rw[Obj.data_mapFields (Obj.data_mapFields hd _)];simp[rawInt]⟩
theorem ato{I S:Addr}{slot i:Nat}{es:Array (Int×Value)}{ep:Nat}{t:SetTable}{Q:Option Value->Shared->Prop}(hh:A.handled=none)(hit:IsSI s.heap I S (.int slot 0) i es.size ep)(ho:s.heap.get? S=some (setO es ep t))(hf:t.fits es.size=true)
  (hn:∀(A':Around) (Q':Option (Value×Nat)->Shared->Prop) (E':Value->Shared->Prop),Q' none s->wpAny (model prog w) A' (setNext S slot i ep) Q' E' s)
  (hQ:∀h',Heap.ExtBut I s.heap h'->Q none { s with heap:=h' }):wpAny (model prog w) A (pyNext (.ref I)) Q E s:=by
 obtain⟨o,hI,hc,hd⟩:=id hit;unfold pyNext;refine wpAny_bind (wpAny_attempt (wpAny_callSpecial?_slot (name:=Str.ofString "__next__") hit.typeIs jb
  (wpAny_call_entry jb hit.typeIs vd ?_ (xu _))))
 refine wpAny_bind (wpAny_pure ?_);refine wpAny_bind (wpAny_fieldsOf hI hd ?_);dsimp only;refine wpAny_bind (wpAny_setEntries_of ho rfl hf ?_);rw[if_neg (by simp)]
 simp only[Int.toNat_natCast];refine wpAny_bind (hn _ _ _ ?_);dsimp only;refine wpAny_bind (wpAny_setField hI hd (by simp) ?_)
 show wpAny _ _ (newExc (.type "StopIteration") [] >>= _) _ _ _;refine wpAny_bind ?_;simp only[newExc,newTuple];refine wpAny_bind (wpAny_newObj_type ?_ (by size_fits))
 refine wpAny_bind (m:=firstArgMember _ _) (wpAny_of_eq (a:=Value.none) (by first | rfl | (simp only[firstArgMember];rfl)) ?_)
 refine wpAny_newObj_type ?_ (by size_fits)
 simp only[raiseNew];refine wpAny_bind (wpAny_handled ?_);rw[show A.in1.handled=none from hh]
 refine wpAny_bind (wpAny_pure (wpAny_throw ?_));refine wpAny_bind (wpAny_isInstance (T := "StopIteration") (b:=true) ⟨_,Heap.get?_push_size _ rfl,rfl⟩ isSubtype_stop ?_);exact wpAny_pure (hQ _ (((Heap.SameBut.update ..).extBut.push _).push _))
theorem arh{I S q:Addr}{i j m:Nat}{es:Array (Int×Value)}{ep:Nat}{t:SetTable}{Q:Option Value->Shared->Prop}{x:Int×Value}{ps:Array Value}(hit:IsSI s.heap I S (.ref q) i es.size ep)(ho:s.heap.get? S=some (setO es ep t))(hf:t.fits es.size=true)
  (hq:∃oq,s.heap.get? q=some oq/\oq.data=.seq ps m) (hp:ps[i]? = some (.int (j:Nat) 0)) (hx:es[j]? = some x)
  (hQ:∀h',IsSI h' I S (.ref q) (i+1) es.size ep->Heap.SameBut I s.heap h'->Q (some x.2) { s with heap:=h' }) :
  wpAny (model prog w) A (pyNext (.ref I)) Q E s:=by
 obtain⟨o,hI,hc,hd⟩:=id hit;obtain⟨oq,hoq,hdq⟩:=hq;unfold pyNext;refine wpAny_bind (wpAny_attempt (wpAny_callSpecial?_slot (name:=Str.ofString "__next__") hit.typeIs jb
  (wpAny_call_entry jb hit.typeIs vd ?_ (xu _))))
 refine wpAny_bind (wpAny_pure ?_);refine wpAny_bind (wpAny_fieldsOf hI hd ?_);dsimp only;refine wpAny_bind (wpAny_setEntries_of ho rfl hf ?_);rw[if_neg (by simp)]
 refine wpAny_bind (wpAny_seqItems hoq hdq ?_);dsimp only;simp only[Int.toNat_natCast,hp];unfold setNextDrawn;refine wpAny_bind (wpAny_bind (wpAny_setState_of ho rfl hf ?_));dsimp only;rw[if_neg (by simp)]
 rw[hx];refine wpAny_pure ?_;refine wpAny_bind (wpAny_setField hI hd (by simp) ?_)
 refine wpAny_pure ⟨_,rfl,wpAny_pure (hQ _ ?_ (Heap.SameBut.update ..))⟩;exact⟨_,Heap.get?_update_self _ hI (Obj.isFreed_of_fields (Obj.data_mapFields hd _)),(Obj.cls_mapFields ..).trans hc,by
  rw[Obj.data_mapFields hd];simp[rawInt]⟩
theorem ah5{I S q:Addr}{i m:Nat}{es:Array (Int×Value)}{ep:Nat}{t:SetTable}{Q:Option Value->Shared->Prop}{ps:Array Value}(hh:A.handled=none)(hit:IsSI s.heap I S (.ref q) i es.size ep)(ho:s.heap.get? S=some (setO es ep t))(hf:t.fits es.size=true)
  (hq:∃oq,s.heap.get? q=some oq/\oq.data=.seq ps m) (hp:ps[i]? = none)
  (hQ:∀h',Heap.ExtBut I s.heap h'->Q none { s with heap:=h' }):wpAny (model prog w) A (pyNext (.ref I)) Q E s:=by
 obtain⟨o,hI,hc,hd⟩:=id hit;obtain⟨oq,hoq,hdq⟩:=hq;unfold pyNext;refine wpAny_bind (wpAny_attempt (wpAny_callSpecial?_slot (name:=Str.ofString "__next__") hit.typeIs jb
  (wpAny_call_entry jb hit.typeIs vd ?_ (xu _))))
 refine wpAny_bind (wpAny_pure ?_);refine wpAny_bind (wpAny_fieldsOf hI hd ?_);dsimp only;refine wpAny_bind (wpAny_setEntries_of ho rfl hf ?_);rw[if_neg (by simp)]
 refine wpAny_bind (wpAny_seqItems hoq hdq ?_);dsimp only;simp only[Int.toNat_natCast,hp];refine wpAny_bind (wpAny_setField hI hd (by simp) ?_)
 have h1:=Heap.get?_update_self (Obj.mapFields (·.setIfInBounds 0 (rawInt 0))) hI (Obj.isFreed_of_fields (Obj.data_mapFields hd _));refine wpAny_bind (wpAny_setField h1 (Obj.data_mapFields hd _) (by simp) ?_)
 show wpAny _ _ (newExc (.type "StopIteration") [] >>= _) _ _ _;refine wpAny_bind ?_;simp only[newExc,newTuple];refine wpAny_bind (wpAny_newObj_type ?_ (by size_fits))
 refine wpAny_bind (m:=firstArgMember _ _) (wpAny_of_eq (a:=Value.none) (by first | rfl | (simp only[firstArgMember];rfl)) ?_)
 refine wpAny_newObj_type ?_ (by size_fits)
 simp only[raiseNew];refine wpAny_bind (wpAny_handled ?_);rw[show A.in1.handled=none from hh]
 refine wpAny_bind (wpAny_pure (wpAny_throw ?_));refine wpAny_bind (wpAny_isInstance (T := "StopIteration") (b:=true) ⟨_,Heap.get?_push_size _ rfl,rfl⟩ isSubtype_stop ?_);exact wpAny_pure (hQ _ ((((Heap.SameBut.update ..).trans (Heap.SameBut.update ..)).extBut.push _).push _))
end
section
variable{prog:Program}{w:World}{A:Around}{E:Value->Shared->Prop}{s:Shared}
theorem afw{Q:Bool->Shared->Prop}(h:Q (w.params.followText "set-order") s):wpAny (model prog w) A setsByText Q E s:=by
 unfold setsByText;exact wpAny_bind (wpAny_askSetting (wpAny_pure h))
theorem amw{S:Addr}{slot g i j:Nat}{es:Array (Int×Value)}{ep:Nat}{t:SetTable}{e:Int×Value}{Q:Option (Value×Nat)->Shared->Prop}(ho:s.heap.get? S=some (setO es ep t))(hf:t.fits es.size=true)
  (hw:w.params.followText "set-order" = false) (hd:(!t.plain&&decide (es.size > 1))=false) (hl:t.led=true) (hb:SetTable.below t.place slot=i) (he:es[i]? = some e) (hp:t.place[i]? = some j)
  (h:Q (some (e.2,j+1)) s):wpAny (model prog w) A (setNext S slot g ep) Q E s:=by
 unfold setNext;refine wpAny_bind (wpAny_setState_of ho rfl hf ?_);dsimp only;refine wpAny_bind (afw ?_);rw[hw,if_neg (by simp)]
 show wpAny _ _ (if (!t.plain&&decide (es.size > 1))=true then _ else _) _ _ _
 rw[hd,if_neg (by simp)]
 refine wpAny_bind (m:=if (!t.led && !es.isEmpty)=true then _ else _) ?_
 rw[hl,if_neg (by simp)]
 refine wpAny_pure ?_;rw[hb,he,hp];exact wpAny_pure h
theorem ao3{S:Addr}{slot g i:Nat}{es:Array (Int×Value)}{ep:Nat}{t:SetTable}{Q:Option (Value×Nat)->Shared->Prop}(ho:s.heap.get? S=some (setO es ep t))(hf:t.fits es.size=true)
  (hw:w.params.followText "set-order" = false) (hd:(!t.plain&&decide (es.size > 1))=false) (hl:t.led=true) (hb:SetTable.below t.place slot=i) (he:es[i]? = none)
  (h:Q none s):wpAny (model prog w) A (setNext S slot g ep) Q E s:=by
 unfold setNext;refine wpAny_bind (wpAny_setState_of ho rfl hf ?_);dsimp only;refine wpAny_bind (afw ?_);rw[hw,if_neg (by simp)]
 show wpAny _ _ (if (!t.plain&&decide (es.size > 1))=true then _ else _) _ _ _
 rw[hd,if_neg (by simp)]
 refine wpAny_bind (m:=if (!t.led && !es.isEmpty)=true then _ else _) ?_
 rw[hl,if_neg (by simp)]
 refine wpAny_pure ?_;rw[hb,he];exact wpAny_pure h
theorem aiq{S:Addr}{slot g:Nat}{es:Array (Int×Value)}{ep:Nat}{t:SetTable}{Q:Option (Value×Nat)->Shared->Prop}(ho:s.heap.get? S=some (setO es ep t))(hf:t.fits es.size=true)
  (hw:w.params.followText "set-order" = true) (h:Q (((pickOrder (w.params.setOrder S ep) es)[g]?).map fun e=>(e.2,slot)) s):wpAny (model prog w) A (setNext S slot g ep) Q E s:=by
 unfold setNext;refine wpAny_bind (wpAny_setState_of ho rfl hf ?_);dsimp only;refine wpAny_bind (afw ?_);rw[hw,if_pos rfl,if_neg (by simp)]
 unfold setWalk;refine wpAny_bind (wpAny_bind (wpAny_setState_of ho rfl hf ?_));dsimp only;refine wpAny_bind (afw ?_);rw[hw,if_pos rfl];exact wpAny_bind (wpAny_askSetting (wpAny_pure (wpAny_pure h)))
theorem adq{α:Type}:∀(l:List α) (i:Nat) (x:α),l[i]? = some x->(x::l.eraseIdx i).Perm l
 | [],i,x,h=>by simp at h
 | a::r,0,x,h=>by simp at h;subst h;exact .refl _
 | a::r,i+1,x,h=>by
  rw[List.getElem?_cons_succ] at h;exact(List.Perm.swap a x _).trans ((adq r i x h).cons a)
theorem aop{α:Type}(next:Nat->Nat):∀(fuel k:Nat) (left:List α) (out:Array α),left.length=fuel->(pickOrder.go next fuel k left out).toList.Perm (out.toList++left)
 | 0,k,left,out,h=>by
  have:left=[]:=List.length_eq_zero_iff.mp h;subst this;show out.toList.Perm _;simp
 | fuel+1,k,left,out,h=>by
  have hlt:next k % left.length < left.length:=Nat.mod_lt _ (by omega)
  unfold pickOrder.go;have hx:left[next k % left.length]? = some left[next k % left.length]:=List.getElem?_eq_getElem hlt;rw[hx];dsimp only;have hlen:(left.eraseIdx (next k % left.length)).length=fuel:=by rw[List.length_eraseIdx_of_lt hlt];omega
  refine(aop next fuel (k+1) _ _ hlen).trans ?_;rw[Array.toList_push,List.append_assoc];exact List.Perm.append_left _ (adq _ _ _ hx)
theorem aev{α:Type}(next:Nat->Nat)(xs:Array α):(pickOrder next xs).toList.Perm xs.toList:=by
 have:=aop next xs.size 0 xs.toList #[] (by simp)
 simpa[pickOrder] using this
theorem agm:∀(n:Nat) {α:Type} (xs:List α) (s:Shared) (Q:List α->Shared->Prop),xs.length=n->(∀ys d,ys.Perm xs->Q ys { s with drawn:=d })->wpAny (model prog w) A (drawOrder n xs) Q E s
 | 0,α,xs,s,Q,h,q=>by
  have:xs=[]:=List.length_eq_zero_iff.mp h;subst this;exact wpAny_pure (q [] s.drawn (.refl _))
 | n+1,α,[],s,Q,h,q=>by cases h
 | n+1,α,x::r,s,Q,h,q=>by
  unfold drawOrder;intro Γ p hΓ;show(x::r).length≠0/\_;refine⟨by simp,?_⟩
  revert Γ p hΓ
  show wpAny _ _ (match (x::r)[(model prog w).w.draws .order (s.drawn.get .order) % (x::r).length]? with | some y=>_ | none=>_) _ _ _
  have hlt:(model prog w).w.draws .order (s.drawn.get .order) % (x::r).length < (x::r).length:=Nat.mod_lt _ (by simp)
  have hx:=List.getElem?_eq_getElem hlt;rw[hx];refine wpAny_bind (agm n _ _ _ (by rw[List.length_eraseIdx_of_lt hlt];simpa using h) fun ys d hp =>?_)
  exact wpAny_pure (q _ _ ((hp.cons _).trans (adq _ _ _ hx)))
end
def PW(ord:Array (Int×Value))(i:Nat)(v:Value):Prop:=∃e,ord[i]? = some e/\v=e.2
theorem aj1{h h':Heap}{I S:Addr}{o:Obj}(hne:S≠I)(ho:h.get? S=some o)(hs:Heap.SameBut I h h'):h'.get? S=some o:=(hs.2 S hne).trans ho
theorem aps{t:SetTable}{n:Nat}(h:t.fits n=true):t.place.size=n:=by
 unfold SetTable.fits at h;rw[Bool.and_eq_true] at h;exact eq_of_beq h.1
section
variable{prog:Program}{w:World}{A:Around}
theorem aq7(hh:A.handled=none)(I S:Addr)(hne:S≠I){es:Array (Int×Value)}{ep:Nat}{t:SetTable}(hf:t.fits es.size=true)(hw:w.params.followText "set-order" = true) :
  Walks prog w A I [I,S] [I] es.size (PW (pickOrder (w.params.setOrder S ep) es)) (fun i h=>IsSI h I S (.int (0:Nat) 0) i es.size ep/\h.get? S=some (setO es ep t)) where
 sub:=fun b hb=>by simp at hb;simp[hb]
 frame:=fun _ _ _ st hk=>⟨st.1.at fun o e=>hk I (by simp) o e,hk S (by simp) _ st.2⟩
 item:=fun i s Q E hi st hQ=>by
  have hsz:(pickOrder (w.params.setOrder S ep) es).size=es.size:=by rw[<-Array.length_toList,(aev _ _).length_eq,Array.length_toList]
  have hx:(pickOrder (w.params.setOrder S ep) es)[i]? = some (pickOrder (w.params.setOrder S ep) es)[i]:=by simp[hsz,hi]
  refine aoc (x:=((pickOrder (w.params.setOrder S ep) es)[i]).2) (slot':=0) st.1 st.2 hf (fun A' Q' E' q=>aiq st.2 hf hw (by rw[hx];exact q)) fun h' hit' hs' =>?_
  exact hQ _ h' s.toks ⟨_,hx,rfl⟩ ⟨hit',aj1 hne st.2 hs'⟩ fun b o hb e=>hs'.extBut b o (fun h=>hb (by simp[h])) e
 done:=fun s Q E st hQ=>by
  have hsz:(pickOrder (w.params.setOrder S ep) es).size=es.size:=by rw[<-Array.length_toList,(aev _ _).length_eq,Array.length_toList]
  refine ato hh st.1 st.2 hf (fun A' Q' E' q=>aiq st.2 hf hw (by rw[Array.getElem?_eq_none (by omega)];exact q)) fun h' he'=>hQ h' s.toks fun b o hb e=>he' b o (fun h=>hb (by simp[h])) e
 self:=fun _ _ _ _ st hQ=>aj0 st.1 hQ
theorem anj(hh:A.handled=none)(I S:Addr)(hne:S≠I){es:Array (Int×Value)}{ep:Nat}{t:SetTable}(hf:t.fits es.size=true)(hw:w.params.followText "set-order" = false)(hr:Rise t)(hd:(!t.plain&&decide (es.size > 1))=false)(hl:t.led=true) :
  Walks prog w A I [I,S] [I] es.size (PW es) (fun i h=>(∃slot:Nat,SetTable.below t.place slot=i/\IsSI h I S (.int slot 0) i es.size ep)/\h.get? S=some (setO es ep t)) where
 sub:=fun b hb=>by simp at hb;simp[hb]
 frame:=fun _ _ _ ⟨⟨slot,hb,st⟩,ho⟩ hk=>⟨⟨slot,hb,st.at fun o e=>hk I (by simp) o e⟩,hk S (by simp) _ ho⟩
 item:=fun i s Q E hi ⟨⟨slot,hb,st⟩,ho⟩ hQ=>by
  have hx:es[i]? = some es[i]:=by simp[hi]
  have hps:=aps hf;have hp:t.place[i]? = some (t.place[i]):=by simp[hps,hi]
  refine aoc (x:=(es[i]).2) (slot':=t.place[i]+1) st ho hf (fun A' Q' E' q=>amw ho hf hw hd hl hb hx hp q) fun h' hit' hs' =>?_
  exact hQ _ h' s.toks ⟨_,hx,rfl⟩ ⟨⟨_,anb hr hp,hit'⟩,aj1 hne ho hs'⟩ fun b o hb e=>hs'.extBut b o (fun h=>hb (by simp[h])) e
 done:=fun s Q E ⟨⟨slot,hb,st⟩,ho⟩ hQ=>by
  refine ato hh st ho hf (fun A' Q' E' q=>ao3 ho hf hw hd hl hb (Array.getElem?_eq_none (Nat.le_refl _)) q) fun h' he'=>hQ h' s.toks fun b o hb e=>he' b o (fun h=>hb (by simp[h])) e
 self:=fun _ _ _ _ ⟨⟨slot,hb,st⟩,ho⟩ hQ=>aj0 st hQ
theorem ank(hh:A.handled=none)(I S q:Addr)(hne:S≠I)(hq:q≠I){es:Array (Int×Value)}{ep:Nat}{t:SetTable}(hf:t.fits es.size=true)(js:List Nat)(hj:js.Perm (List.range es.size)) :
  Walks prog w A I [I,S,q] [I] es.size (PW (js.map fun j=>es.getD j (0,.none)).toArray) (fun i h=>IsSI h I S (.ref q) i es.size ep/\h.get? S=some (setO es ep t)/\∃oq m,h.get? q=some oq/\oq.data=.seq (js.map fun(j:Nat)=>rawInt j).toArray m) where
 sub:=fun b hb=>by simp at hb;simp[hb]
 frame:=fun _ _ _ ⟨st,ho,oq,m,h1,h2⟩ hk=>⟨st.at fun o e=>hk I (by simp) o e,hk S (by simp) _ ho,oq,m,hk q (by simp) _ h1,h2⟩
 item:=fun i s Q E hi ⟨st,ho,oq,m,h1,h2⟩ hQ=>by
  have hlen:js.length=es.size:=by rw[hj.length_eq,List.length_range]
  have hjlt:js[i] < es.size:=List.mem_range.mp (hj.mem_iff.mp (List.getElem_mem (by omega)))
  have hx:es[js[i]]? = some es[js[i]]:=by simp[hjlt]
  refine arh (j:=js[i]) (x:=es[js[i]]) st ho hf ⟨oq,h1,h2⟩ (by simp[hlen,hi,rawInt]) hx fun h' hit' hs' =>?_
  refine hQ _ h' s.toks ⟨es[js[i]],?_,rfl⟩ ⟨hit',aj1 hne ho hs',oq,m,(hs'.2 q hq).trans h1,h2⟩ fun b o hb e=>hs'.extBut b o (fun h=>hb (by simp[h])) e
  simp[hlen,hi,Array.getD,hjlt]
 done:=fun s Q E ⟨st,ho,oq,m,h1,h2⟩ hQ=>by
  have hlen:js.length=es.size:=by rw[hj.length_eq,List.length_range]
  refine ah5 hh st ho hf ⟨oq,h1,h2⟩ (by simp[hlen]) fun h' he'=>hQ h' s.toks fun b o hb e=>he' b o (fun h=>hb (by simp[h])) e
 self:=fun _ _ _ _ st hQ=>aj0 st.1 hQ
variable{E:Value->Shared->Prop}{s:Shared}
theorem aod{S:Addr}{es:Array (Int×Value)}{ep:Nat}{t:SetTable}{Q:Bool->Shared->Prop}(ho:s.heap.get? S=some (setO es ep t))(hf:t.fits es.size=true)(h:Q (!w.params.followText "set-order" && (!t.plain&&decide (es.size > 1))) s) :
  wpAny (model prog w) A (setDrawn S) Q E s:=by
 unfold setDrawn;refine wpAny_bind (wpAny_setState_of ho rfl hf ?_);dsimp only;refine wpAny_bind (afw ?_);exact wpAny_pure h
theorem arj{S:Addr}{es:Array (Int×Value)}{ep:Nat}{t:SetTable}{ns:List Int}{Q:Value->Shared->Prop}(ho:s.heap.get? S=some (setO es ep t))(G:SetG w es t ns)(hb:es.size < scanBound)
  (h:∀(I:Addr) (fp:List Addr) (St:Nat->Heap->Prop) (ord:Array (Int×Value)) (s':Shared),(∀A':Around,A'.handled=none->Walks prog w A' I fp [I] es.size (PW ord) St)->St 0 s'.heap->ord.toList.Perm es.toList ->
   s.heap.objs.size<=I->(∀b∈fp,b=S∨s.heap.objs.size<=b)->(∀b o,s.heap.get? b=some o->s'.heap.get? b=some o)->s'.gens=s.gens->s'.os=s.os->s'.toks=s.toks->Q (.ref I) s') :
  wpAny (model prog w) A (pyIter (.ref S)) Q E s:=by
 have hT:s.TypeIs (.ref S) "set" := ⟨_,ho,rfl⟩;have hSlt:S < s.heap.objs.size:=Heap.lt_size ho;refine wpAny_pyIter_slot hT F.slot_set_iter (wpAny_call_entry F.slot_set_iter hT af5 ?_ (F.args_set_iter_1 _));show wpAny _ _ (pure S >>= _) _ _ s;refine wpAny_bind (wpAny_pure ?_);unfold Builtin.Frozenset.sizeOf;refine wpAny_bind (wpAny_bind (wpAny_setEntries_of ho rfl G.fit (wpAny_pure ?_)));refine wpAny_bind (aod ho G.fit ?_);cases hw:w.params.followText "set-order" with
 | true =>
  rw[Bool.not_true,Bool.false_and,if_neg (by simp)]
  refine wpAny_bind (wpAny_pure ?_);refine wpAny_bind (wpAny_setEpoch_of ho rfl G.fit ?_);refine wpAny_bind (wpAny_newObj_type (wpAny_pure ⟨_,rfl, "set_iterator", _,⟨_,Heap.get?_push_size _ rfl,rfl⟩,jb.lookup,?_⟩));refine h s.heap.objs.size [s.heap.objs.size,S] _ _ _ (fun A' hh=>aq7 hh _ S (Nat.ne_of_lt hSlt) G.fit hw) ⟨⟨_,Heap.get?_push_size _ rfl,rfl,rfl⟩,Heap.get?_push_of_some _ ho⟩ (aev _ _) (Nat.le_refl _) (fun b hb =>?_) (fun b o e=>Heap.get?_push_of_some _ e) rfl rfl rfl
  simp only[List.mem_cons,List.not_mem_nil,or_false] at hb;rcases hb with rfl | rfl
  ·exact .inr (Nat.le_refl _)
  ·exact .inl rfl
 | false =>
  have hl:t.led=true:=by
   have:=G.kept.2;rw[hw] at this;exact this
  cases hd:(!t.plain&&decide (es.size > 1)) with
  | false =>
   rw[Bool.and_false,if_neg (by simp)]
   refine wpAny_bind (wpAny_pure ?_);refine wpAny_bind (wpAny_setEpoch_of ho rfl G.fit ?_);refine wpAny_bind (wpAny_newObj_type (wpAny_pure ⟨_,rfl, "set_iterator", _,⟨_,Heap.get?_push_size _ rfl,rfl⟩,jb.lookup,?_⟩));refine h s.heap.objs.size [s.heap.objs.size,S] _ _ _ (fun A' hh=>anj hh _ S (Nat.ne_of_lt hSlt) G.fit hw G.kept.1 hd hl) ⟨⟨0,ana G.kept.1,_,Heap.get?_push_size _ rfl,rfl,rfl⟩,Heap.get?_push_of_some _ ho⟩ (.refl _) (Nat.le_refl _) (fun b hb =>?_) (fun b o e=>Heap.get?_push_of_some _ e) rfl rfl rfl
   simp only[List.mem_cons,List.not_mem_nil,or_false] at hb;rcases hb with rfl | rfl
   ·exact .inr (Nat.le_refl _)
   ·exact .inl rfl
  | true =>
   rw[Bool.not_false,Bool.true_and,if_pos rfl];refine wpAny_bind (agm _ (List.range es.size) _ _ List.length_range fun js d hj =>?_)
   have hlen:js.length=es.size:=by rw[hj.length_eq,List.length_range]
   simp only[newTuple];refine wpAny_bind (wpAny_newObj_type ?_ (by show(js.map fun(i:Nat)=>rawInt i).toArray.size<=sizeLine;rw[List.size_toArray,List.length_map,hlen];exact fits_of_scanBound hb))
   refine wpAny_bind (wpAny_setEpoch_of (Heap.get?_push_of_some _ ho) rfl G.fit ?_);refine wpAny_bind (wpAny_newObj_type (wpAny_pure ⟨_,rfl, "set_iterator", _,⟨_,Heap.get?_push_size _ rfl,rfl⟩,jb.lookup,?_⟩));have hq:∀o:Obj,s.heap.objs.size≠(s.heap.push o).objs.size:=fun o=>by rw[Heap.size_push];exact Nat.ne_of_lt (Nat.lt_succ_self _)
   have hS2:∀o:Obj,S≠(s.heap.push o).objs.size:=fun o=>by rw[Heap.size_push];exact Nat.ne_of_lt (Nat.lt_succ_of_lt hSlt)
   refine h _ _ _ _ _ (fun A' hh=>ank hh _ S s.heap.objs.size (hS2 _) (hq _) G.fit js hj) ⟨⟨_,Heap.get?_push_size _ rfl,rfl,rfl⟩,Heap.get?_push_of_some _ (Heap.get?_push_of_some _ ho),_,_,Heap.get?_push_of_some _ (Heap.get?_push_size _ rfl),rfl⟩ ?_ ?_ (fun b hb =>?_) (fun b o e=>Heap.get?_push_of_some _ (Heap.get?_push_of_some _ e)) rfl rfl rfl
   ·refine(hj.map _).trans ?_;have e:(List.range es.size).map (fun j=>es.getD j (0,Value.none))=es.toList:=by
     apply List.ext_getElem
     ·simp
     ·intro i h1 h2;have h3:i < es.size:=by simpa using h2
      simp[Array.getD,h3]
    rw[e]
   ·rw[Heap.size_push];exact Nat.le_succ _
   ·simp only[List.mem_cons,List.not_mem_nil,or_false] at hb;rcases hb with rfl | rfl | rfl
    ·right;rw[Heap.size_push];exact Nat.le_succ _
    ·exact .inl rfl
    ·exact .inr (Nat.le_refl _)
end
theorem afz:typeLookup (.type "set") "__len__" = pure (some (.builtin "set.__len__")):=by rw[typeLookup_type,builtinLookup_eq_fast];kernel_rfl
theorem ad4:∀{es:List (Int×Value)},(∀e∈es,Ent e)->IntsAre (es.map (·.2)) (es.map keyE)
 | [],_=>.nil
 | e::r,h=>by
  obtain⟨k,u,he⟩:=h e (List.mem_cons_self ..);subst he;exact .cons k u (ad4 fun e he=>h e (List.mem_cons_of_mem _ he))
theorem apb{ord:Array (Int×Value)}{acc:Array Value}{n:Nat}(h:ItemsOf (PW ord) acc n)(hn:ord.size=n):acc.toList=ord.toList.map (·.2):=by
 apply List.ext_getElem
 ·rw[List.length_map,Array.length_toList,Array.length_toList,h.1,hn]
 ·intro i h1 h2;obtain⟨e,he,hv⟩:=h.2 i acc.toList[i] (by rw[<-Array.getElem?_toList];exact List.getElem?_eq_getElem h1)
  rw[hv,List.getElem_map];rw[<-Array.getElem?_toList] at he;have h3:i < ord.toList.length:=by simpa using h2
  rw[List.getElem?_eq_getElem h3] at he;cases he;rfl
theorem anz{h:Heap}{a:Addr}{xs:Array Value}{n:Nat}(ho:h.get? a=some (seqObj "list" xs n))(vs:List Value)(out:Array Value):∃m,(sortedHeap h a vs out).get? a=some (seqObj "list" out m) :=
 ⟨_,get?_update_seq (Heap.get?_push_of_some _ (Heap.get?_push_of_some _ (get?_update_seq ho (fun _ => #[])))) (fun _=>out)⟩
theorem amh{h:Heap}{a b:Addr}{o:Obj}{vs:List Value}{out:Array Value}(e:h.get? b=some o)(hb:b≠a):(sortedHeap h a vs out).get? b=some o :=
 (Heap.get?_update_other _ _ (Ne.symm hb)).trans (Heap.get?_push_of_some _ (Heap.get?_push_of_some _ ((Heap.get?_update_other _ _ (Ne.symm hb)).trans e)))
section
variable{prog:Program}{w:World}{A:Around}{E:Value->Shared->Prop}{s:Shared}
theorem akt{S:Addr}{es:Array (Int×Value)}{ep:Nat}{t:SetTable}{ns:List Int}{Q:List Value->Shared->Prop}(hh:A.handled=none)(ho:s.heap.get? S=some (setO es ep t))(G:SetG w es t ns)(hb:es.size < scanBound)
  (hQ:∀(s':Shared) (acc:List Value) (ks:List Int),s.heap.objs.size < s'.heap.objs.size->(∀b o,s.heap.get? b=some o->s'.heap.get? b=some o)->s'.gens=s.gens->s'.os=s.os->IntsAre acc ks->ks.Perm (es.toList.map keyE)->Q acc s') :
  wpAny (model prog w) A (collect (.ref S)) Q E s:=by
 have hSlt:S < s.heap.objs.size:=Heap.lt_size ho;unfold collect;refine wpAny_bind (wpAny_runValue (codeAny_builtin F.entry_proto_collect ?_));rw[Around.under_plainId F.plain_proto_collect _];show wpAny _ A.in1 (newList [] >>= fun l=>again (.builtin "list.__iadd__" ⟨[l,.ref S],[]⟩)) _ _ s
 refine wpAny_bind (wpAny_newObj_type ?_);refine wpAny_pure ⟨plainId_quiet F.plain_list_iadd _,codeAny_builtin F.entry_list_iadd ?_⟩;rw[Around.under_plainId F.plain_list_iadd _];have ho1:(s.heap.push { cls:=.type "list", data:=.seq ([]:List Value).toArray }).get? S=some (setO es ep t):=Heap.get?_push_of_some _ ho;have hL:(s.heap.push { cls:=.type "list", data:=.seq ([]:List Value).toArray }).get? s.heap.objs.size=some { cls:=.type "list", data:=.seq ([]:List Value).toArray }:=Heap.get?_push_size _ rfl;have hold:∀b o,s.heap.get? b=some o->(s.heap.push { cls:=.type "list", data:=.seq ([]:List Value).toArray }).get? b=some o:=fun b o e=>Heap.get?_push_of_some _ e
 have hsz1:(s.heap.push { cls:=.type "list", data:=.seq ([]:List Value).toArray }).objs.size=s.heap.objs.size+1:=Heap.size_push _ _;show wpAny _ A.in1 (Builtin.List.listExtendWith (.ref s.heap.objs.size) (.ref S) (.ref s.heap.objs.size)) _ _ { s with heap:=s.heap.push { cls:=.type "list", data:=.seq ([]:List Value).toArray } }
 generalize s.heap.push { cls:=.type "list", data:=.seq ([]:List Value).toArray }=H1 at ho1 hL hold hsz1 ⊢
 unfold Builtin.List.listExtendWith;refine wpAny_bind (wpAny_typeOf (T := "set") ⟨_,ho1,rfl⟩ ?_);have h1:Builtin.List.listSameRef (.ref s.heap.objs.size) (.ref S)=false:=by simp[Builtin.List.listSameRef,Nat.ne_of_gt hSlt]
 have h2:(Value.type "set" == Value.type "list")=false:=by decide
 have h3:(Value.type "set" == Value.type "tuple")=false:=by decide
 simp only[h1,h2,h3,Bool.or_false,Bool.false_eq_true,if_false];refine wpAny_bind (arj (s:={ s with heap:=H1 }) ho1 G hb fun I fp St ord s2 W hst hord hI hfp hk2 hg2 ho2 ht2 =>?_)
 have hSs:s2.heap.get? S=some (setO es ep t):=hk2 _ _ ho1;have hLs:s2.heap.get? s.heap.objs.size=some { cls:=.type "list", data:=.seq ([]:List Value).toArray }:=hk2 _ _ hL;refine wpAny_bind (wpAny_holding ?_);unfold Builtin.List.listLengthHint;refine wpAny_bind (wpAny_specialOf (T := "set") ⟨_,hSs,rfl⟩ afz ?_);generalize hid:("set.__len__" : String)=id0
 wp_delta
 rw[show splitId id0=some ("set","__len__") from by subst hid;decide +kernel]
 subst hid;refine wpAny_bind (wpAny_isInstance (T := "set") (b:=true) ⟨_,hSs,rfl⟩ (by rw[isSubtype_type];kernel_rfl) ?_)
 show wpAny _ A.in1 (typeOf (Value.ref S) >>= _) _ _ _;refine wpAny_bind (wpAny_typeOf (T := "set") ⟨_,hSs,rfl⟩ ?_);refine wpAny_pure ?_;rw[if_pos (by decide)]
 refine wpAny_bind (wpAny_rule ?_);refine wpAny_bind ?_;show wpAny _ A.in1 (updateSeq s.heap.objs.size (·.push .none) >>= fun _=>updateSeq s.heap.objs.size (·.pop)) _ _ _
 refine wpAny_bind (wpAny_updateSeq hLs rfl ?_);have hS₂:=Heap.get?_update_self (Obj.mapSeq (·.push Value.none)) hLs rfl;refine wpAny_updateSeq hS₂ rfl ?_;have hS₃:=Heap.get?_update_self (Obj.mapSeq (·.pop)) hS₂ rfl;have oth:∀b o,b≠s.heap.objs.size->s2.heap.get? b=some o ->
   ((s2.heap.update s.heap.objs.size (Obj.mapSeq (·.push Value.none))).update s.heap.objs.size (Obj.mapSeq (·.pop))).get? b=some o :=
  fun b o hb e=>(Heap.get?_update_other _ _ (Ne.symm hb)).trans ((Heap.get?_update_other _ _ (Ne.symm hb)).trans e)
 have hSf:s.heap.objs.size∉fp:=fun hm=>by
  rcases hfp _ hm with e | e
  ·exact Nat.ne_of_gt hSlt e
  ·have e':s.heap.objs.size+1<=s.heap.objs.size:=hsz1▸e;exact Nat.not_succ_le_self _ e'
 have hIne:s.heap.objs.size+1<=I:=hsz1▸hI;refine wpAny_pure ⟨plainId_quiet F.plain_extend_loop _,codeAny_extend_loopS (W A.in1 hh).toS (fits_of_scanBound hb) _ hSf _ es.size 0 _ _ _ rfl (Nat.zero_le _)
  ((W A.in1 hh).frame 0 s2.heap _ hst fun b hb o e=>oth b o (fun h=>hSf (h▸hb)) e) hS₃ (ItemsOf.nil _) fun s' acc' c' hm hS' hacc =>?_⟩
 show wpAny _ A (load s.heap.objs.size >>= _) _ _ s';refine wpAny_bind (wpAny_load hS' ?_);have hosz:ord.size=es.size:=by rw[<-Array.length_toList,hord.length_eq,Array.length_toList]
 have hacc':=apb hacc hosz;refine wpAny_pure (hQ s' acc'.toList (ord.toList.map keyE) (Heap.lt_size hS') (fun b o e =>?_) (hm.gens.trans hg2) (hm.os.trans ho2) ?_ (hord.map _))
 ·have hlt:=Heap.lt_size e;refine hm.heap b o (fun hb =>?_) (oth b o (Nat.ne_of_lt hlt) (hk2 b o (hold b o e)))
  simp only[List.mem_cons,List.not_mem_nil,or_false] at hb;rcases hb with rfl | rfl
  ·exact Nat.lt_irrefl _ hlt
  ·exact absurd hlt (Nat.not_lt.mpr (Nat.le_trans (Nat.le_succ _) hIne))
 ·rw[hacc'];exact ad4 fun e he=>G.ent e (hord.mem_iff.mp he)
set_option maxHeartbeats 1000000 in
theorem amg{S:Addr}{es:Array (Int×Value)}{ep:Nat}{t:SetTable}{ns:List Int}{Q:Value->Shared->Prop}(hh:A.handled=none)(ho:s.heap.get? S=some (setO es ep t))(G:SetG w es t ns)(h64:es.size < 64)
  (h:∀(s':Shared) (a:Addr) (out:Array Value) (m:Nat) (ns':List Int),s.heap.objs.size<=a->(∀b o,s.heap.get? b=some o->s'.heap.get? b=some o)->s'.gens=s.gens->s'.os=s.os->s'.heap.get? a=some (seqObj "list" out m) ->
   IntsAre out.toList ns'->ns'.Perm (es.toList.map keyE)->ns'.Pairwise (· <= ·)->Q (.ref a) s') :
  wpAny (model prog w) A (call (.builtin "sorted") [.ref S]) Q E s:=by
 refine Calls.call_function_entry kind_sorted plain_sorted entry_sorted (args_sorted1 _) ?_;unfold Builtin.«sorted»
 refine wpAny_bind (m:=checkCount "sorted" 1 1 _) (wpAny_pure ?_);refine wpAny_bind (akt hh ho G (by unfold scanBound;omega) fun s1 acc ks hlt1 hk hg hos hI hp =>?_)
 have hlen:acc.length=es.size:=by rw[hI.length,hp.length_eq,List.length_map,Array.length_toList]
 refine wpAny_bind (wpAny_newList ?_);have hoL:(s1.heap.push (seqObj "list" acc.toArray 0)).get? s1.heap.objs.size=some (seqObj "list" acc.toArray 0):=Heap.get?_push_size _ rfl;show wpAny _ _ _ _ _ { s1 with heap:=s1.heap.push (seqObj "list" acc.toArray 0) }
 refine wpAny_bind (wpAny_holding (wpAny_call_entry slot_list_sort ⟨_,hoL,rfl⟩ entry_list_sort (list_sort_tree hoL hI (by omega) fun out ns' a1 a2 a3=>⟨_,rfl,?_⟩) (args_list_sort _)))
 obtain⟨m,hm⟩:=anz hoL acc out;refine wpAny_pure ⟨_,rfl,?_⟩;refine h _ s1.heap.objs.size out m ns' (Nat.le_of_lt hlt1) ?_ hg hos hm a1 (a2.trans hp) a3;intro b o e;exact amh (Heap.get?_push_of_some _ (hk b o e)) (Nat.ne_of_lt (Nat.lt_trans (Heap.lt_size e) hlt1))
end
end Stt
namespace Dn
open L2 Mn
def dedI:List Int->List Int
 | []=>[]
 | x::r=>if r.contains x then dedI r else x::dedI r
theorem acs:∀(l:List Int) (x:Int),x∈dedI l↔x∈l
 | [],x=>.rfl
 | y::r,x=>by
  unfold dedI;split
  ·rename_i h;rw[acs r x,List.mem_cons];exact⟨.inr,fun z=>z.elim (fun e=>e▸List.contains_iff_mem.mp h) id⟩
  ·rw[List.mem_cons,List.mem_cons,acs r x]
theorem abe:∀l:List Int,(dedI l).Nodup
 | []=>List.Pairwise.nil
 | y::r=>by
  unfold dedI;split
  ·exact abe r
  ·rename_i h;exact List.Pairwise.cons (fun z hz e=>h (List.contains_iff_mem.mpr (e▸(acs r z).mp hz))) (abe r)
theorem ab4:∀l:List Int,(dedI l).length<=l.length
 | []=>Nat.le_refl _
 | y::r=>by
  unfold dedI;have:=ab4 r;split
  ·simp only[List.length_cons];omega
  ·simp only[List.length_cons];omega
theorem acj:∀{a b:List Int},a.Nodup->b.Nodup->(∀x,x∈a↔x∈b)->a.Perm b
 | [],b,_,_,h=>by
  cases b with
  | nil=>exact .refl _
  | cons y r=>exact absurd ((h y).mpr (List.mem_cons_self ..)) (List.not_mem_nil)
 | x::r,b,ha,hb,h=>by
  have hx:x∈b:=(h x).mp (List.mem_cons_self ..);have hp:=List.perm_cons_erase hx;refine(List.Perm.cons x (acj (List.Pairwise.of_cons ha) (hb.erase x) fun y =>?_)).trans hp.symm
  rw[hb.mem_erase_iff];have hxr:x∉r:=fun z=>(List.pairwise_cons.mp ha).1 x z rfl
  constructor
  ·intro hy;exact⟨fun e=>hxr (e▸hy),(h y).mp (List.mem_cons_of_mem _ hy)⟩
  ·rintro⟨hne,hy⟩
   exact(List.mem_cons.mp ((h y).mpr hy)).resolve_left hne
def setI(ns:List Int):List Int:=sortI (dedI ns)
section
variable{K:Fg9}{X:Cx}{e a b c:Expr}{es:List Expr}{pos p p2:Pos}
def SetH(w:World)(a:Addr)(ns:List Int):Heap->Prop:=fun h=>∃es ep t,h.get? a=some (Stt.setO es ep t)/\Stt.SetG w es t ns/\es.size<=ns.length
def a2s(w:World):List V->Hp->VK->Prop:=fun vs H Q=>∃p ns,vs=[.ref p]/\H p=some (.tup (ns.map V.int))/\ns.length < 4000/\∀a,H a=none->Q (.ref a) (upd H a (.ext (SetH w a ns)))
theorem ati(hc:X.calm=true):yp X (.type "set") (a2s X.w):=by
 intro zv s σ H xs us Q I r ⟨p,ns,hv,hp,hz,q⟩;subst hv;obtain⟨u,rfl,ru⟩:=vals1 r;cases ru;obtain⟨its,rv,pt,_⟩:=I.tuple (SqT.of hp);have hlen:=rv.length;rw[List.length_map] at hlen;refine Stt.ax7 (I.ok.hd hc) pt (intsAre_of rv) (by rw[List.size_toArray];unfold scanBound;omega) fun h' tk es ep t ho g hsz hk =>?_
 have hn:H s.heap.objs.size=none:=I.hok.fresh (Nat.le_refl _);refine⟨.ref s.heap.objs.size,_,I.laid hk (Nat.le_refl _) ?_,rfl,q _ hn⟩;refine⟨⟨es,ep,t,ho,g,?_⟩,⟨_,ho⟩,fun h1 h2 ⟨es,ep,t,z,g,zz⟩ k=>⟨es,ep,t,k _ z,g,zz⟩⟩
 have hsz':es.size<=its.length:=by simpa using hsz
 omega
def rcSS(w:World):List V->Hp->VK->Prop:=fun vs H Q=>∃a ns,vs=[.ref a]/\H a=some (.ext (SetH w a ns))/\ns.length < 64/\∀b,H b=none->Q (.ref b) (upd H b (.lst ((setI ns).map V.int)))
theorem axe(hc:X.calm=true):yp X (.builtin "sorted") (rcSS X.w):=by
 intro zv s σ H xs us Q I r ⟨a,ns,hv,ha,hz,q⟩;subst hv;obtain⟨u,rfl,ru⟩:=vals1 r;cases ru;obtain⟨⟨es,ep,t,ho,g,hsz⟩,_⟩:=I.hok a _ ha;refine Stt.amg (I.ok.hd hc) ho g (by omega) fun s' b out m ns' hb hk hg hos hob hI hp hs =>?_
 have hn:H b=none:=I.hok.fresh hb;have e':ns'=setI ns:=arf (hp.trans (acj g.nd (abe ns) fun k=>by rw[g.mem k,acs])) hs
 subst e';obtain⟨h',g',d',tk',os'⟩:=s';subst hg;subst hos;have I1:Inv X zv σ (upd H b (.lst ((setI ns).map V.int))) { s with heap:=h',toks:=tk' }:=I.laid hk hb ⟨by
  rw[List.length_map];have h1:(setI ns).length=(dedI ns).length:=(sortI_perm _).length_eq;have h2:=ab4 ns;exact Nat.le_of_lt (aoa (by omega)),out.toList,m,adx hI,by simpa using hob⟩
 exact⟨.ref b,_,⟨I1.ok,I1.os,I1.bare,I1.base,I1.loc,I1.cell,I1.free,I1.freeC,I1.pin,I1.hok,I1.len⟩,rfl,q b hn⟩
def gSet:D->Option Rv
 | .tup l=>(u9 l).bind fun ns=>if ns.length < 64 then some (.fr ((setI ns).map D.int)) else none
 | _=>none
theorem ajb{x y:Str}{m:M (List D)}{pp qq:Pos}{ppos:Pos}(hc:X.calm=true)(hg1:Gl X x)(hm1:X.mg x=none)(hv1:bootBuiltins x=some (.builtin "sorted"))(hg2:Gl X y)(hm2:X.mg y=none)(hv2:bootBuiltins y=some (.type "set"))
  (ha:EA K X [e] m) (hn1:x ≠ "__name__" := by decide) (hdb1:(x==("__debug__" : Str))=false:=by decide) (hn2:y ≠ "__name__" := by decide) (hdb2:(y==("__debug__" : Str))=false:=by decide)
  (he:starEach [e] X.env=[(false,eval e X.env)]:=by rfl) (he2:starEach [.Call (.Name y qq) [e] [] ppos] X.env=[(false,eval (.Call (.Name y qq) [e] [] ppos) X.env)]:=by rfl) :
  ER K X (.Call (.Name x pp) [.Call (.Name y qq) [e] [] ppos] [] pos) (dz (g1 gSet) m):=ER.mk fun hk=>PE.imp (ag5 (axe hc) hg1 hm1 hv1 (yh (ack (ati hc) hg2 hm2 hv2 (ha hk) hn2 hdb2 he rfl) age he2) hn1 hdb1 he2 rfl) fun σ H Q hq0=>by
 obtain⟨tg,F,ρ,r,ρ',G,em,q⟩:=hq0;obtain⟨ds,ρ1,e1,em⟩:=aq em;obtain⟨e2,rfl⟩:=gj em;refine⟨tg,F,ρ,ds,_,G,e1,fun vs H1 F1 G1 x1 bl =>?_⟩
 cases ds with
 | nil=>cases e2
 | cons d tl =>
  cases tl with
  | cons _ _=>cases e2
  | nil =>
   cases d with
   | tup l =>
    have e2:(u9 l).bind (fun ns=>if ns.length < 64 then some (Rv.fr ((setI ns).map D.int)) else none)=some r:=e2
    cases ei:u9 l with
    | none=>rw[ei] at e2;cases e2
    | some ns =>
     rw[ei] at e2;have e2:(if ns.length < 64 then some (Rv.fr ((setI ns).map D.int)) else none)=some r:=e2
     split at e2
     ·rename_i h64;cases e2;obtain⟨v,rfl,bv⟩:=bl.one;obtain⟨p,ws,rfl,ea,hl⟩:=bv.tup;rw[aee ei] at hl;rw[hl.int_inv] at ea;refine⟨p,ns,rfl,G1.sub _ _ ea,by omega,fun a hna =>?_⟩
      show rcSS X.w _ _ _;refine⟨a,ns,rfl,ir,h64,fun b hnb =>?_⟩
      have G2:=G1.fresh hna (.ext (SetH X.w a ns));have X2:=G1.freshX hna (.ext (SetH X.w a ns));exact Res.lst G2 (fun v H3 F3 G3 x3 rr=>q v H3 F3 G3 ((x1.trans X2).trans x3) (p7 (x1.trans X2) rr)) (aed _) hnb
     ·cases e2
   | _=>cases e2
@[simp] theorem a1g(l:List D):gSet (.tup l)=(u9 l).bind fun ns=>if ns.length < 64 then some (.fr ((setI ns).map D.int)) else none:=rfl
end
theorem vh{c:M Bool}{g:Sd}(Inv:Nat->Ro->Prop)(Done:Ro->Prop)(hs:∀k ρ,Inv k ρ->(∃ρ',c ρ=some (.ok false,ρ')/\Done ρ')∨∃ρ1 ρ2 k',c ρ=some (.ok true,ρ1)/\g ρ1=some (.nx,ρ2)/\k' < k/\Inv k' ρ2) :
  ∀(n k:Nat) (ρ:Ro),k < n->Inv k ρ->∃ρ',whileD c g n ρ=some (.nx,ρ')/\Done ρ'
 | 0,k,ρ,h,_=>absurd h (Nat.not_lt_zero _)
 | n+1,k,ρ,h,h0=>by
  unfold whileD;rcases hs k ρ h0 with⟨ρ',e,d⟩ | ⟨ρ1,ρ2,k',e1,e2,hk,h2⟩
  ·rw[e];exact⟨ρ',rfl,d⟩
  ·rw[e1];dsimp only;rw[e2];exact vh Inv Done hs n k' ρ2 (by omega) h2
theorem ac0:100000 < fuel:=by unfold fuel;decide
theorem ako(a b:Int):eqD (.int a) (.int b)=decide (a=b):=by
 show(a==b)=_
 by_cases h:a=b <;> simp[h]
theorem axj(ns:List Int)(a:Int):(ns.map D.int).any (fun y=>eqD y (.int a))=decide (a∈ns):=by
 induction ns with
 | nil=>simp
 | cons x r ih=>simp[ako,List.mem_cons,ih,eq_comm]
theorem aio(n:Nat)(ns:List Int):(ns.map D.int).all (okD n)=true:=by
 induction ns with
 | nil=>rfl
 | cons x r ih=>simp[okD]
theorem afi(neg:Bool)(a:Int)(ns:List Int):gIn neg (.int a) (.lst (ns.map D.int))=some (.v (.bl (if neg then !decide (a∈ns) else decide (a∈ns)))):=by
 have h:=aio 30 ns;have h2:=axj ns a;simp only[gIn,itemsD,h,h2];simp[okD]
theorem alx:∀(a b:List Int),eqDs (a.map D.int) (b.map D.int)=decide (a=b)
 | [],[]=>rfl
 | [],_::_=>rfl
 | _::_,[]=>rfl
 | x::r,y::t=>by
  show(eqD (.int x) (.int y)&&eqDs (r.map D.int) (t.map D.int))=_;rw[ako,alx r t]
  by_cases h:x=y <;> simp[h]
theorem apx(a b:List Int):eqD (.tup (a.map D.int)) (.tup (b.map D.int))=decide (a=b):=by
 rw[<-alx];exact apw _ _
theorem aef(neg:Bool)(a b:List Int):gEq neg (.tup (a.map D.int)) (.tup (b.map D.int))=some (.v (.bl (if neg then !decide (a=b) else decide (a=b)))):=by
 have h1:okD 30 (.tup (a.map D.int))=true:=aio 29 a;have h2:okD 30 (.tup (b.map D.int))=true:=aio 29 b;simp only[gEq,h1,h2,apx];simp
theorem apr(r:List Int):∀x:Int,(0<=r.foldl (fun m y=>if decide (y < m)=true then y else m) x)↔0<=x/\∀y∈r,0<=y:=by
 induction r with
 | nil=>intro x;simp
 | cons z t ih =>
  intro x;rw[List.foldl_cons,ih]
  by_cases h:z < x
  ·simp only[h,decide_true,if_true,List.mem_cons,forall_eq_or_imp];constructor
   ·rintro⟨a,b⟩;exact⟨by omega,a,b⟩
   ·rintro⟨_,a,b⟩;exact⟨a,b⟩
  ·simp only[h,decide_false,Bool.false_eq_true,if_false,List.mem_cons,forall_eq_or_imp];constructor
   ·rintro⟨a,b⟩;exact⟨a,by omega,b⟩
   ·rintro⟨a,_,b⟩;exact⟨a,b⟩
def minI(ns:List Int):Int:=ac4 (fun i j=>decide (i < j)) ns
theorem ale{ns:List Int}(h:ns≠[]):0<=minI ns↔∀y∈ns,0<=y:=by
 cases ns with
 | nil=>exact absurd rfl h
 | cons x r =>
  show 0<=r.foldl (fun m y=>if decide (y < m)=true then y else m) x↔_
  rw[apr];simp
theorem as5{ns:List Int}(h:ns≠[]):awk (.lst (ns.map D.int))=some (.v (.int (minI ns))):=by
 show(u9 (ns.map D.int)).bind _=_;rw[ae6];simp[h,minI]
theorem apl{ns:List Int}(h:ns.length < 64):gSet (.tup (ns.map D.int))=some (.fr ((setI ns).map D.int)):=by
 show(u9 (ns.map D.int)).bind _=_;rw[ae6];simp[h]
theorem alf(ns:List Int)(x:Int):x∈setI ns↔x∈ns:=by
 unfold setI;rw[(sortI_perm _).mem_iff,acs]
theorem amv(ns:List Int):(setI ns).Nodup:=by
 unfold setI;rw[(sortI_perm _).nodup_iff];exact abe ns
@[simp] theorem az9(d:D):as6 [d]=(itemsD d).map afn:=rfl
@[simp] theorem az4(a b:D):ahj [a,b]=(itemsD a).bind fun l1=>(itemsD b).bind fun l2=>if l1.length<=l2.length then some (uz l1 l2) else none:=rfl
@[simp] theorem awh(a b c:D):apj [a,b,c]=(itemsD a).bind fun l1=>(itemsD b).bind fun l2=>(itemsD c).bind fun l3=>if l1.length<=l2.length/\l1.length<=l3.length then some (ab1 l1 l2 l3) else none:=rfl
@[simp] theorem axs(ρ:Ro)(f:Int->Int->Int)(i:Nat)(mi m:M D):aks f i mi m ρ=(dM (mOwn i) fun _=>dM mi fun k=>dM (mOwn i) fun l=>dM (lift ((asI k).bind (ixN l.length))) fun j=>dM (lift ((l[j]?).bind asI)) fun x=>dM m fun y=>dM (lift (asI y)) fun y=>dM (mOwn i) fun l2=>dM (lift (if l2.length=l.length then some () else none)) fun _=>dM (aaz i (l2.set j (.int (f x y)))) fun _=>dNx) ρ:=rfl
@[simp] theorem azj(ρ:Ro)(i:Nat)(ms:M (List D)):azk i ms ρ=((gf i).bind fun d0=>ms.bind fun ds=>(gf i).bind fun d=>(lift (match d0,d with
 | .lst _,.lst _=>some ()
 | .tup _,.tup _=>some ()
 | _,_=>none)).bind fun _=>lift (ahl d ds)) ρ:=rfl
@[simp] theorem awt(l:List D)(x:D):ahl (.lst l) [x]=if okD 30 x&&l.all (okD 30) then some (.int (l.countP fun y=>eqD y x)) else none:=rfl
@[simp] theorem aws(l:List D)(x:D):ahl (.tup l) [x]=if okD 30 x&&l.all (okD 30) then some (.int (l.countP fun y=>eqD y x)) else none:=rfl
theorem ahw{l1 l2:List D}(h:l1.length<=l2.length):(uz l1 l2).length=l1.length:=by unfold uz;rw[List.length_zipWith];omega
theorem aeh{l1 l2 l3:List D}(h:l1.length<=l2.length/\l1.length<=l3.length):(ab1 l1 l2 l3).length=l1.length:=by unfold ab1;rw[List.length_zipWith,List.length_zip];omega
theorem vg{ns:List Int}{k:Int}(h0:0<=k)(h1:k < (ns.length:Int)):atI (ns.map D.int) k=some (.int (ns.getD k.toNat 0)):=by
 have hk:k.toNat < ns.length:=by omega
 have q:atI (ns.map D.int) ((k.toNat:Nat):Int)=some (.int (ns.getD k.toNat 0)):=ahu (by simp[List.getElem?_eq_getElem hk])
 rw[show((k.toNat:Nat):Int)=k by omega] at q
 exact q
theorem ab5{n:Nat}{k:Int}(h0:0<=k)(h1:k < (n:Int)):ixN n k=some k.toNat:=by
 unfold ixN;simp[h0,h1]
theorem jj{K:Fg9}{P:Program}{w:World}{mg:Str->Option Value}{base:Heap}{x qual:Str}{st:Stmt}{f:Addr}{fd:FuncData}{N ps:List Str}{k nl np:Nat}{g:Sd}(F:Fun K x qual st f fd)(S:FnScope N ps (aj st))(h1:N.length=nl)(h2:ps.length=np)
  (body:∀(cdv:Value) (A:Around) (outer:List Env) (s:Shared) (H:Hp) (E:XK),Room k (A.deeper (envOfC qual (aj st) s.heap.objs.size f cdv))->SVs K (cxOf CX0 P w K mg base N qual (aj st) f cdv A outer s H E).nox (cz st) g) :
  FnOk P w K mg base CX0 (k+1) f fd ps (spOf K np (fnD nl np g)):=by
 subst h1 h2;exact a4z F S body
section
variable{K:Fg9}{X:Cx}{e:Expr}{pos:Pos}
def gLS:D->Option Rv
 | .tup l=>(u9 l).bind fun ns=>if ns.length < 64 then some (.v (.int ((dedI ns).length:Int))) else none
 | _=>none
@[simp] theorem a4r(l:List D):gLS (.tup l)=(u9 l).bind fun ns=>if ns.length < 64 then some (.v (.int ((dedI ns).length:Int))) else none:=rfl
end
section
variable{K:Fg9}{X:Cx}
def rReverse:V->List V->Hp->VK->Prop:=fun x vs H Q=>∃l xs,x=.ref l/\vs=[]/\H l=some (.lst xs)/\xs.length < sizeLine/\Q .non (upd H l (.lst xs.reverse))
def as3(l ds:List D):Option (D×List D):=match ds with
 | []=>if l.length < capS then some (.non,l.reverse) else none
 | _=>none
@[simp] theorem at9(l:List D):as3 l []=if l.length < capS then some (.non,l.reverse) else none:=rfl
end
section
variable{K:Fg9}{X:Cx}{a:Expr}{pos p2:Pos}
def mIx1(m:M Rv):M Rv:=m.bind fun r=>match r with
 | .tf _ l=>ret (.fr l)
 | _=>lift none
@[simp] theorem a3r(m:M Rv)(ρ:Ro):mIx1 m ρ=(m.bind fun r=>match r with
 | .tf _ l=>ret (.fr l)
 | _=>lift none) ρ:=rfl
end
end Dn
namespace L2
section
variable{X:Cx}{tg:Expr}
end
end L2
namespace Dn
open L2 Mn
section
variable{K:Fg9}{X:Cx}{tgt a b c:Expr}{p pos:Pos}
end
end Dn
namespace Mn
open L2
section
variable{X:Cx}
end
end Mn
namespace Dn
open L2 Mn
section
variable{K:Fg9}{X:Cx}
end
theorem mkSc{N P:List Str}{sc:Scope}(a:sc.kind=.function)(b:sc.isCoroutine=false)(c:sc.isGenerator=false)(e:N.take P.length=P)(d:N.Nodup/\(∀x∈P,sc.names.lookup x=some .local∨sc.names.lookup x=some .cell)/\∀y∈sc.names,y.2≠.free):FnScope N P sc:=⟨a,b,c,d.1,e,d.2.1,d.2.2⟩
section
variable{K:Fg9}{X:Cx}{e a b o:Expr}{es:List Expr}{pos p p2:Pos}
def FldT(K:Fg9)(c f:Str):Prop:=∀C,nsIn K mainGlobals c=some (some (.ref C))->Cls K C/\ab0 K C f
def mLnk(c:Str)(i:Nat)(f:Str)(j:Nat):M Unit:=fun ρ=>match ρ[i]?,ρ[j]? with
 | some (.box c' fs),some (.own (some k) _)=>match fs.lookup f with
  | some (.inl k')=>if c'=c/\k'=k then some (.ok (),ρ) else none
  | _=>none
 | _,_=>none
theorem alh{tg:Nat->Addr}{F H:Hp}{ρ ρ':Ro}{σ:L2.St}(G:Good K tg F H ρ σ){c f:Str}{i j:Nat}{u:Unit}(hc:FldT K c f)(em:mLnk c i f j ρ=some (.ok u,ρ')) :
  ρ'=ρ/\∃a C dx fvs v,σ[i]? = some (some (.ref a))/\H a=some (.ins C dx fvs)/\Cls K C/\ab0 K C f/\fvs.lookup f=some v/\σ[j]? = some (some v):=by
 unfold mLnk at em;split at em
 ·rename_i c' fs k l ei ej;split at em
  ·rename_i k' hk;split at em
   ·rename_i hz;obtain⟨rfl,rfl⟩:=hz;cases em;obtain⟨oi,hoi,a,C,dx,fvs,rfl,hf,hh,hn,_,h1,_⟩:=G.at ei;obtain⟨oj,hoj,b,vs,rfl,_,_,_,ht⟩:=G.at ej;obtain⟨k1,k2⟩:=hc C hn;refine⟨rfl,a,C,dx,fvs,.ref b,hoi,hh,k1,k2,?_,hoj⟩;rw[h1 f _ hk,ht _ rfl]
   ·cases em
  ·cases em
 ·cases em
abbrev tAt(K:Fg9)(i:Nat)(f:Str):TE:=tFld K (tVar i) f
theorem aos{i:Nat}{f:Str}(h:PE X o (tVar i))(hb:attributeBase o f X.env (eval o X.env)=eval o X.env:=by rfl):PE X (.Attribute o f pos) (tAt X.K i f):=ayw h hb
def mFV(c:Str)(i:Nat)(f:Str):M D:=fun ρ=>match ρ[i]? with
 | some (.box c' fs)=>if c'=c then match fs.lookup f with
  | some (.inr d)=>some (.ok d,ρ)
  | _=>none
  else none
 | _=>none
theorem a5e{c f:Str}{i:Nat}(hc:FldT K c f)(h:PE X o (tVar i))(hb:attributeBase o f X.env (eval o X.env)=eval o X.env:=by rfl):EV K X (.Attribute o f pos) (mFV c i f):=EV.mk fun hk=>by
 subst hk;refine PE.imp (aos h hb) fun σ H Q ⟨tg,F,ρ,d,ρ',G,em,q⟩ =>?_
 unfold mFV at em;split at em
 ·rename_i c' fs ei;split at em
  ·rename_i hz;subst hz;split at em
   ·rename_i d' hd;cases em;obtain⟨oi,hoi,a,C,dx,fvs,rfl,hf,hh,hn,_,_,h2⟩:=G.at ei;obtain⟨k1,k2⟩:=hc C hn;obtain⟨v,hv,iv⟩:=h2 f _ hd;exact⟨_,hoi,a,C,dx,fvs,v,rfl,hh,k1,k2,hv,q v H F G (Ext.refl _ _ _) iv⟩
   ·cases em
  ·cases em
 ·cases em
theorem e2_f{c f:Str}{i j:Nat}{m2:M D}(hc:FldT K c f)(h:PE X o (tVar i))(hb2:EB K X b m2)(hb:attributeBase o f X.env (eval o X.env)=eval o X.env:=by rfl):E2 K X (.Attribute o f pos) b ((mLnk c i f j).bind fun _=>cj j m2):=E2.mk fun hk=>by
 subst hk;refine⟨_,_,aos h hb,hb2 rfl,fun σ H R ⟨tg,F,ρ,p,ρ',G,em,q⟩ =>?_⟩
 obtain⟨u,ρ9,e9,em1⟩:=aq em;obtain⟨rfl,a,C,dx,fvs,v,h1,h2,h3,h4,h5,h6⟩:=alh G hc e9;obtain⟨d0,ρ0,e0,em⟩:=aq em1;obtain⟨d2,ρ2,e2,em⟩:=aq em;obtain⟨d1,ρ1,e1,em⟩:=aq em;obtain⟨rfl,rfl⟩:=j9 em;obtain⟨rfl,_⟩:=qu G e0;exact⟨_,h1,a,C,dx,fvs,v,rfl,h2,h3,h4,h5,tg,F,ρ0,d2,ρ2,G,e2,fun y H2 F2 G2 x2 r2=>by
  obtain⟨rfl,v',hv',b'⟩:=qu G2 e1;rw[h6] at hv';cases hv';exact q v y H2 F2 G2 x2 b' r2⟩
theorem ea_f{c f:Str}{i j:Nat}{ms:M (List D)}(hc:FldT K c f)(h:PE X o (tVar i))(t:EA K X es ms)(hb:attributeBase o f X.env (eval o X.env)=eval o X.env:=by rfl)(hs:starEach (.Attribute o f pos::es) X.env=(false,eval (.Attribute o f pos) X.env)::starEach es X.env:=by rfl) :
  EA K X (.Attribute o f pos::es) ((mLnk c i f j).bind fun _=>dw j ms):=EA.mk fun hk=>by
 subst hk;refine PA.imp (yh (aos h hb) (t rfl) hs) fun σ H Q ⟨tg,F,ρ,ds,ρ',G,em,q⟩ =>?_
 obtain⟨u,ρ9,e9,em1⟩:=aq em;obtain⟨rfl,a,C,dx,fvs,v,h1,h2,h3,h4,h5,h6⟩:=alh G hc e9;obtain⟨d0,ρ0,e0,em⟩:=aq em1;obtain⟨r,ρ2,e2,em⟩:=aq em;obtain⟨d,ρ1,e1,em⟩:=aq em;obtain⟨rfl,rfl⟩:=j9 em;obtain⟨rfl,_⟩:=qu G e0;exact⟨_,h1,a,C,dx,fvs,v,rfl,h2,h3,h4,h5,tg,F,ρ0,r,_,G,e2,fun vs H2 F2 G2 x2 r2=>by
  obtain⟨rfl,v',hv',b'⟩:=qu G2 e1;rw[h6] at hv';cases hv';exact q _ H2 F2 G2 x2 (.cons b' r2)⟩
def dSubF(c:Str)(i:Nat)(f:Str)(j:Nat)(mi m:M D):Sd:=dM m fun d=>dM (mLnk c i f j) fun _=>dM mi fun k=>dM (mOwn j) fun l=>dM (lift ((asI k).bind (ixN l.length))) fun n=>dM (aaz j (l.set n d)) fun _=>dNx
theorem auz{c f:Str}{i j:Nat}{mi m:M D}(hc:FldT K c f)(h:EV K X e m)(ho:PE X o (tVar i))(hi:EV K X b mi)(hb:attributeBase o f X.env (eval o X.env)=eval o X.env:=by rfl)(hs:swapsWithSole [.Subscript (.Attribute o f p2) b p] e pos.line X.env=pure false:=by rfl)(hw:swappedStores [.Subscript (.Attribute o f p2) b p] e X.env=pure none:=by rfl)
  (h1:(assignEach [.Subscript (.Attribute o f p2) b p] X.env).map (·.2)=[assign (.Subscript (.Attribute o f p2) b p) X.env]:=by rfl)
  (ha:∀v,assign (.Subscript (.Attribute o f p2) b p) X.env v=(do
   let ov <-holding [v] (eval (.Attribute o f p2) X.env)
   let iv <-holding [v,ov] (eval b X.env)
   standAt p
   holding [v,ov,iv] (setItem ov iv v)
   release [v,ov,iv] []):=by intro _;rfl):SV K X (.Assign [.Subscript (.Attribute o f p2) b p] e pos) (dSubF c i f j mi m):=SV.mk fun hk=>by
 subst hk;refine PS.imp (aom (h rfl) (atv (aos ho hb) (hi rfl) set_list ha) hs hw h1) fun E σ H ⟨tg,F,ρ,fl,ρ',G,em,q⟩ =>
  kj em q fun d ρ1 e1 em=>kj em q fun u0 ρ0 e0 em=>kj em q fun k ρ2 e2 em=>kj em q fun l ρ3 e3 em=>kj em q fun n ρ4 e4 em=>kj em q fun u ρ5 e5 em =>?_
 cases em;obtain⟨e6,rfl⟩:=gj e4;refine⟨tg,F,ρ,d,ρ1,G,e1,fun v H1 F1 G1 x1 r1 =>?_⟩
 obtain⟨rfl,a,C,dx,fvs,w0,g1,g2,g3,g4,g5,g6⟩:=alh G1 hc e0;refine⟨_,g1,a,C,dx,fvs,w0,rfl,g2,g3,g4,g5,tg,F1,_,k,ρ2,G1,e2,fun w H2 F2 G2 x2 r2 =>?_⟩
 obtain⟨rfl,t,a1,xs,es1,hv',hh,hl⟩:=abu G2 e3;rw[g6] at hv';cases hv';cases ek:asI k with
 | none=>rw[ek] at e6;cases e6
 | some z =>
  rw[ek] at e6;obtain rfl:=aea ek;cases r2;obtain⟨G3,x3⟩:=aez G2 e5 g6 (hl.set (r1.mono x2.sub) n);exact⟨_,xs,z,n,rfl,rfl,hh,by rw[<-hl.length];exact e6,q _ _ F2 G3 ((x1.trans x2).trans x3)⟩
def dSubAugF(g:Int->Int->Int)(c:Str)(i:Nat)(f:Str)(j:Nat)(mi m:M D):Sd:=dM (mLnk c i f j) fun _=>dM mi fun k=>dM (mOwn j) fun l=>dM (lift ((asI k).bind (ixN l.length))) fun n=>dM (lift ((l[n]?).bind asI)) fun x=>dM m fun y=>dM (lift (asI y)) fun y=>dM (mOwn j) fun l2=>dM (lift (if l2.length=l.length then some () else none)) fun _=>dM (aaz j (l2.set n (.int (g x y)))) fun _=>dNx
theorem abb{g:Int->Int->Int}{op:Operator}{c f:Str}{i j:Nat}{mi m:M D}(hc:FldT K c f)(ho:PE X o (tVar i))(hi:EV K X b mi)(h:EV K X e m)(hp:PIp X op (ipI g))(hb:attributeBase o f X.env (eval o X.env)=eval o X.env:=by rfl)
  (ha:∀ov iv new,augStore b ov iv new=(do holding [new,ov,iv] (setItem ov iv new);release [new,ov,iv] [];pure .next):=by intros;rfl):SV K X (.AugAssign (.Subscript (.Attribute o f p2) b p) op e pos) (dSubAugF g c i f j mi m):=SV.mk fun hk=>by
 subst hk;refine PS.imp (aol (aos ho hb) (hi rfl) als (h rfl) hp set_list ha) fun E σ H ⟨tg,F,ρ,fl,ρ',G,em,q⟩ =>
  kj em q fun u0 ρ0 e0 em=>kj em q fun k ρ1 e1 em=>kj em q fun l ρ2 e2 em=>kj em q fun n ρ3 e3 em=>kj em q fun x ρ4 e4 em=>kj em q fun y ρ5 e5 em=>kj em q fun y' ρ6 e6 em=>kj em q fun l2 ρ7 e7 em=>kj em q fun u ρ8 e8 em=>kj em q fun u2 ρ9 e9 em =>?_
 cases em;obtain⟨rfl,a0,C,dx,fvs,w0,h1,h2,h3,h4,h5,hv⟩:=alh G hc e0;refine⟨_,h1,a0,C,dx,fvs,w0,rfl,h2,h3,h4,h5,tg,F,_,k,ρ1,G,e1,fun w H1 F1 G1 x1 r1 =>?_⟩
 obtain⟨rfl,t1,a1,xs1,es1,hv1,hh1,hl1⟩:=abu G1 e2;rw[hv] at hv1;cases hv1;obtain⟨g3,rfl⟩:=gj e3;obtain⟨g4,rfl⟩:=gj e4;cases ek:asI k with
 | none=>rw[ek] at g3;cases g3
 | some z =>
  rw[ek] at g3;obtain rfl:=aea ek;cases r1;have e3:ixN l.length z=some n:=g3;cases ej:l[n]? with
  | none=>rw[ej] at g4;cases g4
  | some d =>
   rw[ej] at g4;have h4:asI d=some x:=g4;obtain rfl:=aea h4;obtain⟨v,ev,iv⟩:=hl1.get ej;cases iv;refine⟨_,xs1,z,.int x,rfl,rfl,SqL.of hh1,by rw[at3 hl1.length.symm e3];exact ev,?_⟩
   refine⟨tg,F1,_,y,ρ5,G1,e5,fun w2 H2 F2 G2 x2 r2 =>?_⟩
   obtain⟨g6,rfl⟩:=gj e6;obtain rfl:=aea g6;cases r2;refine⟨x,y',rfl,rfl,?_⟩;obtain⟨rfl,t2,a2,xs2,es2,hv2,hh2,hl2⟩:=abu G2 e7;rw[hv] at hv2;cases hv2;obtain⟨g8,rfl⟩:=gj e8;split at g8
   ·rename_i hlen;obtain⟨G3,x3⟩:=aez G2 e9 hv (hl2.set (Is.int (g x y')) n);exact⟨_,xs2,z,n,rfl,rfl,hh2,by rw[<-hl2.length,hlen];exact e3,q _ _ F2 G3 ((x1.trans x2).trans x3)⟩
   ·cases g8
end
theorem _root_.L2.Inv.gh{X:Cx}{zv:List (Addr×Obj)}{σ σ2:L2.St}{H:Hp}{s:Shared}(I:Inv X zv σ H s)(hl:σ2.length=σ.length)(h:∀(i:Nat) (x:Str) (v:V),X.N[i]? = some x->σ2[i]? = some (some v)->Vis X.env.scope x->σ[i]? = some (some v)):Inv X zv σ2 H s:=by
 obtain⟨m,hm,hx⟩:=I.loc;exact⟨I.ok,I.os,I.bare,I.base,⟨m,hm,fun i x v e q vis=>hx i x v e (h i x v e q vis) vis⟩,I.cell,I.free,I.freeC,I.pin,I.hok,hl.trans I.len⟩
def GH(X:Cx)(σ σ2:L2.St):Prop:=σ2.length=σ.length/\∀(i:Nat) (x:Str) (v:V),X.N[i]? = some x->σ2[i]? = some (some v)->Vis X.env.scope x->σ[i]? = some (some v)
theorem atr{X:Cx}{ss:List Stmt}{t:TS}(h:PSs X ss t):PSs X ss (fun D σ H=>∃σ2,GH X σ σ2/\t D σ2 H):=fun zv s σ H D I ⟨σ2,g,q⟩=>h zv s σ2 H D (I.gh g.1 g.2) q
def spBx(K:Fg9)(n ng:Nat)(f:Fd):Sp:=fun vs H Q _=>vs.length=n/\∃gv:List V,gv.length=ng/\∃F as r ps,Good K (tgOf ((vs++gv).map some)) F H as ((vs++gv).map some)/\f as=some (.ok r,ps) /\
 ∀v H' F' O',Same F' H'->Ext (Own as ((vs++gv).map some)) O' F H F' H'->Fin K F' H' ((vs++gv).map some) ps O'->relR K r v H (Own as ((vs++gv).map some)) F' H' O'->Q v H'
theorem a5b{K:Fg9}{P:Program}{w:World}{mg:Str->Option Value}{base:Heap}{x qual:Str}{st:Stmt}{f:Addr}{fd:FuncData}{N ps:List Str}{k nl np ng:Nat}{g:Sd}(F:Fun K x qual st f fd)(S:FnScope N ps (aj st))(h1:N.length=nl)(h2:ps.length=np)(hN:np+ng<=nl)
  (hgh:∀y∈(N.drop np).take ng,(aj st).names.lookup y=none)
  (body:∀(cdv:Value) (A:Around) (outer:List Env) (s:Shared) (H:Hp) (E:XK),Room k (A.deeper (envOfC qual (aj st) s.heap.objs.size f cdv))->SVs K (cxOf CX0 P w K mg base N qual (aj st) f cdv A outer s H E).nox (cz st) g) :
  FnOk P w K mg base CX0 (k+1) f fd ps (spBx K np ng (fnD nl (np+ng) g)):=by
 subst h1 h2;refine F.ok S (fun vs H Q E h=>h.1) (fun cdv A outer s H vs Q E hr h=>⟨_,atr (body cdv A outer s H E hr rfl),?_⟩)
 obtain⟨hn,gv,hg,F,as,r,ps',G,em,q⟩:=h;have hl:as.length=((vs++gv).map some).length:=G.len;have hlen:(vs++gv).length=ps.length+ng:=by rw[List.length_append];omega
 have G1:=G.app (N.length - (ps.length+ng));refine⟨(vs++gv).map some++List.replicate (N.length - (ps.length+ng)) none,⟨?_,?_⟩,?_⟩
 ·show _=(vs.map some++List.replicate (N.length - vs.length) none).length;rw[List.length_append,List.length_append,List.length_map,List.length_map,List.length_replicate,List.length_replicate,hlen];omega
 ·intro i y v ei ev vis;show(vs.map some++List.replicate (N.length - vs.length) none)[i]? = some (some v)
  by_cases q1:i < vs.length
  ·rw[List.getElem?_append_left (by rw[List.length_map];exact q1)]
   rw[List.getElem?_append_left (by rw[List.length_map,hlen];omega),List.getElem?_map,List.getElem?_append_left q1] at ev
   rw[List.getElem?_map];exact ev
  ·exfalso
   by_cases q2:i < ps.length+ng
   ·have hm:y∈(N.drop ps.length).take ng:=by
     refine List.mem_of_getElem? (i:=i - ps.length) ?_;rw[List.getElem?_take_of_lt (by omega),List.getElem?_drop,show ps.length+(i - ps.length)=i by omega]
     exact ei
    have z:=hgh y hm;rcases vis with v | v | v
    ·rw[show((cxOf CX0 P w K mg base N qual (aj st) f cdv A outer s H E).nox).env.scope=aj st from rfl,z] at v;cases v
    ·rw[show((cxOf CX0 P w K mg base N qual (aj st) f cdv A outer s H E).nox).env.scope=aj st from rfl,z] at v;cases v
    ·rw[show((cxOf CX0 P w K mg base N qual (aj st) f cdv A outer s H E).nox).env.scope=aj st from rfl,z] at v;cases v
   ·rw[List.getElem?_append_right (by rw[List.length_map,hlen];omega),List.getElem?_replicate] at ev
    split at ev <;> cases ev
 have fin:∀{ρ':Ro} {σ':L2.St} {F' H':Hp},Good K (tgOf ((vs++gv).map some)) F' H' ρ' σ'->Fin K F' H' ((vs++gv).map some) (ρ'.take (ps.length+ng)) (Own ρ' σ'):=fun{ρ' σ' F' H'} G'=>⟨fun i l e=>by
  have hi:=(List.getElem?_eq_some_iff.mp e).1;rw[List.length_take] at hi;rw[List.getElem?_take_of_lt (by omega)] at e
  obtain⟨o,ho,a,ws,rfl,hf,hh,hl,ht⟩:=G'.at e;rw[ht i rfl];exact⟨⟨i,⟨_,_,e⟩,ho⟩,hf,ws,hh,hl⟩⟩
 unfold fnD at em;split at em
 ·rename_i r' ρ' e;cases em;refine⟨_,F,_,.ret r,ρ',G1,e,fun v σ' H' F' G' x' rr =>?_⟩
  rw[zg hl] at x' rr;exact q v H' F' (Own ρ' σ') G'.sub x' (fin G') rr
 ·rename_i ρ' e;cases em;refine⟨_,F,_,.nx,ρ',G1,e,fun σ' H' F' G' x' =>?_⟩
  rw[zg hl] at x';exact q .non H' F' (Own ρ' σ') G'.sub x' (fin G') .non
 ·cases em
 ·cases em
def bxC(np:Nat)(ls vf:List Str)(fs:List (Str×(Nat ⊕ D))):Option (List (Str×(Nat ⊕ D))):=(vf.mapM fun f=>match fs.lookup f with
 | some (.inr d)=>some (f,(.inr d:Nat ⊕ D))
 | _=>none).map fun vs=>(ls.mapIdx fun n f=>(f,(.inl (np+n):Nat ⊕ D)))++vs
def lnkB(fs:List (Str×(Nat ⊕ D)))(ρ:Ro):List Str->List Nat->Bool
 | [],[]=>true
 | f::ls,j::gs=>(match fs.lookup f,ρ[j]? with
  | some (.inl k),some (.own (some k') _)=>k==k'
  | _,_=>false)&&lnkB fs ρ ls gs
 | _,_=>false
theorem agh{np:Nat}{f:Str}{k:Nat ⊕ D}:∀{ls:List Str} {n0:Nat},(ls.mapIdx fun n g=>(g,(.inl (np+(n0+n)):Nat ⊕ D))).lookup f=some k->∃n,ls[n]? = some f/\k=.inl (np+(n0+n))
 | [],_,h=>by cases h
 | g::ls,n0,h=>by
  rw[List.mapIdx_cons] at h
  by_cases e:f=g
  ·subst e;rw[List.lookup_cons_self] at h;exact⟨0,rfl,(Option.some.inj h).symm⟩
  ·have hb:(f==g)=false:=beq_eq_false_iff_ne.mpr e;simp only[List.lookup,hb] at h;have h':(ls.mapIdx fun n g=>(g,(.inl (np+((n0+1)+n)):Nat ⊕ D))).lookup f=some k:=by
    have e2:(fun(n:Nat) (g:Str)=>(g,(.inl (np+(n0+(n+1))):Nat ⊕ D)))=fun n g=>(g,(.inl (np+((n0+1)+n)):Nat ⊕ D)):=by
     funext n g
     rw[show n0+(n+1)=n0+1+n by omega]
    rw[<-e2];exact h
   obtain⟨n,h1,h2⟩:=agh h';exact⟨n+1,by simpa using h1,by rw[h2];congr 2;omega⟩
theorem zj{α β:Type}[BEq α]{f:α}:∀{a b:List (α×β)},(a++b).lookup f=(a.lookup f).or (b.lookup f)
 | [],b=>rfl
 | (g,x)::a,b=>by
  rw[List.cons_append];simp only[List.lookup];split
  ·rfl
  ·exact zj
section
variable{K:Fg9}{X:Cx}{tg:Nat->Addr}{F H:Hp}{ρ:Ro}{σ:L2.St}
theorem Good.setB(G:Good K tg F H ρ σ){i:Nat}{s:Sl}(e:(ρ:List Sl)[i]? = some .emp)(hs:∀t l,s≠.own t l)(h:∀o,σ[i]? = some o->SlOk K tg F H s o):Good K tg F H (List.set ρ i s) σ/\Own (List.set ρ i s) σ=Own ρ σ:=by
 have sub:∀j t l,(List.set ρ i s)[j]? = some (Sl.own t l)↔(ρ:List Sl)[j]? = some (Sl.own t l):=fun j t l=>by
  rw[List.getElem?_set]
  by_cases hj:i=j
  ·subst hj;rw[if_pos rfl,e];constructor
   ·intro z;split at z
    ·cases z;exact absurd rfl (hs t l)
    ·cases z
   ·intro z;cases z
  ·rw[if_neg hj]
 refine⟨⟨G.sub,by rw[List.length_set];exact G.len,fun j s' o z q =>?_,fun j k a ⟨⟨t,l,z⟩,q⟩ ⟨⟨t',l',z'⟩,q'⟩=>G.inj j k a ⟨⟨t,l,(sub _ _ _).mp z⟩,q⟩ ⟨⟨t',l',(sub _ _ _).mp z'⟩,q'⟩⟩,?_⟩
 ·rw[List.getElem?_set] at z
  by_cases hj:i=j
  ·subst hj;rw[if_pos rfl] at z;split at z
   ·cases z;exact h o q
   ·cases z
  ·rw[if_neg hj] at z;exact G.sl j s' o z q
 ·funext a
  refine propext ⟨fun⟨j,⟨t,l,z⟩,q⟩=>⟨j,⟨t,l,(sub _ _ _).mp z⟩,q⟩,fun⟨j,⟨t,l,z⟩,q⟩=>⟨j,⟨t,l,(sub _ _ _).mpr z⟩,q⟩⟩
theorem ao8{js:List (Option Nat)}{ds:List (Option D)}{vs gv:List V}{gs:List Nat}{a:Addr}(ar:AR K F σ js ds vs)(hg:gv.length=gs.length)(hgv:∀(n j:Nat) (v:V),gs[n]? = some j->gv[n]? = some v->σ[j]? = some (some v)) :
  Lent K F σ ((V.ref a::(vs++gv)).map some) (none::(js++gs.map some)) (none::(ds++gs.map fun _=>none)):=by
 have L:=ar.lent;have l0:=ar.length;have l2:=L.l2;refine⟨by simp[hg,l0],by simp[l2],fun i j o h q =>?_,fun i d h q =>?_⟩
 ·cases i with
  | zero=>cases h
  | succ i =>
   rw[List.getElem?_cons_succ] at h;rw[List.map_cons,List.getElem?_cons_succ,List.getElem?_map]
   by_cases hi:i < js.length
   ·rw[List.getElem?_append_left hi] at h;have z:=L.h1 i j o h q;rw[List.getElem?_map] at z;rw[List.getElem?_append_left (by omega)]
    exact z
   ·rw[List.getElem?_append_right (by omega),List.getElem?_map] at h
    obtain⟨j',hj,e⟩:=Option.map_eq_some_iff.mp h;cases e;rw[List.getElem?_append_right (by omega),l0]
    have hlt:i - js.length < gv.length:=by rw[hg];exact(List.getElem?_eq_some_iff.mp hj).1
    have z:=hgv _ _ _ hj (List.getElem?_eq_getElem hlt);rw[q] at z;rw[List.getElem?_eq_getElem hlt];exact z.symm▸rfl
 ·cases i with
  | zero=>cases q
  | succ i =>
   rw[List.getElem?_cons_succ] at h q;rw[List.map_cons,List.getElem?_cons_succ,List.getElem?_map]
   by_cases hi:i < js.length
   ·rw[List.getElem?_append_left hi] at h;rw[List.getElem?_append_left (by omega)] at q
    obtain⟨v,hv,iv⟩:=L.h2 i d h q;rw[List.getElem?_map] at hv;rw[List.getElem?_append_left (by omega)]
    exact⟨v,hv,iv⟩
   ·rw[List.getElem?_append_right (by omega),List.getElem?_map] at h
    obtain⟨j',_,e⟩:=Option.map_eq_some_iff.mp h;cases e
theorem akb{fs:List (Str×(Nat ⊕ D))}:∀{ls:List Str} {gs:List Nat} {n:Nat} {f:Str},lnkB fs ρ ls gs=true->ls[n]? = some f->∃j k l,gs[n]? = some j/\fs.lookup f=some (.inl k)/\(ρ:List Sl)[j]? = some (.own (some k) l)
 | [],_,n,f,_,h=>by simp at h
 | g::ls,[],n,f,hb,_=>by simp[lnkB] at hb
 | g::ls,j::gs,n,f,hb,h=>by
  unfold lnkB at hb;rw[Bool.and_eq_true] at hb;cases n with
  | zero =>
   simp at h;subst h;obtain⟨h1,_⟩:=hb;split at h1
   ·rename_i k k' l e1 e2;have:k=k':=by simpa using h1
    subst this;exact⟨j,k,l,rfl,e1,e2⟩
   ·cases h1
  | succ n =>
   obtain⟨j',k,l,h1,h2,h3⟩:=akb (n:=n) hb.2 (by simpa using h)
   exact⟨j',k,l,by simpa using h1,h2,h3⟩
theorem ali{fs:List (Str×(Nat ⊕ D))}:∀{ls:List Str} {gs:List Nat},lnkB fs ρ ls gs=true->ls.length=gs.length
 | [],[],_=>rfl
 | [],_::_,h=>by simp[lnkB] at h
 | _::_,[],h=>by simp[lnkB] at h
 | g::ls,j::gs,h=>by
  unfold lnkB at h;rw[Bool.and_eq_true] at h;rw[List.length_cons,List.length_cons,ali h.2]
theorem aum{fs:List (Str×(Nat ⊕ D))}:∀{vf:List Str} {vs:List (Str×(Nat ⊕ D))},(vf.mapM fun f=>match fs.lookup f with
 | some (.inr d)=>some (f,(.inr d:Nat ⊕ D))
 | _=>none)=some vs->∀f x,vs.lookup f=some x->∃d,x=.inr d/\fs.lookup f=some (.inr d)
 | [],vs,h,f,x,hx=>by
  simp at h;subst h;cases hx
 | g::vf,vs,h,f,x,hx=>by
  rw[List.mapM_cons] at h;obtain⟨y,h1,h2⟩:=Option.bind_eq_some_iff.mp h;obtain⟨ys,h3,h4⟩:=Option.bind_eq_some_iff.mp h2;cases h4;split at h1
  ·rename_i d hd;cases h1
   by_cases e:f=g
   ·subst e;rw[List.lookup_cons_self] at hx;cases hx;exact⟨d,rfl,hd⟩
   ·have hb:(f==g)=false:=beq_eq_false_iff_ne.mpr e;simp only[List.lookup,hb] at hx;exact aum h3 f x hx
  ·cases h1
end
theorem alr{np:Nat}{f:Str}:∀{ls:List Str} {n0:Nat},(ls.mapIdx fun n g=>(g,(.inl (np+(n0+n)):Nat ⊕ D))).lookup f=none->f∉ls
 | [],_,_=>List.not_mem_nil
 | g::ls,n0,h=>by
  rw[List.mapIdx_cons] at h
  by_cases e:f=g
  ·subst e;rw[List.lookup_cons_self] at h;cases h
  ·have hb:(f==g)=false:=beq_eq_false_iff_ne.mpr e;simp only[List.lookup,hb] at h;have h':(ls.mapIdx fun n g=>(g,(.inl (np+((n0+1)+n)):Nat ⊕ D))).lookup f=none:=by
    have e2:(fun(n:Nat) (g:Str)=>(g,(.inl (np+(n0+(n+1))):Nat ⊕ D)))=fun n g=>(g,(.inl (np+((n0+1)+n)):Nat ⊕ D)):=by
     funext n g
     rw[show n0+(n+1)=n0+1+n by omega]
    rw[<-e2];exact h
   intro hm;rcases List.mem_cons.mp hm with z | z
   ·exact e z
   ·exact alr h' z
theorem anm{fs:List (Str×(Nat ⊕ D))}:∀{vf:List Str} {vs:List (Str×(Nat ⊕ D))},(vf.mapM fun f=>match fs.lookup f with
 | some (.inr d)=>some (f,(.inr d:Nat ⊕ D))
 | _=>none)=some vs->∀f,vs.lookup f=none->f∉vf
 | [],vs,h,f,hx=>List.not_mem_nil
 | g::vf,vs,h,f,hx=>by
  rw[List.mapM_cons] at h;obtain⟨y,h1,h2⟩:=Option.bind_eq_some_iff.mp h;obtain⟨ys,h3,h4⟩:=Option.bind_eq_some_iff.mp h2;cases h4;split at h1
  ·rename_i d hd;cases h1
   by_cases e:f=g
   ·subst e;rw[List.lookup_cons_self] at hx;cases hx
   ·have hb:(f==g)=false:=beq_eq_false_iff_ne.mpr e;simp only[List.lookup,hb] at hx;intro hm;rcases List.mem_cons.mp hm with z | z
    ·exact e z
    ·exact anm h3 f hx z
  ·cases h1
theorem ai2{ls vf:List Str}{f:Str}:∀{fs:List (Str×(Nat ⊕ D))},fs.all (fun p=>ls.contains p.1||vf.contains p.1)=true->f∉ls->f∉vf->fs.lookup f=none
 | [],_,_,_=>rfl
 | (g,x)::fs,h,h1,h2=>by
  rw[List.all_cons,Bool.and_eq_true] at h;have e:f≠g:=fun z=>by
   subst z;rcases(Bool.or_eq_true _ _).mp h.1 with z | z
   ·exact h1 (List.contains_iff_mem.mp z)
   ·exact h2 (List.contains_iff_mem.mp z)
  have hb:(f==g)=false:=beq_eq_false_iff_ne.mpr e;simp only[List.lookup,hb];exact ai2 h.2 h1 h2
structure DfnM (P:Program) (w:World) (K:Fg9) (mg:Str->Option Value) (base:Heap) (c m:Str) (ps:List Str) (k:Nat) (sp:Sp):Prop where
 ex:∃C f fd,nsIn K mainGlobals c=some (some (.ref C))/\Cls K C/\Meth K C m f/\FnOk P w K mg base CX0 k f fd ps sp/\Binds K fd ps []
def mIsB(c:Str)(i:Nat)(m:Str):M (List (Str×(Nat ⊕ D))):=fun ρ=>match ρ[i]? with
 | some (.box c' fs)=>if c'=c/\(fs.lookup m).isNone=true then some (.ok fs,ρ) else none
 | _=>none
def alg(c:Str)(i:Nat)(m:Str)(ls vf:List Str)(gs:List Nat)(f:Fd)(js:List (Option Nat))(ms:M (List (Option D))):M Rv:=(mIsB c i m).bind fun _=>ms.bind fun ds=>(mIsB c i m).bind fun fs ρ =>
 if lnkB fs ρ ls gs=true/\okJs ρ (none::(js++gs.map some))=true/\fs.all (fun p=>ls.contains p.1||vf.contains p.1)=true then match bxC (1+js.length) ls vf fs with
  | some fc=>match f (List.set (lend ρ (none::(js++gs.map some)) (none::(ds++gs.map fun _=>none))) 0 (.box c fc)) with
   | some (.ok r,ps)=>some (.ok r,putB ρ (none::(js++gs.map some)) ps)
   | _=>none
  | none=>none
 else none
theorem at5{K:Fg9}{tg:Nat->Addr}{F H:Hp}{ρ ρ':Ro}{σ:L2.St}(G:Good K tg F H ρ σ){c m:Str}{i:Nat}{fs:List (Str×(Nat ⊕ D))}(em:mIsB c i m ρ=some (.ok fs,ρ')) :
  ρ'=ρ/\(ρ:List Sl)[i]? = some (.box c fs)/\∃a C dx fvs,σ[i]? = some (some (.ref a))/\F a=none/\H a=some (.ins C dx fvs)/\nsIn K mainGlobals c=some (some (.ref C))/\(∀f,fs.lookup f=none->fvs.lookup f=none)/\fvs.lookup m=none/\(∀f k,fs.lookup f=some (.inl k)->fvs.lookup f=some (.ref (tg k)))/\∀f d,fs.lookup f=some (.inr d)->∃v,fvs.lookup f=some v/\Is K F d v:=by
 unfold mIsB at em;split at em
 ·rename_i c' fs' ei;split at em
  ·rename_i hz;obtain⟨rfl,hm⟩:=hz;cases em;obtain⟨oi,hoi,a,C,dx,fvs,rfl,hf,hh,hn,h0,h1,h2⟩:=G.at ei;exact⟨rfl,ei,a,C,dx,fvs,hoi,hf,hh,hn,h0,h0 m (Option.isNone_iff_eq_none.mp hm),h1,h2⟩
  ·cases em
 ·cases em
theorem aw3{K:Fg9}{X:Cx}{o e:Expr}{es:List Expr}{apos pos:Pos}{c m:Str}{i k n ng:Nat}{ls vf:List Str}{gs:List Nat}{f:Fd}{ps:List Str}{js:List (Option Nat)}{ms:M (List (Option D))}
  (D:DfnM X.prog X.w X.K X.mg X.base c m ps k (spBx K n ng f)) (hr:Room k X.A) (ho:PE X o (tVar i)) (ha:EG K X (e::es) js ms) (hn:1+js.length=n:=by rfl) (hng:gs.length=ng:=by rfl) {pl:Sem Bool}
  (hst:starEach (e::es) X.env=(false,eval e X.env)::starEach es X.env:=by rfl) (hpl:(backTo pos (starEach es X.env)).any (·.1)=false:=by rfl)
  (ht:eval (.Call (.Attribute o m apos) (e::es) [] pos) X.env=(do
   let ov <-eval o X.env
   standAt apos.atName
   let (f,first) <-holding [ov] (getMethod ov m pl)
   callWith pos f first (backTo pos (starEach (e::es) X.env)) (backToKw pos (keywordEach [] X.env))):=by rfl) :
  ER K X (.Call (.Attribute o m apos) (e::es) [] pos) (alg c i m ls vf gs f js ms):=ER.mk fun hk=>by
 obtain⟨C,fa,fd,hC,hcl,hme,hF,hB⟩:=D.ex;refine PE.imp (avm (pl:=pl) ho hcl hme hF hr hB .nil avt (ha hk) hst hpl ht) fun σ H Q ⟨tg,F,ρ,r,ρ',G,em,q⟩ =>?_
 obtain⟨fs0,ρ0,e0,em1⟩:=aq em
 clear em
 obtain⟨ds,ρ1,e1,em2⟩:=aq em1
 clear em1
 obtain⟨fs,ρ2,e2,em⟩:=aq em2
 clear em2
 obtain⟨rfl,_,a0,C0,dx0,fvs0,z1,z2,z3,z4,z5,z6,z7,z8⟩:=at5 G e0;subst hk;rw[hC] at z4;cases z4;refine⟨_,z1,a0,dx0,fvs0,rfl,z3,z6,tg,F,ρ0,ds,ρ1,G,e1,fun vs H1 F1 G1 x1 ar =>?_⟩
 obtain⟨rfl,ei,a,C1,dx,fvs,y1,y2,y3,y4,y5,y6,y7,y8⟩:=at5 G1 e2;rw[z1] at y1;cases y1;split at em
 ·rename_i hz;obtain⟨hl,hj,hky⟩:=hz;split at em
  ·rename_i fc hfc;split at em
   ·rename_i r' ps' e3;cases em;have hlen:=ali hl;have hgv:∃gv:List V,gv.length=gs.length/\∀(nn j:Nat) (v:V),gs[nn]? = some j->gv[nn]? = some v->σ[j]? = some (some v):=by
     refine⟨gs.map fun j=>match σ[j]? with | some (some v)=>v | _=>.non,by rw[List.length_map],fun nn j v g1 g2 =>?_⟩
     rw[List.getElem?_map,g1] at g2;have hlt:nn < ls.length:=by rw[hlen];exact(List.getElem?_eq_some_iff.mp g1).1
     obtain⟨j',k',l',h1,h2,h3⟩:=akb hl (List.getElem?_eq_getElem hlt);rw[g1] at h1;cases h1;obtain⟨o',ho',b,ws,rfl,_⟩:=G1.at h3;have g2:some (match σ[j]? with | some (some v)=>v | _=>V.non)=some v:=g2
     rw[ho'] at g2;cases g2;exact ho'
    obtain⟨gv,hgl,hgv⟩:=hgv;have L:=ao8 (a:=a0) ar hgl hgv;have Gl:=acu G1 hj L;have vl:=ar.length;have hb0:(lend ρ2 (none::(js++gs.map some)) (none::(ds++gs.map fun _=>none)):List Sl)[0]? = some .emp:=by
     unfold lend;rw[List.zip_cons_cons,List.mapIdx_cons];rfl
    have hsl:∀o',((V.ref a0::(vs++gv)).map some)[0]? = some o'->SlOk X.K (tgOf ((V.ref a0::(vs++gv)).map some)) F1 H1 (.box c fc) o':=fun o' ho'=>by
     cases ho';unfold bxC at hfc;obtain⟨vv,hv1,hv2⟩:=Option.map_eq_some_iff.mp hfc;subst hv2;have idx:∀f x,(ls.mapIdx fun nn g=>(g,(.inl (1+js.length+nn):Nat ⊕ _root_.Dn.D))).lookup f=some x->∃nn,ls[nn]? = some f/\x=.inl (1+js.length+nn):=fun f x hx=>by
      obtain⟨nn,h1,h2⟩:=agh (np:=1+js.length) (n0:=0) (by simpa using hx)
      exact⟨nn,h1,by simpa using h2⟩
     refine⟨a0,C1,dx,fvs,rfl,y2,y3,y4,fun f hf =>?_,fun f kk hf =>?_,fun f d hf =>?_⟩
     ·-- nothing else
      refine y5 f ?_;rw[zj] at hf;cases hq:(ls.mapIdx fun nn g=>(g,(.inl (1+js.length+nn):Nat ⊕ _root_.Dn.D))).lookup f with
      | none =>
       rw[hq] at hf;exact ai2 hky (alr (np:=1+js.length) (n0:=0) (by simpa using hq)) (anm hv1 f hf)
      | some x=>rw[hq] at hf;cases hf
     ·rw[zj] at hf;cases hq:(ls.mapIdx fun nn g=>(g,(.inl (1+js.length+nn):Nat ⊕ _root_.Dn.D))).lookup f with
      | none =>
       rw[hq] at hf;obtain⟨d,hd,_⟩:=aum hv1 f _ hf;cases hd
      | some x =>
       rw[hq] at hf;cases hf;obtain⟨nn,h1,h2⟩:=idx f _ hq;cases h2;obtain⟨j,k',l',g1,g2,g3⟩:=akb hl h1;obtain⟨oj,hoj,b,ws,rfl,_,_,_,ht'⟩:=G1.at g3;rw[y7 f k' g2,ht' k' rfl];have hlt:nn < gv.length:=by rw[hgl];exact(List.getElem?_eq_some_iff.mp g1).1
       have e5:=hgv nn j _ g1 (List.getElem?_eq_getElem hlt);rw[hoj] at e5;have e6:gv[nn]? = some (V.ref b):=by rw[List.getElem?_eq_getElem hlt];exact Option.some.inj e5.symm▸rfl
       have e7:((V.ref a0::(vs++gv)).map some)[1+js.length+nn]? = some (some (.ref b)):=by
        rw[List.getElem?_map,show 1+js.length+nn=(js.length+nn)+1 by omega,List.getElem?_cons_succ,List.getElem?_append_right (by omega),show js.length+nn - vs.length=nn by omega,e6]
        rfl
       unfold tgOf;rw[e7]
     ·rw[zj] at hf;cases hq:(ls.mapIdx fun nn g=>(g,(.inl (1+js.length+nn):Nat ⊕ _root_.Dn.D))).lookup f with
      | none =>
       rw[hq] at hf;obtain⟨d',hd,hd2⟩:=aum hv1 f _ hf;cases hd;exact y8 f d hd2
      | some x =>
       rw[hq] at hf;cases hf;obtain⟨nn,h1,h2⟩:=idx f _ hq;cases h2
    obtain⟨Gb,hO⟩:=Gl.setB hb0 (fun t l z=>by cases z) hsl
    show spBx X.K n ng f (V.ref a0::(vs++[])) H1 Q E0;rw[List.append_nil];refine⟨by rw[List.length_cons,vl];omega,gv,hgl.trans hng,F1,_,r,ps',Gb,e3,fun v H' F' O' s' x' fin rr =>?_⟩
    have hO':Own (List.set (lend ρ2 (none::(js++gs.map some)) (none::(ds++gs.map fun _=>none))) 0 (Sl.box c fc)) ((V.ref a0::vs++gv).map some)=Own (lend ρ2 (none::(js++gs.map some)) (none::(ds++gs.map fun _=>none))) ((V.ref a0::(vs++gv)).map some):=hO
    rw[hO'] at x' rr;exact q v H' F' (ac5 G1 L x' s' fin) (x1.trans (aeg G1 L x')) (p7 x1 (aht G1 L fin rr))
   ·cases em
  ·cases em
 ·cases em
def ao1:Sl->Bool
 | .box _ _=>false
 | _=>true
section
variable{K:Fg9}{X:Cx}{tg:Nat->Addr}{F H F1 H1:Hp}{O O1:Addr->Prop}{ρ:Ro}{σ:L2.St}
theorem Good.updN(G:Good K tg F H ρ σ)(hb:(ρ:List Sl).all ao1=true){d:Addr}(hf:F d=none)(hn:¬Own ρ σ d)(o:HO):Good K tg F (L2.upd H d o) ρ σ where
 sub:=fun b u e=>by
  have hb:b≠d:=fun z=>by subst z;rw[hf] at e;cases e
  rw[cu hb];exact G.sub b u e
 len:=G.len
 inj:=G.inj
 sl:=fun i s o' e q=>by
  have z:=G.sl i s o' e q;cases s with
  | emp=>trivial
  | val _=>exact z
  | box c fs=>exact absurd (List.all_eq_true.mp hb _ (List.mem_of_getElem? e)) (by simp[ao1])
  | own t l =>
   obtain⟨a,vs,e1,f,e2,h,ht⟩:=z;have ha:a≠d:=fun z=>hn (z▸⟨i,⟨t,l,e⟩,by rw[q,e1]⟩)
   exact⟨a,vs,e1,f,by rw[cu ha];exact e2,h,ht⟩
inductive FdR (K:Fg9) (F H:Hp) (O:Addr->Prop):List (Str×Rv)->List (Str×V)->List Addr->Prop
 | nil:FdR K F H O [] [] []
 | v {f:Str} {d:D} {v:V} {rs:List (Str×Rv)} {fvs:List (Str×V)} {A:List Addr} (h:Is K F d v) (t:FdR K F H O rs fvs A):FdR K F H O ((f,.v d)::rs) ((f,v)::fvs) A
 | fr {f:Str} {l:List D} {e:Addr} {ws:List V} {rs:List (Str×Rv)} {fvs:List (Str×V)} {A:List Addr} (hf:F e=none) (hn:¬O e) (hh:H e=some (.lst ws)) (h:IsL K F l ws) (ne:e∉A) (t:FdR K F H O rs fvs A):FdR K F H O ((f,.fr l)::rs) ((f,.ref e)::fvs) (e::A)
theorem FdR.step{rs:List (Str×Rv)}{fvs:List (Str×V)}{A:List Addr}(h:FdR K F H O rs fvs A)(x:Ext O O1 F H F1 H1):FdR K F1 H1 O1 rs fvs A:=by
 induction h with
 | nil=>exact .nil
 | v h t ih=>exact .v (h.mono x.sub) ih
 | @fr f l e ws rs fvs A hf hn hh h ne t ih =>
  refine .fr ?_ (fun z =>?_) (x.keep e _ hh hn) (h.mono x.sub) ne ih
  ·cases z:F1 e with
   | none=>rfl
   | some o =>
    rcases x.new e o z with z | z | z
    ·rw[hf] at z;cases z
    ·rw[hh] at z;cases z
    ·exact absurd z hn
  ·rcases x.own e z with z | z
   ·exact hn z
   ·rw[hh] at z;cases z
theorem FdR.out{rs:List (Str×Rv)}{fvs:List (Str×V)}{A:List Addr}(h:FdR K F H O rs fvs A):∀e∈A,¬O e/\F e=none/\∃ws,H e=some (.lst ws)/\∃l,IsL K F l ws:=by
 induction h with
 | nil=>exact fun e he=>absurd he List.not_mem_nil
 | v h t ih=>exact ih
 | @fr f l e ws rs fvs A hf hn hh h ne t ih =>
  intro e' he;rcases List.mem_cons.mp he with rfl | he
  ·exact⟨hn,hf,ws,hh,l,h⟩
  ·exact ih e' he
theorem FdR.upd{rs:List (Str×Rv)}{fvs:List (Str×V)}{A:List Addr}{d:Addr}{o:HO}(h:FdR K F H O rs fvs A)(hd:d∉A):FdR K F (L2.upd H d o) O rs fvs A:=by
 induction h with
 | nil=>exact .nil
 | v h t ih=>exact .v h (ih hd)
 | @fr f l e ws rs fvs A hf hn hh h ne t ih =>
  have h1:d≠e/\d∉A:=⟨fun q=>hd (q▸List.mem_cons_self ..),fun q=>hd (List.mem_cons_of_mem _ q)⟩
  exact .fr hf hn (by rw[cu (Ne.symm h1.1)];exact hh) h ne (ih h1.2)
theorem FdR.snocV{rs:List (Str×Rv)}{fvs:List (Str×V)}{A:List Addr}(h:FdR K F H O rs fvs A){f:Str}{d:D}{v:V}(hd:Is K F d v):FdR K F H O (rs++[(f,.v d)]) (fvs++[(f,v)]) A:=by
 induction h with
 | nil=>exact .v hd .nil
 | v h t ih=>exact .v h ih
 | fr hf hn hh h ne t ih=>exact .fr hf hn hh h ne ih
theorem FdR.snocF{rs:List (Str×Rv)}{fvs:List (Str×V)}{A:List Addr}(h:FdR K F H O rs fvs A){f:Str}{l:List D}{e:Addr}{ws:List V}(h1:F e=none)(h2:¬O e)(h3:H e=some (.lst ws))(h4:IsL K F l ws)(h5:e∉A):FdR K F H O (rs++[(f,.fr l)]) (fvs++[(f,.ref e)]) (A++[e]):=by
 induction h with
 | nil=>exact .fr h1 h2 h3 h4 List.not_mem_nil .nil
 | v h t ih=>exact .v h (ih h5)
 | @fr f' l' e' ws' rs fvs A hf hn hh h ne t ih =>
  have z:e≠e'/\e∉A:=⟨fun q=>h5 (q▸List.mem_cons_self ..),fun q=>h5 (List.mem_cons_of_mem _ q)⟩
  refine .fr hf hn hh h (fun q =>?_) (ih z.2)
  rcases List.mem_append.mp q with q | q
  ·exact ne q
  ·rw[List.mem_singleton] at q;exact z.1 q.symm
theorem ag2{f:Str}{y:V}:∀{fs:List (Str×V)},fs.lookup f=none->putF f y fs=fs++[(f,y)]
 | [],_=>rfl
 | (g,x)::r,h=>by
  by_cases e:f=g
  ·subst e;rw[List.lookup_cons_self] at h;cases h
  ·have hb:(f==g)=false:=beq_eq_false_iff_ne.mpr e;simp only[List.lookup,hb] at h;show(if g=f then (g,y)::r else (g,x)::putF f y r)=_
   rw[if_neg (Ne.symm e),ag2 h];rfl
def Oa(ρ:Ro)(σ:L2.St)(a:Addr)(A:List Addr):Addr->Prop:=fun z=>Own ρ σ z∨z=a∨z∈A
def iniD:List (Str×M Rv)->Ro->Option (List (Str×Rv)×Ro)
 | [],ρ=>some ([],ρ)
 | (f,m)::r,ρ=>match m ρ with
  | some (.ok (.v d),ρ1)=>if (ρ1:List Sl).all ao1=true then (iniD r ρ1).map fun p=>((f,.v d)::p.1,p.2) else none
  | some (.ok (.fr l),ρ1)=>if (ρ1:List Sl).all ao1=true then (iniD r ρ1).map fun p=>((f,.fr l)::p.1,p.2) else none
  | _=>none
def TSi(K:Fg9)(C:Addr)(fms:List (Str×M Rv)):TS:=fun D σ H=>∃tg F ρ a dx rs0 fvs0 A0 rs ρ',Good K tg F H ρ σ/\σ[0]? = some (some (.ref a))/\H a=some (.ins C dx fvs0)/\F a=none/\FdR K F H (Own ρ σ) rs0 fvs0 A0/\fvs0.length+fms.length < 1000 /\
 (∀f∈fms.map (·.1),fvs0.lookup f=none)/\(fms.map (·.1)).Nodup/\iniD fms ρ=some (rs,ρ') /\
 ∀H' F' fvs A,Good K tg F' H' ρ' σ->H' a=some (.ins C dx fvs)->F' a=none->FdR K F' H' (Own ρ' σ) (rs0++rs) fvs A->Ext (Oa ρ σ a A0) (Oa ρ' σ a A) F H F' H'->D.nx σ H'
structure SI (K:Fg9) (X:Cx) (C:Addr) (ss:List Stmt) (fms:List (Str×M Rv)):Prop where
 go:X.K=K->PSs X ss (TSi K C fms)
theorem ax6{C:Addr}:SI K X C [] []:=SI.mk fun _=>PSs.imp aok fun D σ H hq0=>by
 obtain⟨tg,F,ρ,a,dx,rs0,fvs0,A0,rs,ρ',G,h0,h1,h2,h3,h4,h5,h6,em,q⟩:=hq0;cases em;exact q H F fvs0 A0 G h1 h2 (by rw[List.append_nil];exact h3) (Ext.refl _ _ _)
theorem Ext.oa{ρ1:Ro}{a:Addr}{A A1:List Addr}{o:HO}(x:Ext (Own ρ σ) (Own ρ1 σ) F H F1 H1)(hA:∀z∈A1,z∈A∨Own ρ σ z∨H z=none):Ext (Oa ρ σ a A) (Oa ρ1 σ a A1) F H F1 (L2.upd H1 a o) where
 sub:=x.sub
 new:=fun z u e=>(x.new z u e).imp id fun h=>h.imp id .inl
 keep:=fun z u e n=>by
  have hz:z≠a:=fun q=>n (.inr (.inl q))
  rw[cu hz];exact x.keep z u e fun q=>n (.inl q)
 own:=fun z h=>by
  rcases h with h | h | h
  ·exact(x.own z h).imp .inl id
  ·exact .inl (.inr (.inl h))
  ·rcases hA z h with q | q | q
   ·exact .inl (.inr (.inr q))
   ·exact .inl (.inl q)
   ·exact .inr q
 there:=fun z h=>by
  by_cases hz:z=a
  ·subst hz;rw[ir] at h;cases h
  ·rw[cu hz] at h;exact x.there z h
theorem aeq{C:Addr}{o e:Expr}{f:Str}{p2 pos:Pos}{m:M Rv}{ss:List Stmt}{fms:List (Str×M Rv)}(hcl:Cls K C)(hna:ab0 K C f)(hv:ER K X e m)(ho:PE X o (tVar 0))(t:SI K X C ss fms)(hs:swapsWith e (some (.Attribute o f p2)) pos.line X.env=pure false:=by rfl) :
  SI K X C (.Assign [.Attribute o f p2] e pos::ss) ((f,m)::fms):=SI.mk fun hk=>by
 subst hk;refine PSs.imp (ag4 (aym ho (hv.go rfl) hs) (t.go rfl)) fun D σ H ⟨tg,F,ρ,a,dx,rs0,fvs0,A0,rs,ρ',G,h0,h1,h2,h3,h4,h5,h6,em,q⟩ =>?_
 have hlk:fvs0.lookup f=none:=h5 f (List.mem_cons_self ..);rw[List.map_cons,List.nodup_cons] at h6;have h5':∀(y:V),∀g∈fms.map (·.1),(fvs0++[(f,y)]).lookup g=none:=fun y g hg=>by
  rw[zj,h5 g (List.mem_cons_of_mem _ hg)];have e:g≠f:=fun z=>h6.1 (z▸hg)
  have hb:(g==f)=false:=beq_eq_false_iff_ne.mpr e;simp[List.lookup,hb]
 have h4':∀y:V,(fvs0++[(f,y)]).length+fms.length < 1000:=fun y=>by
  rw[List.length_append];rw[List.length_cons] at h4;simp;omega
 have stay:∀{ρ1:Ro} {F1 H1:Hp},Ext (Own ρ σ) (Own ρ1 σ) F H F1 H1->H1 a=some (.ins C dx fvs0)/\F1 a=none/\¬Own ρ1 σ a:=fun{ρ1 F1 H1} x=>by
  have no:¬Own ρ σ a:=fun z=>by
   obtain⟨_,vs,hv⟩:=G.ownAt z;rw[h1] at hv;cases hv
  refine⟨x.keep a _ h1 no,?_,fun z =>?_⟩
  ·cases z:F1 a with
   | none=>rfl
   | some u =>
    rcases x.new a u z with z | z | z
    ·rw[h2] at z;cases z
    ·rw[h1] at z;cases z
    ·exact absurd z no
  ·rcases x.own a z with z | z
   ·exact no z
   ·rw[h1] at z;cases z
 have hA0:a∉A0:=fun z=>by
  obtain⟨_,_,ws,hw,_⟩:=h3.out a z;rw[h1] at hw;cases hw
 unfold iniD at em;split at em
 ·rename_i d ρ1 e1;split at em
  ·rename_i hb;obtain⟨⟨rs1,ρ2⟩,e2,e3⟩:=Option.map_eq_some_iff.mp em;cases e3;refine⟨tg,F,ρ,.v d,ρ1,G,e1,fun y H1 F1 G1 x1 rr=>⟨_,h0,a,C,dx,fvs0,rfl,(stay x1).1,hcl,hna,by omega,?_⟩⟩
   obtain⟨s1,s2,s3⟩:=stay x1;have rr:Is X.K F1 d y:=rr;rw[ag2 hlk];refine⟨tg,F1,ρ1,a,dx,rs0++[(f,.v d)],fvs0++[(f,y)],A0,rs1,ρ2,G1.updN hb s2 s3 _,h0,ir,s2,((h3.step x1).snocV rr).upd hA0,h4' y,h5' y,h6.2,e2,fun H' F' fvs A G' g1 g2 g3 g4=>q H' F' fvs A G' g1 g2 (by rw[List.append_assoc] at g3;exact g3) ((Ext.oa (o:=.ins C dx (fvs0++[(f,y)])) x1 fun z hz=>.inl hz).trans g4)⟩
  ·cases em
 ·rename_i l ρ1 e1;split at em
  ·rename_i hb;obtain⟨⟨rs1,ρ2⟩,e2,e3⟩:=Option.map_eq_some_iff.mp em;cases e3;refine⟨tg,F,ρ,.fr l,ρ1,G,e1,fun y H1 F1 G1 x1 rr=>⟨_,h0,a,C,dx,fvs0,rfl,(stay x1).1,hcl,hna,by omega,?_⟩⟩
   obtain⟨s1,s2,s3⟩:=stay x1;obtain⟨b,ws,rfl,hb1,hb2,hb3,hb4,hb5⟩:=rr;have hbA:b∉A0:=fun z=>by
    obtain⟨o1,_,ws',hw,_⟩:=h3.out b z;rcases hb1 with q | q
    ·rw[hw] at q;cases q
    ·exact o1 q
   have hba:a≠b:=fun z=>by
    subst z;rw[s1] at hb3;cases hb3
   rw[ag2 hlk];refine⟨tg,F1,ρ1,a,dx,rs0++[(f,.fr l)],fvs0++[(f,.ref b)],A0++[b],rs1,ρ2,G1.updN hb s2 s3 _,h0,ir,s2,((h3.step x1).snocF hb2 hb5 hb3 hb4 hbA).upd (fun z=>by
    rcases List.mem_append.mp z with z | z
    ·exact hA0 z
    ·rw[List.mem_singleton] at z;exact hba z),h4' _,h5' _,h6.2,e2,fun H' F' fvs A G' g1 g2 g3 g4=>q H' F' fvs A G' g1 g2 (by rw[List.append_assoc] at g3;exact g3) ((Ext.oa (o:=.ins C dx (fvs0++[(f,.ref b)])) x1 fun z hz =>?_).trans g4)⟩
   rcases List.mem_append.mp hz with q | q
   ·exact .inl q
   ·rw[List.mem_singleton] at q;subst q;exact .inr hb1.symm
  ·cases em
 ·cases em
end
def amf(K:Fg9)(n nl:Nat)(fms:List (Str×M Rv))(C:Addr):Sp:=fun vs H Q _=>vs.length=n/\∃a dx F as rs ρ',vs[0]? = some (.ref a)/\H a=some (.ins C dx [])/\F a=none/\Good K (tgOf (vs.map some)) F H as (vs.map some)/\iniD fms (as++List.replicate (nl - n) .emp)=some (rs,ρ') /\
 ∀H' F' fvs A O',Same F' H'->H' a=some (.ins C dx fvs)->F' a=none->FdR K F' H' O' rs fvs A->Ext (fun z=>Own as (vs.map some) z∨z=a) (fun z=>O' z∨z=a∨z∈A) F H F' H'->Fin K F' H' (vs.map some) (ρ'.take n) O'->Q .non H'
theorem a0c{K:Fg9}{P:Program}{w:World}{mg:Str->Option Value}{base:Heap}{x qual:Str}{st:Stmt}{f:Addr}{fd:FuncData}{N ps:List Str}{k nl np:Nat}{fms:List (Str×M Rv)}{C:Addr}(F:Fun K x qual st f fd)(S:FnScope N ps (aj st))(h1:N.length=nl)(h2:ps.length=np)
  (hnd:(fms.map (·.1)).Nodup) (hsz:fms.length < 1000)
  (body:∀(cdv:Value) (A:Around) (outer:List Env) (s:Shared) (H:Hp) (E:XK),Room k (A.deeper (envOfC qual (aj st) s.heap.objs.size f cdv))->SI K (cxOf CX0 P w K mg base N qual (aj st) f cdv A outer s H E).nox C (cz st) fms) :
  FnOk P w K mg base CX0 (k+1) f fd ps (amf K np nl fms C):=by
 subst h1 h2;refine F.ok S (fun vs H Q E h=>h.1) (fun cdv A outer s H vs Q E hr h=>⟨_,(body cdv A outer s H E hr).go rfl,?_⟩)
 obtain⟨hn,a,dx,F,as,rs,ρ',h0,hH,hF,G,em,q⟩:=h;have hl:as.length=(vs.map some).length:=G.len;have G1:=G.app (N.length - vs.length);rw[<-hn] at em;have hs0:(L2.start N vs)[0]? = some (some (.ref a)):=by
  unfold L2.start;have hlt:0 < vs.length:=(List.getElem?_eq_some_iff.mp h0).1;rw[List.getElem?_append_left (by rw[List.length_map];exact hlt),List.getElem?_map,h0]
  rfl
 refine⟨_,F,_,a,dx,[],[],[],rs,ρ',G1,hs0,hH,hF,.nil,by simpa using hsz,fun _ _=>rfl,hnd,em,fun H' F' fvs A' G' g1 g2 g3 g4 =>?_⟩
 refine q H' F' fvs A' (Own ρ' (L2.start N vs)) G'.sub g1 g2 g3 ?_ ⟨fun i l e =>?_⟩
 ·have e:Oa (as++List.replicate (N.length - vs.length) .emp) (L2.start N vs) a []=fun z=>Own as (vs.map some) z∨z=a:=by
   funext z
   unfold Oa L2.start;rw[zg hl];simp
  rw[e] at g4;exact g4
 ·have hi:=(List.getElem?_eq_some_iff.mp e).1;rw[List.length_take] at hi;rw[List.getElem?_take_of_lt (by omega)] at e
  obtain⟨o,ho,b,ws,rfl,hf,hh,hl,ht⟩:=G'.at e;rw[ht i rfl];exact⟨⟨i,⟨_,_,e⟩,ho⟩,hf,ws,hh,hl⟩
def tagB:Sl->Bool
 | .own (some k) _=>decide (k < 1000)
 | .box _ _=>false
 | _=>true
section
variable{K:Fg9}{X:Cx}{tg tg1:Nat->Addr}{F H F1 H1:Hp}{ρ:Ro}{σ:L2.St}
theorem Good.retag(G:Good K tg F H ρ σ)(hb:(ρ:List Sl).all tagB=true)(h:∀k,k < 1000->tg k=tg1 k):Good K tg1 F H ρ σ where
 sub:=G.sub
 len:=G.len
 inj:=G.inj
 sl:=fun i s o e q=>by
  have z:=G.sl i s o e q;have t:=List.all_eq_true.mp hb _ (List.mem_of_getElem? e);cases s with
  | emp=>trivial
  | val _=>exact z
  | box c fs=>cases t
  | own t' l =>
   obtain⟨a,vs,e1,f,e2,h',ht⟩:=z;refine⟨a,vs,e1,f,e2,h',fun k ek =>?_⟩
   subst ek;have t:decide (k < 1000)=true:=t;rw[<-h k (of_decide_eq_true t)];exact ht k rfl
def offs(ρ:Ro):List Nat->Ro
 | []=>ρ
 | j::js=>offs (List.set ρ j .emp) js
theorem Good.offs(G:Good K tg F H ρ σ):∀{js:List Nat},Good K tg F H (Dn.offs ρ js) σ/\∀z,Own (Dn.offs ρ js) σ z->Own ρ σ z:=fun{js}=>by
 induction js generalizing ρ with
 | nil=>exact⟨G,fun _ h=>h⟩
 | cons j js ih =>
  obtain⟨g,h⟩:=ih (G.drop j);exact⟨g,fun z hz=>(acl (h z hz)).1⟩
def setG:List (Str×Rv)->List Nat->Nat->Ro->Option Ro
 | [],[],_,ρ=>some ρ
 | (_,.v _)::r,gs,n,ρ=>setG r gs n ρ
 | (_,.fr l)::r,j::gs,n,ρ=>setG r gs (n+1) (List.set ρ j (.own (some (1000+n)) l))
 | _,_,_,_=>none
def mkFs:List (Str×Rv)->Nat->List (Str×(Nat ⊕ D))
 | [],_=>[]
 | (f,.v d)::r,n=>(f,.inr d)::mkFs r n
 | (f,.fr _)::r,n=>(f,.inl (1000+n))::mkFs r (n+1)
 | (f,.tf _ _)::r,n=>(f,.inl 0)::mkFs r n
theorem au7{O:Addr->Prop}{rs:List (Str×Rv)}{fvs:List (Str×V)}{A:List Addr}(h:FdR K F H O rs fvs A):∀{gs:List Nat} {n:Nat} {ρ ρ':Ro} {σ:L2.St},Good K tg1 F H ρ σ->(∀e∈A,¬Own ρ σ e)->(∀(m:Nat) (e:Addr),A[m]? = some e->tg1 (1000+(n+m))=e)->setG rs gs n ρ=some ρ' ->
  ∃σ',Good K tg1 F H ρ' σ'/\(∀j,j∉gs->σ'[j]? = σ[j]?)/\σ'.length=σ.length/\∀z,Own ρ' σ' z->Own ρ σ z∨z∈A:=by
 induction h with
 | nil =>
  intro gs n ρ ρ' σ G hA ht em;cases gs with
  | nil=>cases em;exact⟨σ,G,fun _ _=>rfl,rfl,fun _ h=>.inl h⟩
  | cons _ _=>cases em
 | v h t ih=>exact fun{gs n ρ ρ' σ} G hA ht em=>ih G hA ht em
 | @fr f l e ws rs fvs A hf hn hh h ne t ih =>
  intro gs n ρ ρ' σ G hA ht em;cases gs with
  | nil=>cases em
  | cons j gs =>
   have em:setG rs gs (n+1) (List.set ρ j (.own (some (1000+n)) l))=some ρ':=em;have hne:=hA e (List.mem_cons_self ..);have hte:tg1 (1000+n)=e:=ht 0 e rfl;have G1:=G.put (s:=.own (some (1000+n)) l) (v:=.ref e) j ⟨e,ws,rfl,hf,hh,h,fun k ek=>by cases ek;exact hte⟩ (fun t l' a _ ea=>by cases ea;exact hne)
   obtain⟨σ',g1,g2,g3,g4⟩:=ih G1 (fun e' he' w=>by
    rcases ade G.len w with w | ⟨_,w⟩
    ·exact hA e' (List.mem_cons_of_mem _ he') w
    ·cases w;exact ne he') (fun m e' he'=>by
    have:=ht (m+1) e' (by simpa using he')
    rw[show n+1+m=n+(m+1) by omega]
    exact this) em
   refine⟨σ',g1,fun k hk =>?_,by rw[g3,List.length_set],fun z hz =>?_⟩
   ·rw[g2 k (fun q=>hk (List.mem_cons_of_mem _ q)),List.getElem?_set,if_neg (fun q:j=k=>hk (q▸List.mem_cons_self ..))]
   ·rcases g4 z hz with w | w
    ·rcases ade G.len w with w | ⟨_,w⟩
     ·exact .inl w
     ·cases w;exact .inr (List.mem_cons_self ..)
    ·exact .inr (List.mem_cons_of_mem _ w)
theorem av8{O:Addr->Prop}{rs:List (Str×Rv)}{fvs:List (Str×V)}{A:List Addr}(h:FdR K F H O rs fvs A):∀{n:Nat},(∀(m:Nat) (e:Addr),A[m]? = some e->tg1 (1000+(n+m))=e) ->
  (∀f,(mkFs rs n).lookup f=none->fvs.lookup f=none)/\(∀f k,(mkFs rs n).lookup f=some (.inl k)->fvs.lookup f=some (.ref (tg1 k)))/\∀f d,(mkFs rs n).lookup f=some (.inr d)->∃v,fvs.lookup f=some v/\Is K F d v:=by
 induction h with
 | nil =>
  intro n _;refine⟨fun _ _=>rfl,fun _ _ h =>?_,fun _ _ h =>?_⟩
  ·cases h
  ·cases h
 | @v g d v rs fvs A h t ih =>
  intro n ht;obtain⟨i1,i2,i3⟩:=ih (n:=n) ht;refine⟨fun f hf =>?_,fun f k hf =>?_,fun f d' hf =>?_⟩
  all_goals (unfold mkFs at hf;by_cases e:f=g)
  ·subst e;rw[List.lookup_cons_self] at hf;cases hf
  ·have hb:(f==g)=false:=beq_eq_false_iff_ne.mpr e;simp only[List.lookup,hb] at hf ⊢
   exact i1 f hf
  ·subst e;rw[List.lookup_cons_self] at hf;cases hf
  ·have hb:(f==g)=false:=beq_eq_false_iff_ne.mpr e;simp only[List.lookup,hb] at hf ⊢
   exact i2 f k hf
  ·subst e;rw[List.lookup_cons_self] at hf ⊢
   cases hf;exact⟨v,rfl,h⟩
  ·have hb:(f==g)=false:=beq_eq_false_iff_ne.mpr e;simp only[List.lookup,hb] at hf ⊢
   exact i3 f d' hf
 | @fr g l e0 ws rs fvs A hf0 hn hh h ne t ih =>
  intro n ht;have hte:tg1 (1000+n)=e0:=ht 0 e0 rfl;obtain⟨i1,i2,i3⟩:=ih (n:=n+1) (fun m e' he'=>by
   have:=ht (m+1) e' (by simpa using he')
   rw[show n+1+m=n+(m+1) by omega]
   exact this)
  refine⟨fun f hf =>?_,fun f k hf =>?_,fun f d' hf =>?_⟩
  all_goals (unfold mkFs at hf;by_cases e:f=g)
  ·subst e;rw[List.lookup_cons_self] at hf;cases hf
  ·have hb:(f==g)=false:=beq_eq_false_iff_ne.mpr e;simp only[List.lookup,hb] at hf ⊢
   exact i1 f hf
  ·subst e;rw[List.lookup_cons_self] at hf ⊢
   cases hf;rw[hte]
  ·have hb:(f==g)=false:=beq_eq_false_iff_ne.mpr e;simp only[List.lookup,hb] at hf ⊢
   exact i2 f k hf
  ·subst e;rw[List.lookup_cons_self] at hf;cases hf
  ·have hb:(f==g)=false:=beq_eq_false_iff_ne.mpr e;simp only[List.lookup,hb] at hf ⊢
   exact i3 f d' hf
end
structure DfnI (P:Program) (w:World) (K:Fg9) (mg:Str->Option Value) (base:Heap) (c:Str) (ps:List Str) (k:Nat) (sp:Addr->Sp):Prop where
 ex:∃C f fd,nsIn K mainGlobals c=some (some (.ref C))/\mg c=some (.ref C)/\Mk K C f/\FnOk P w K mg base CX0 k f fd ps (sp C)/\Binds K fd ps []
def dNew(c:Str)(i:Nat)(gs:List Nat)(n nl:Nat)(fms:List (Str×M Rv))(js:List (Option Nat))(ms:M (List (Option D)))(k:Sd):Sd:=dM ms fun ds ρ =>
 if okJs ρ (none::js)=true then match iniD fms (lend ρ (none::js) (none::ds)++List.replicate (nl - n) .emp) with
  | some (rs,ρc)=>if (putB ρ (none::js) (ρc.take n):List Sl).all tagB=true/\gs.contains i=false then match setG rs gs 0 (List.set (putB ρ (none::js) (ρc.take n)) i (.box c (mkFs rs 0))) with
   | some ρ3=>match k ρ3 with
    | some (fl,ρ4)=>if (offs ρ4 (i::gs):List Sl).all tagB=true then some (fl,offs ρ4 (i::gs)) else none
    | none=>none
   | none=>none
   else none
  | none=>none
 else none
theorem Fin.mono{K:Fg9}{F' H':Hp}{τ:L2.St}{ps:Ro}{O O':Addr->Prop}(h:Fin K F' H' τ ps O)(w:∀z,O z->O' z):Fin K F' H' τ ps O':=⟨fun i l e=>let ⟨a,b,c⟩:=h.at' i l e;⟨w _ a,b,c⟩⟩
theorem Ext.imp{O O1 O2:Addr->Prop}{F H F1 H1:Hp}(x:Ext O O1 F H F1 H1)(w:∀z,O2 z->O1 z):Ext O O2 F H F1 H1:=⟨x.sub,x.new,x.keep,fun z h=>x.own z (w z h),x.there⟩
theorem arn{K:Fg9}{r:Rv}{v:V}{H:Hp}{O:Addr->Prop}{F' H':Hp}{O1 O2:Addr->Prop}(w:∀z,O2 z->O1 z)(h:relR K r v H O F' H' O1):relR K r v H O F' H' O2:=by
 cases r with
 | v d=>exact h
 | fr l =>
  obtain⟨a,vs,e,h1,h2,h3,h4,h5⟩:=h;exact⟨a,vs,e,h1,h2,h3,h4,fun z=>h5 (w _ z)⟩
 | tf d l =>
  obtain⟨t,u,a,vs,e,h1,h2,h3,h4,h5,h6,h7⟩:=h;exact⟨t,u,a,vs,e,h1,h2,h3,h4,h5,h6,fun z=>h7 (w _ z)⟩
theorem FlOk.off{K:Fg9}{tg tg1:Nat->Addr}{ρ ρ4:Ro}{σ:L2.St}{F H:Hp}{E:Ends}{fl:Fl}{js:List Nat}(ht:∀k,k < 1000->tg1 k=tg k)(hb:(offs ρ4 js:List Sl).all tagB=true)(q:FlOk K tg ρ σ F H E fl (offs ρ4 js)):FlOk K tg1 ρ σ F H E fl ρ4:=by
 have go:∀{σ':L2.St} {H' F':Hp},Good K tg1 F' H' ρ4 σ'->Good K tg F' H' (offs ρ4 js) σ'/\∀z,Own (offs ρ4 js) σ' z->Own ρ4 σ' z:=fun G=>by
  obtain⟨g,h⟩:=G.offs (js:=js);exact⟨g.retag hb ht,h⟩
 cases fl with
 | nx=>exact fun σ' H' F' G' x'=>let ⟨g,h⟩:=go G';q σ' H' F' g (x'.imp h)
 | brk=>exact fun σ' H' F' G' x'=>let ⟨g,h⟩:=go G';q σ' H' F' g (x'.imp h)
 | cont=>exact fun σ' H' F' G' x'=>let ⟨g,h⟩:=go G';q σ' H' F' g (x'.imp h)
 | ret r=>exact fun v σ' H' F' G' x' rr=>let ⟨g,h⟩:=go G';q v σ' H' F' g (x'.imp h) (arn h rr)
 | exc _=>exact q
theorem auy{K:Fg9}{X:Cx}{e:Expr}{es:List Expr}{ss:List Stmt}{p p2 pos pos2:Pos}{x c:Str}{i kk n nl:Nat}{gs:List Nat}{fms:List (Str×M Rv)}{ps:List Str}{js:List (Option Nat)}{ms:M (List (Option D))}{k:Sd}
  (D:DfnI X.prog X.w X.K X.mg X.base c ps kk (amf K n nl fms)) (hr:Room (kk+1) X.A) (hgl:Gl X c) (hN:X.N.Nodup) (hi:X.N[i]? = some x) (hx:Loc X.env.scope x) (ha:EG K X (e::es) js ms) (t:SVs K X ss k)
  (hgh:∀j∈gs,∀y,X.N[j]? = some y->¬Vis X.env.scope y) (hn:1+js.length=n:=by rfl)
  (hdb:(c==("__debug__" : Str))=false:=by decide) (he:starEach (e::es) X.env=(false,eval e X.env)::starEach es X.env:=by rfl) (hpl:(backTo pos (starEach es X.env)).any (·.1)=false:=by rfl)
  (hs:swapsWith (.Call (.Name c p2) (e::es) [] pos) (some (.Name x p)) pos2.line X.env=pure false:=by rfl) (hf:X.fn x=true∨X.env.scope.names.lookup x=some .local:=by first | exact .inl rfl | exact .inr rfl | assumption) :
  SVs K X (.Assign [.Name x p] (.Call (.Name c p2) (e::es) [] pos) pos2::ss) (dNew c i gs n nl fms js ms k):=SVs.mk fun hk=>by
 obtain⟨C,fa,fd,hC,hmg,hM,hF,hB⟩:=D.ex;subst hk;refine PSs.imp (ag4 (atu hN hi hx (avn hM hF hr hgl hmg hB .nil avt (ha rfl) hdb he hpl) hs hf) (atr (t rfl))) fun E σ H ⟨tg,F,ρ,fl,ρ',G,em,q⟩=>kj em q fun ds ρ1 e1 em =>?_
 refine⟨tg,F,ρ,ds,ρ1,G,e1,fun vs H1 F1 G1 x1 ar x0 dx hx0 hdx hne =>?_⟩
 split at em
 ·rename_i hj;split at em
  ·rename_i rs ρc e2;split at em
   ·rename_i hz;obtain⟨hb,hgi⟩:=hz;split at em
    ·rename_i ρ3 e3;split at em
     ·rename_i fl' ρ4 e4;split at em
      ·rename_i hb4;cases em;have vl:=ar.length;have L:Lent X.K F1 σ ((V.ref x0::vs).map some) (none::js) (none::ds):=by
        have:=ao8 (a:=x0) (gs:=[]) (gv:=[]) ar rfl (fun n j v h=>by simp at h)
        simpa using this
       have hx1:(upd H1 dx (.own x0)) x0=none:=by rw[cu (Ne.symm hne)];exact hx0
       have G2:=(G1.fresh hdx (.own x0)).fresh hx1 (.ins C dx []);have Gl:=acu G2 hj L;show amf X.K n nl fms C (V.ref x0::(vs++[])) _ _ E0;rw[List.append_nil];refine⟨by rw[List.length_cons,vl];omega,x0,dx,F1,_,rs,ρc,rfl,ir,G1.freeF hx0,Gl,e2,fun H' F' fvs A O' s' g1 g2 g3 g4 fin=>⟨rfl,?_⟩⟩
       have y:Ext (Own (lend ρ1 (none::js) (none::ds)) ((V.ref x0::vs).map some)) (fun z=>O' z∨z=x0∨z∈A) F1 H1 F' H':=by
        have up:∀z o,H1 z=some o->(upd (upd H1 dx (.own x0)) x0 (.ins C dx [])) z=some o:=fun z o hz=>by
         rw[cu (gr hz hx0),cu (gr hz hdx)];exact hz
        have dn:∀z,(upd (upd H1 dx (.own x0)) x0 (.ins C dx [])) z=none->H1 z=none:=fun z hz=>by
         cases q:H1 z with
         | none=>rfl
         | some o=>rw[up z o q] at hz;cases hz
        refine⟨g4.sub,fun z o hz =>?_,fun z o hz nz =>?_,fun z hz =>?_,fun z hz=>dn z (g4.there z hz)⟩
        ·rcases g4.new z o hz with w | w | w | w
         ·exact .inl w
         ·exact .inr (.inl (dn z w))
         ·exact .inr (.inr w)
         ·subst w;rw[g2] at hz;cases hz
        ·exact g4.keep z o (up z o hz) fun w=>w.elim nz fun w=>by subst w;rw[hx0] at hz;cases hz
        ·rcases g4.own z hz with(w | w) | w
         ·exact .inl w
         ·subst w;exact .inr hx0
         ·exact .inr (dn z w)
       have fin':=fin.mono (O':=fun z=>O' z∨z=x0∨z∈A) fun z hz=>.inl hz
       have Gb:=ac5 G1 L y s' fin';have xb:=aeg (ps:=ρc.take n) G1 L y;have hA:∀z∈A,¬Own (putB ρ1 (none::js) (ρc.take n)) σ z/\(Own ρ1 σ z∨H1 z=none):=fun z hz=>by
        obtain⟨o1,o2,ws,o3,l,o4⟩:=g3.out z hz;have w:=y.own z (.inr (.inr hz));have rr:relR X.K (.fr l) (.ref z) H1 (Own (lend ρ1 (none::js) (none::ds)) ((V.ref x0::vs).map some)) F' H' O':=⟨z,ws,rfl,w.symm,o2,o3,o4,o1⟩;obtain⟨a,vs',e',h1,h2,h3,h4,h5⟩:=aht (ps:=ρc.take n) G1 L fin rr;cases e';exact⟨h5,h1.symm⟩
       have hx9:¬Own (putB ρ1 (none::js) (ρc.take n)) σ x0:=fun z=>by
        obtain⟨j,z⟩:=z;obtain⟨_,ws,hw⟩:=G1.ownAt ⟨j,abn z⟩;rw[hx0] at hw;cases hw
       have htg:∀m',m' < 1000->tg m'=(fun m=>if m < 1000 then tg m else A.getD (m - 1000) 0) m':=fun m' hm=>by simp[hm]
       have hnm:∀(m:Nat) (e':Addr),A[m]? = some e'->(fun m=>if m < 1000 then tg m else A.getD (m - 1000) 0) (1000+(0+m))=e':=fun m e' he'=>by
        show(if 1000+(0+m) < 1000 then tg (1000+(0+m)) else A.getD (1000+(0+m) - 1000) 0)=e'
        rw[if_neg (by omega),show 1000+(0+m) - 1000=m by omega,List.getD_eq_getElem?_getD,he']
        rfl
       have Gt:=Gb.retag (tg1:=fun m=>if m < 1000 then tg m else A.getD (m - 1000) 0) hb htg
       obtain⟨k1,k2,k3⟩:=av8 (tg1:=fun m=>if m < 1000 then tg m else A.getD (m - 1000) 0) (n:=0) g3 hnm
       have Gi:=Gt.put (s:=.box c (mkFs rs 0)) (v:=.ref x0) i ⟨x0,C,dx,fvs,rfl,g2,g1,hC,k1,k2,k3⟩ (fun t l a z=>by cases z)
       have ob:∀z,Own (List.set (putB ρ1 (none::js) (ρc.take n)) i (.box c (mkFs rs 0))) (List.set σ i (some (V.ref x0))) z->Own (putB ρ1 (none::js) (ρc.take n)) σ z:=fun z hz=>by
        rcases ade Gb.len hz with w | ⟨⟨t,l,w⟩,_⟩
        ·exact w
        ·cases w
       obtain⟨σ2,Gf,s1,s2,s3⟩:=au7 (n:=0) g3 Gi (fun z hz w=>(hA z hz).1 (ob z w)) hnm e3
       refine⟨σ2,⟨s2,fun j yy v hj' hv vis =>?_⟩,_,F',ρ3,fl,ρ4,Gf,e4,?_⟩
       ·by_cases hg:j∈gs
        ·exact absurd vis (hgh j hg yy hj')
        ·rw[<-s1 j hg];exact hv
       ·have xx:=x1.trans xb;refine FlOk.off (fun m hm=>(htg m hm).symm) hb4 (FlOk.back ⟨xx.sub,xx.new,xx.keep,fun z hz =>?_,xx.there⟩ q)
        rcases s3 z hz with w | w
        ·exact xx.own z (ob z w)
        ·rcases(hA z w).2 with w | w
         ·exact x1.own z w
         ·exact .inr (x1.there z w)
      ·cases em
     ·cases em
    ·cases em
   ·cases em
  ·cases em
 ·cases em
def aue(s:Stmt)(n:Nat):Stmt:=match s with
 | .ClassDef _ _ _ b _ _ _ _ _ _ _=>b.getD n s
 | _=>s
def boxB(K:Fg9)(C:Addr)(fs:List Str):Bool:=PySem.W.plainGet K C Str.empty&&PySem.W.hasDictIn K C&&PySem.W.plainOver K C&&(findIn K (.ref C) "__setattr__" == some (some (.builtin "object.__setattr__")))&&PySem.W.makesIn K C&&keepIn K (.ref C)&&fs.all fun f=>findIn K (.ref C) f==some none
section
variable{K:Fg9}{C:Addr}{fs:List Str}{c f m:Str}
theorem ahr(e:boxB K C fs=true):Cls K C/\PySem.W.makesIn K C=true/\keepIn K (.ref C)=true/\∀f∈fs,ab0 K C f:=by
 unfold boxB at e;simp only[Bool.and_eq_true,beq_iff_eq,List.all_eq_true] at e;obtain⟨⟨⟨⟨⟨⟨a,b⟩,c⟩,d⟩,g⟩,h⟩,i⟩:=e;exact⟨⟨a,b,c,d⟩,g,h,fun f hf=>i f hf⟩
theorem afj(a:nsIn K mainGlobals c=some (some (.ref C)))(e:boxB K C fs=true)(h:fs.contains f=true):FldT K c f:=fun C' h'=>by
 rw[a] at h';cases h';obtain⟨x,_,_,y⟩:=ahr e;exact⟨x,y f (List.contains_iff_mem.mp h)⟩
theorem aw7{P:Program}{w:World}{mg:Str->Option Value}{base:Heap}{fa:Addr}{fd:FuncData}{ps:List Str}{k:Nat}{sp:Sp}(a:nsIn K mainGlobals c=some (some (.ref C)))(e:boxB K C fs=true)(b:findIn K (.ref C) m=some (some (.ref fa)))(h1:PySem.W.isFn K (.ref fa)=true)(h2:keepIn K (.ref fa)=true)
  (F:FnOk P w K mg base CX0 k fa fd ps sp) (B:Binds K fd ps []):DfnM P w K mg base c m ps k sp:=⟨C,fa,fd,a,(ahr e).1,⟨b,h1,h2⟩,F,B⟩
theorem aw8{P:Program}{w:World}{mg:Str->Option Value}{base:Heap}{fa:Addr}{fd:FuncData}{ps:List Str}{k:Nat}{sp:Addr->Sp}(a:nsIn K mainGlobals c=some (some (.ref C)))(g:mg c=some (.ref C))(e:boxB K C fs=true)(b:findIn K (.ref C) "__init__" = some (some (.ref fa)))(h1:PySem.W.isFn K (.ref fa)=true)
  (F:FnOk P w K mg base CX0 k fa fd ps (sp C)) (B:Binds K fd ps []):DfnI P w K mg base c ps k sp:=⟨C,fa,fd,a,g,⟨(ahr e).2.1,b,h1,(ahr e).2.2.1⟩,F,B⟩
end
def ghB(N:List Str)(gs:List Nat)(sc:Scope):Bool:=gs.all fun j=>match N[j]? with
 | some y=>(sc.names.lookup y).isNone
 | none=>true
theorem a4n{N:List Str}{gs:List Nat}{sc:Scope}(h:ghB N gs sc=true):∀j∈gs,∀y,N[j]? = some y->¬Vis sc y:=fun j hj y hy v=>by
 have z:=List.all_eq_true.mp h j hj;rw[hy] at z;have z:sc.names.lookup y=none:=Option.isNone_iff_eq_none.mp z;rcases v with v | v | v <;> (rw[z] at v;cases v)
def noTf:Rv->Bool
 | .tf _ _=>false
 | _=>true
def a5k(i j:Nat)(m1 m2:M Rv):Sd:=dM m1 fun r1=>dM m2 fun r2 ρ=>if noTf r1=true/\noTf r2=true then some (.nx,List.set (List.set ρ i r1.sl) j r2.sl) else none
section
variable{K:Fg9}{X:Cx}{tg:Nat->Addr}{F H F1 H1 F2 H2:Hp}{ρ ρ1 ρ2:Ro}{σ:L2.St}{e a b:Expr}{pos:Pos}
end
@[simp] theorem a1z(i j:Nat)(m1 m2:M Rv)(ρ:Ro):a5k i j m1 m2 ρ=dM m1 (fun r1=>dM m2 fun r2 ρ=>if noTf r1=true/\noTf r2=true then some (.nx,List.set (List.set ρ i r1.sl) j r2.sl) else none) ρ:=rfl
end Dn
namespace Mn
open L2
section
variable{X:Cx}
theorem aqj(hc:X.calm=true):yp X (.builtin "any") (fun xs H Q=>∃(p:Addr) (ns:List Int),xs=[.ref p]/\SqL X.K H p (ns.map V.int)/\Q (.bl ((ns.map fun n=>n != 0).any id)) H):=by
 intro zv s σ H xs us Q I r h;obtain⟨p,ns,rfl,hq,q⟩:=h;obtain⟨u,rfl,ru⟩:=vals1 r;cases ru;obtain⟨its,rv,pl,hz⟩:=I.list hq;have hl:=pl.isList;have hlen:=rv.length;rw[List.length_map] at hlen;have hlt:p < s.heap.objs.size:=by obtain⟨_,e,_⟩:=hl;exact Heap.lt_size e
 refine call_any_walk (wpAny_pyIter_list hl ?_);refine⟨s.heap.objs.size,[s.heap.objs.size,p],[s.heap.objs.size],its.toArray.size,_,_,fun i=>((ns.map fun n=>n != 0)[i]?).getD true,rfl,Walks.list (A:=X.A.in1) (I.ok.hd hc) _ p (Nat.ne_of_lt hlt) its.toArray,
  ⟨⟨_,Heap.get?_push_size _ rfl,rfl,rfl⟩,hl.push _⟩,fun i v s' Q' E' hP hQ =>?_,fun h' tk hk =>?_⟩
 ·have hi:its[i]? = some v:=by simpa using hP
  cases e:ns[i]? with
  | none =>
   have h1:ns.length<=i:=List.getElem?_eq_none_iff.mp e;have h2:i < its.length:=(List.getElem?_eq_some_iff.mp hi).1;omega
  | some b =>
   obtain⟨u,hu,ru⟩:=rv.get (i:=i) (x:=V.int b) (by rw[List.getElem?_map,e];rfl)
   rw[hi] at hu;cases hu;obtain⟨t,rfl⟩:∃t,v=Value.int b t:=ru
   simp only[List.getElem?_map,e,Option.map_some,Option.getD_some] at hQ;exact PySem.P.truthy_int hQ
 ·have e:((List.range its.toArray.size).any fun i=>((ns.map fun n=>n != 0)[i]?).getD true)=(ns.map fun n=>n != 0).any id:=by
   rw[List.size_toArray,<-hlen,show ns.length=(ns.map fun n=>n != 0).length by rw[List.length_map]]
   exact range_any _
  rw[e];exact⟨.bl _,H,I.kept (t':=tk) (LSm.kept_iter hk),rfl,q⟩
end
end Mn
namespace Dn
open L2 Mn
section
variable{K:Fg9}{X:Cx}
def awv:D->Option Rv
 | .lst l=>(u9 l).map fun ns=>.v (.bl ((ns.map fun n=>n != 0).any id))
 | _=>none
@[simp] theorem a0b(l:List D):awv (.lst l)=(u9 l).map fun ns=>.v (.bl ((ns.map fun n=>n != 0).any id)):=rfl
theorem axc(hc:X.calm=true):CallD K X (.builtin "any") (g1 awv):=aft fun hk zv s σ0 H x u Q tg F ρ σ d r I ru G bd eg q=>by
 subst hk;cases d with
 | lst l =>
  have eg:(u9 l).map (fun ns=>Rv.v (.bl ((ns.map fun n=>n != 0).any id)))=some r:=eg
  cases e:u9 l with
  | none=>rw[e] at eg;cases eg
  | some bs =>
   rw[e] at eg;cases eg;obtain⟨a,vs,rfl,ea,hl⟩:=bd.lst G.sub;rw[aee e] at hl;rw[hl.int_inv] at ea;exact aqj hc zv s σ0 H [.ref a] [u] Q I (.cons ru .nil) ⟨a,bs,rfl,SqL.of ea,Res.same G q (.bl _)⟩
 | _=>cases eg
end
end Dn
end
namespace Dn
open PySem L2
@[simp] abbrev gL9(d:D):Option Rv:=(itemsD d).map fun l=>.v (.int l.length)
@[simp] abbrev gT9(d:D):Option Rv:=(itemsD d).map fun l=>.v (.tup l)
end Dn
namespace My
open PySem L2 Mn Dn
def agj:Sd :=
 (dRet (M.v (mAnd (mIsi .int (gf 0)) (mUn gNot (mIsi .bool (gf 0))))))
def v4:Fd:=fnD 1 1 agj
def zy:Sd :=
 (dRet (M.v (mAnd (M.d (mFn v4 [some 0] (dg 0 jc))) (aiu (fun i j=>decide (i<=j)) (fun i j=>decide (i<=j)) (mVar 1) (mVar 0) (mVar 2)))))
def jr:Fd:=fnD 3 3 zy
def ou:Sd :=
 (dRet (M.v (mAnd (mIsi .tuple (gf 0)) (aiu (fun i j=>decide (i<=j)) (fun i j=>decide (i<=j)) (mVar 1) (M.d (dz (g1 gL9) (dw 0 mNil))) (mVar 2)))))
def dh:Fd:=fnD 3 3 ou
def akq:M D :=
 (M.d (mOp (gIn false) (cj 0 (gf 1))))
def ahq:M Bool :=
 (abq (M.d (dz (g1 gAll) (cg (M.d (xg [none,some 1] (xr (M.d (mOp gIx (cj 2 (gf 0))))) (bh 0) (ret true) akq)) mNil))))
def akp:M D :=
 (mVar 0)
def agr:M Bool :=
 (ph (gCmp fun i j=>decide (i < j)) (ik (M.d (dz (g1 gL9) (dw 1 mNil))) (gf 2)))
def agp:Sd :=
 (dSeq (dSet 2 (dz (g1 gL9) (dw 1 mNil))) (dSet 1 (xg [none,some 1,some 0] (xr (mVar 1)) (bh 0) ahq akp)))
def at6:Sd :=
 (dSeq (dSet 1 (adh (cg (M.d (dz (g1 gL9) (dw 0 mNil))) mNil))) (dSeq (dSet 2 (mOp gAdd (ik (M.d (dz (g1 gL9) (dw 1 mNil))) (ret (.int 1))))) (dSeq (whileD agr agp fuel) (dRet (dz (g1 gT9) (dw 1 mNil))))))
def ai9:Fd:=fnD 3 1 at6
def ud:Sd :=
 (dSeq (dSet 1 (mFn ai9 [some 0] (dg 0 jc))) (dIf (ph (gEq true) (cj 1 (mTup mNil))) (fun _=>none) dNx))
def gw:Fd:=fnD 2 1 ud
def aa6:M D :=
 (M.d (mFn jr [some 0,none,none] (dg 0 (bc (ret (.int 0)) (bc (M.d (mOp (gInt fSub) (ik (M.d (dz (g1 gL9) (dw 1 mNil))) (ret (.int 1))))) jc)))))
def afe:Sd :=
 (dSeq (dIf (ahd (abq (M.d (mFn dh [some 1,none,none] (dg 1 (bc (M.d (dz (g1 gL9) (dw 0 mNil))) (bc (M.d (dz (g1 gL9) (dw 0 mNil))) jc))))))) (dRet (M.v (ret (.bl false)))) dNx) (dRet (dz (g1 gAll) (cg (M.d (xg [none,none] (mGet ahj (cg (mVar 1) (cg (mVar 0) mNil))) (bTup 2 (gq (bh 0) (gq (bh 1) bNil))) (ret true) aa6)) mNil))))
def wy:Fd:=fnD 2 2 afe
def qx:Sd :=
 (dIf (ahd (abq (M.d (mFn wy [none,none] (bc (mVar 0) (bc (mVar 1) jc)))))) (fun _=>none) dNx)
def gk:Fd:=fnD 2 2 qx
def aa4:M D :=
 (M.d (mOp (gInt fMod) (ik (M.d (mOp gAdd (cj 0 (gf 1)))) (M.d (dz (g1 gL9) (dw 2 mNil))))))
def afa:Sd :=
 (dRet (dz (g1 gT9) (cg (M.d (xg [none,none,none] (mGet apj (cg (mVar 1) (cg (mVar 2) (cg (mVar 0) mNil)))) (bTup 3 (gq (bh 0) (gq (bh 1) (gq (bh 2) bNil)))) (ret true) aa4)) mNil)))
def wj:Fd:=fnD 3 3 afa
def aa5:M D :=
 (M.d (mOp gIx (cj 1 (M.d (mOp (gInt fSub) (cj 0 (ret (.int 1))))))))
def afc:Sd :=
 (dRet (dz (g1 gT9) (cg (M.d (xg [none,none] (mGet ahj (cg (mVar 1) (cg (mVar 0) mNil))) (bTup 2 (gq (bh 0) (gq (bh 1) bNil))) (ret true) aa5)) mNil)))
def wk:Fd:=fnD 2 2 afc
def ur:M Bool :=
 (ph (gIn false) (ik (M.d (mOp gIx (cj 2 (gf 0)))) (gf 1)))
def yo:M D :=
 (mVar 0)
def um:M Bool :=
 (ph (gCmp fun i j=>decide (i < j)) (ik (M.d (dz (g1 gL9) (dw 2 mNil))) (gf 3)))
def yc:Sd :=
 (dSeq (dSet 3 (dz (g1 gL9) (dw 2 mNil))) (dSet 2 (xg [none,some 2,some 0] (xr (mVar 2)) (bh 0) ur yo)))
def acy:Sd :=
 (dSeq (dSet 2 (dz (g1 fun d=>(itemsD d).map fun l=>.fr l) (dw 1 mNil))) (dSeq (dSet 3 (mOp gAdd (ik (M.d (dz (g1 gL9) (dw 2 mNil))) (ret (.int 1))))) (dSeq (whileD um yc fuel) (dRet (ait 2)))))
def rm:Fd:=fnD 4 2 acy
def aak:M D :=
 (M.d (mFn jr [some 0,none,some 1] (dg 0 (bc (ret (.int 0)) (dg 1 jc)))))
def ad5:Sd :=
 (dSeq (dIf (ahd (abq (M.d (mFn dh [some 1,none,none] (dg 1 (bc (M.d (dz (g1 gL9) (dw 0 mNil))) (bc (M.d (dz (g1 gL9) (dw 0 mNil))) jc))))))) (dRet (M.v (ret (.bl false)))) dNx) (dRet (dz (g1 gAll) (cg (M.d (xg [none,some 2] (xr (mVar 1)) (bh 0) (ret true) aak)) mNil))))
def ux:Fd:=fnD 3 3 ad5
def wg:Sd :=
 (dIf (ahd (abq (M.d (mFn ux [some 0,none,none] (dg 0 (bc (mVar 1) (bc (ret (.int 100)) jc))))))) (fun _=>none) dNx)
def ju:Fd:=fnD 2 2 wg
def adk:Sd :=
 (dSeq (dSet 5 (mOp (gInt fMod) (ik (M.d (mOp (gInt fSub) (cj 4 (gf 1)))) (gf 0)))) (abt (M.v (mMut 3 aa0 (cg (M.d (mOp (gInt fDiv) (ik (M.d (mOp (gInt fSub) (ik (M.d (mOp (gInt fSub) (ik (M.d (mOp gAdd (cj 2 (gf 0)))) (ret (.int 1))))) (gf 5)))) (gf 0)))) mNil)))))
def ai4:Sd :=
 (dSeq (dSet 3 (mLst mNil)) (dSeq (dFor (mGet ue (cg (mVar 0) mNil)) (bh 4) adk) (dRet (ait 3))))
def z9:Fd:=fnD 6 3 ai4
def yl:Sd :=
 (abt (M.v (mMut 3 aa0 (cg (M.d (dz (g1 gT9) (cg (M.d (mFn z9 [none,some 5,some 6] (bc (M.d (dz (g1 gL9) (dw 4 mNil))) (dg 5 (dg 6 jc))))) mNil))) mNil))))
def acw:Sd :=
 (dSeq (dSet 3 (mLst mNil)) (dSeq (dFor (mGet apj (cg (mVar 0) (cg (mVar 1) (cg (mVar 2) mNil)))) (bTup 3 (gq (bh 4) (gq (bh 5) (gq (bh 6) bNil)))) yl) (dRet (dz (g1 gT9) (dw 3 mNil)))))
def o9:Fd:=fnD 7 3 acw
def j6:Sd :=
 (dIf (ph (gCmp fun i j=>decide (j<=i)) (cj 9 (ret (.int 0)))) (dSubAugF (fun i j=>i+j) "Crowd" 0 "standing" 4 (mVar 9) (mVar 10)) (dSubAugF (fun i j=>i+j) "Crowd" 0 "gone" 5 (M.d (mOp (gInt fSub) (ik (mUn gNeg (mVar 9)) (ret (.int 1))))) (mVar 10)))
def g_Crowd_let_leave:Sd :=
 (dSeq (dSet 7 (mOp gIx (ik (mFV "Crowd" 0 "house") (gf 1)))) (dSeq (dSet 8 (mFn z9 [none,none,some 2] (bc (M.d (dz (g1 gL9) (dw 7 mNil))) (bc (M.d (mOp gIx ((mLnk "Crowd" 0 "turning" 3).bind fun _=>cj 3 (gf 1)))) (dg 2 jc))))) (dSeq (dSubF "Crowd" 0 "turning" 3 (mVar 1) (M.d (mOp (gInt fMod) (ik (M.d (mOp gAdd (ik (M.d (mOp gIx ((mLnk "Crowd" 0 "turning" 3).bind fun _=>cj 3 (gf 1)))) (gf 2)))) (M.d (dz (g1 gL9) (dw 7 mNil))))))) (dSeq (dSubAugF (fun i j=>i+j) "Crowd" 0 "left" 6 (mVar 1) (mVar 2)) (dSeq (dSubAugF (fun i j=>i - j) "Crowd" 0 "standing" 4 (mVar 1) (mVar 2)) (dFor (mGet ahj (cg (mVar 7) (cg (mVar 8) mNil))) (bTup 2 (gq (bh 9) (gq (bh 10) bNil))) j6))))))
def ie:Fd:=fnD 11 7 g_Crowd_let_leave
def adn:List (Str×M Rv) :=
 [("house", (M.v (mVar 1))),("turning", (dz (g1 fun d=>(itemsD d).map fun l=>.fr l) (dw 2 mNil))),("standing", (dz (g1 fun d=>(itemsD d).map fun l=>.fr l) (dw 3 mNil))),("gone", (mOp gMul (ik (M.d (mLst (cg (ret (.int 0)) mNil))) (ret (.int 3))))),("left", (mOp gMul (ik (M.d (mLst (cg (ret (.int 0)) mNil))) (M.d (dz (g1 gL9) (dw 1 mNil))))))]
def zm:Sd :=
 (dIf (ph (gCmp fun i j=>decide (j < i)) (ik (M.d (mOp gIx ((mLnk "Crowd" 3 "standing" 6).bind fun _=>cj 6 (gf 4)))) (ret (.int 0)))) (abt (alg "Crowd" 3 "let_leave" ["turning","standing","gone","left"] ["house"] [5,6,7,8] ie [some 4,none] (dg 4 (bc (M.d (mOp gIx ((mLnk "Crowd" 3 "standing" 6).bind fun _=>cj 6 (gf 4)))) jc)))) dNx)
def yt:M Bool :=
 (abq (M.d (dz (g1 awv) ((mLnk "Crowd" 3 "standing" 6).bind fun _=>dw 6 mNil))))
def aba:Sd :=
 (dFor (mGet ue (cg (M.d (dz (g1 gL9) (dw 0 mNil))) mNil)) (bh 4) zm)
def afb:Sd :=
 (dNew "Crowd" 3 [5,6,7,8] 4 4 adn [some 0,some 1,some 2] (dg 0 (dg 1 (dg 2 jc))) (dSeq (whileD yt aba fuel) (dRet (M.v (mTup (cg (M.d (dz (g1 gT9) ((mLnk "Crowd" 3 "gone" 7).bind fun _=>dw 7 mNil))) (cg (M.d (dz (g1 gT9) ((mLnk "Crowd" 3 "turning" 5).bind fun _=>dw 5 mNil))) (cg (M.d (dz (g1 gT9) ((mLnk "Crowd" 3 "left" 8).bind fun _=>dw 8 mNil))) mNil))))))))
def aa1:Fd:=fnD 9 3 afb
def zu:Sd :=
 (dSeq (abt (mFn gk [none,none] (bc (mVar 0) (bc (mVar 1) jc)))) (abt (mFn ju [some 0,none] (dg 0 (bc (mVar 2) jc)))))
def jq:Fd:=fnD 3 3 zu
def at7:Sd :=
 (dSeq (abt (mFn jq [none,none,none] (bc (mVar 0) (bc (mVar 1) (bc (mVar 2) jc))))) (dSeq (abt (mFn gw [some 0] (dg 0 jc))) (dRet (mFn aa1 [some 0,some 1,some 2] (dg 0 (dg 1 (dg 2 jc)))))))
def aja:Fd:=fnD 3 3 at7
def ad6:Sd :=
 (dSeq (abt (mFn gk [none,none] (bc (mVar 0) (bc (mVar 1) jc)))) (dRet (mFn o9 [none,none,none] (bc (mVar 0) (bc (mVar 1) (bc (mVar 2) jc))))))
def uy:Fd:=fnD 3 3 ad6
def ym:M D :=
 (mAnd (M.d (mFn v4 [some 0] (dg 0 jc))) (M.d (mOp (gCmp fun i j=>decide (j<=i)) (cj 0 (ret (.int 0))))))
def acx:Sd :=
 (dSeq (dIf (ahd (abq (M.d (mFn dh [some 1,none,none] (dg 1 (bc (M.d (dz (g1 gL9) (dw 0 mNil))) (bc (M.d (dz (g1 gL9) (dw 0 mNil))) jc))))))) (dRet (M.v (ret (.bl false)))) dNx) (dRet (dz (g1 gAll) (cg (M.d (xg [none] (xr (mVar 1)) (bh 0) (ret true) ym)) mNil))))
def qz:Fd:=fnD 2 2 acx
def zq:Sd :=
 (dIf (ph (gCmp fun i j=>decide (j<=i)) (cj 5 (ret (.int 0)))) (aks (fun i j=>i+j) 2 (mVar 5) (mVar 6)) dNx)
def adi:Sd :=
 (dFor (mGet ahj (cg (mVar 3) (cg (mVar 4) mNil))) (bTup 2 (gq (bh 5) (gq (bh 6) bNil))) zq)
def ai5:Sd :=
 (dSeq (dSet 2 (mOp gMul (ik (M.d (mLst (cg (ret (.int 0)) mNil))) (M.d (dz (g1 gL9) (dw 0 mNil)))))) (dSeq (dFor (mGet ahj (cg (mVar 0) (cg (mVar 1) mNil))) (bTup 2 (gq (bh 3) (gq (bh 4) bNil))) adi) (dRet (ait 2))))
def aa2:Fd:=fnD 7 2 ai5
def abl:M D :=
 (M.d (mOp (gEq false) (ik (M.d (mOp gAdd (cj 0 (gf 1)))) (gf 2))))
def aab:M Bool :=
 (ph (gCmp fun i j=>decide (j < i)) (cj 1 (ret (.int 0))))
def abk:M D :=
 (mVar 0)
def afd:Sd :=
 (dSeq (abt (mFn jq [none,none,none] (bc (mVar 0) (bc (mVar 1) (bc (mVar 2) jc))))) (dSeq (abt (mFn gw [some 0] (dg 0 jc))) (dSeq (dIf (ahd (abq (M.d (mFn qz [some 0,none] (dg 0 (bc (mVar 3) jc)))))) (dRet (M.v (ret (.bl false)))) dNx) (dSeq (dSet 4 (mFn aa2 [none,none] (bc (mVar 0) (bc (M.d (mFn o9 [none,none,none] (bc (mVar 0) (bc (mVar 1) (bc (mVar 3) jc))))) jc)))) (dSeq (dIf (ahd (abq (M.d (dz (g1 gAll) (cg (M.d (xg [none,none,none] (mGet apj (cg (mVar 2) (cg (mVar 4) (cg (mVar 3) mNil)))) (bTup 3 (gq (bh 0) (gq (bh 1) (gq (bh 2) bNil)))) (ret true) abl)) mNil))))) (dRet (M.v (ret (.bl false)))) dNx) (dSeq (dSet 5 (mFn wk [none,none] (bc (mVar 0) (bc (M.d (mFn wj [none,none,none] (bc (mVar 0) (bc (mVar 1) (bc (mVar 3) jc))))) jc)))) (dRet (mOp (gEq false) (ik (M.d (mFn rm [some 5,none] (dg 5 (bc (M.d (xg [none,none] (mGet as6 (cg (mVar 3) mNil)) (bTup 2 (gq (bh 0) (gq (bh 1) bNil))) aab abk)) jc)))) (M.d (mLst mNil)))))))))))
def wu:Fd:=fnD 6 4 afd
def ab9:Sd :=
 (dSeq (dIf (ph (gCmp fun i j=>decide (i < j)) (cj 1 (M.d (dz (g1 gL9) (dw 0 mNil))))) (dRet (mOp gIx (cj 0 (gf 1)))) dNx) (dRet (M.v (ret (.int 0)))))
def f__law_cell:Fd:=fnD 2 2 ab9
def agk:Sd :=
 (dSeq (dSet 1 (dz (g2 (gInt fun i j=>some (if j > i then j else i))) (dw 0 (cg (M.d (mOp (gInt fSub) (ik (ret (.int 0)) (gf 0)))) mNil)))) (dRet (mLst (cg (mVar 1) (cg (M.d (dz (g1 apm) (cg (M.d (mOp (gCmp fun i j=>decide (j<=i)) (cj 1 (M.d (mOp (gInt fPow) (ik (ret (.int 10)) (ret (.int 18)))))))) mNil))) mNil)))))
def f__law_pen:Fd:=fnD 2 1 agk
def ab8:Sd :=
 (dSeq (dIf (ph (gEq false) (ik (M.d (mOp gIx (cj 0 (ret (.int 1))))) (ret (.int 1)))) (dSeq (dAsg (M.d (dz (g2 ahk) (cg (M.d (mOp gIx (cj 0 (ret (.int 0))))) (dw 1 mNil)))) (bTup 2 (gq (bh 2) (gq (bh 3) bNil)))) (dSeq (dSub 0 (ret (.int 0)) (mVar 2)) (dRet (ait 3)))) dNx) (dSeq (dSet 4 (mOp (gInt fMod) (ik (M.d (mOp gMul (ik (M.d (mOp gAdd (ik (M.d (mOp (gInt fMod) (ik (M.d (mOp gIx (cj 0 (ret (.int 0))))) (ret (.int 2147483647))))) (ret (.int 40503))))) (ret (.int 69621))))) (ret (.int 2147483629))))) (dSeq (dSet 4 (mOp (gInt fMod) (ik (M.d (mOp gAdd (ik (M.d (mOp gMul (cj 4 (gf 4)))) (ret (.int 7817))))) (ret (.int 2147483587))))) (dSeq (dSub 0 (ret (.int 0)) (M.d (mOp (gInt fMod) (ik (M.d (mOp gAdd (ik (M.d (mOp gMul (cj 4 (ret (.int 48271))))) (ret (.int 11))))) (ret (.int 2147483629)))))) (dRet (mOp (gInt fMod) (ik (M.d (mOp (gInt fDiv) (ik (M.d (mOp gIx (cj 0 (ret (.int 0))))) (ret (.int 32))))) (gf 1))))))))
def f__law_draw:Fd:=fnD 5 2 ab8
def aal:M D :=
 (M.d (mOp (gInt fSub) (ik (M.d (mFn f__law_draw [some 1,none] (dg 1 (bc (M.d (mOp gAdd (cj 2 (gf 3)))) jc)))) (gf 3))))
def aai:Sd :=
 (dSeq (dSet 7 (mOp gAdd (ik (ret (.int 1)) (M.d (mFn f__law_draw [some 0,some 2] (dg 0 (dg 2 jc))))))) (abt (M.v (mMut 5 aa0 (cg (M.d (dz (g1 gT9) (cg (M.d (xg [none,some 0,some 3,some 4] (mGet ue (cg (mVar 7) mNil)) (bh 0) (ret true) aal)) mNil))) mNil)))))
def ad7:Sd :=
 (dSeq (dSet 3 (mOp gAdd (ik (ret (.int 1)) (M.d (mFn f__law_draw [some 0,some 1] (dg 0 (dg 1 jc))))))) (dSeq (dSet 4 (mOp gIx (ik (M.d (mLst (cg (ret (.int 0)) (cg (ret (.int 1)) (cg (ret (.int 3)) (cg (ret (.int 3)) mNil)))))) (M.d (mFn f__law_draw [some 0,none] (dg 0 (bc (ret (.int 4)) jc))))))) (dSeq (dSet 5 (mLst mNil)) (dSeq (dFor (mGet ue (cg (mVar 3) mNil)) (bh 6) aai) (dRet (dz (g1 gT9) (dw 5 mNil)))))))
def f__law_house:Fd:=fnD 8 3 ad7
def xf:M Bool :=
 (ph (gIn true) (cj 0 (gf 1)))
def w6:M D :=
 (mVar 0)
def mz:M Bool :=
 (ph (gCmp fun i j=>decide (i < j)) (cj 3 (M.d (dz (g1 gL9) (dw 2 mNil)))))
def jt:Sd :=
 (dSeq (dIf (ph (gCmp fun i j=>decide (j<=i)) (ik (M.d (mOp gIx (cj 2 (gf 3)))) (ret (.int 0)))) (dSet 2 (mOp gAdd (cj 2 (M.d (xg [none,some 2] (xr (M.d (dz (g1 gSet) (cg (M.d (mOp gIx (cj 0 (M.d (mOp gIx (cj 2 (gf 3))))))) mNil)))) (bh 0) xf w6))))) dNx) (dSet 3 (mOp gAdd (cj 3 (ret (.int 1))))))
def abz:Sd :=
 (dSeq (dSet 2 (mLst (cg (mVar 1) mNil))) (dSeq (dSet 3 (M.v (ret (.int 0)))) (dSeq (whileD mz jt fuel) (dRet (ait 2)))))
def qd:Fd:=fnD 4 2 abz
def l1__law_open:Sd :=
 (dIf (ph (gCmp fun i j=>decide (j<=i)) (ik (M.d (dz (g1 awk) (cg (M.d (mFn qd [some 3,none] (dg 3 (bc (mVar 4) jc)))) mNil))) (ret (.int 0)))) (dSeq (dSet 5 (mFn f__law_draw [some 0,none] (dg 0 (bc (M.d (dz (g1 gL9) (cg (M.d (mOp gIx (cj 3 (gf 4)))) mNil))) jc)))) (dSub 3 (mVar 4) (M.d (mOp gAdd (ik (M.d (mOp gAdd (ik (M.d (mCut (M.d (mOp gIx (cj 3 (gf 4)))) (ret none) (ais (mVar 5)))) (mTup (cg (M.d (mOp (gInt fSub) (ik (mUn gNeg (ret (.int 1))) (M.d (mFn f__law_draw [some 0,none] (dg 0 (bc (ret (.int 3)) jc))))))) mNil))))) (M.d (mCut (M.d (mOp gIx (cj 3 (gf 4)))) (ais (M.d (mOp gAdd (cj 5 (ret (.int 1)))))) (ret none)))))))) dNx)
def afg:Sd :=
 (dSeq (dSet 3 (dz (g1 fun d=>(itemsD d).map fun l=>.fr l) (cg (M.d (mFn f__law_house [some 0,some 1,some 2] (dg 0 (dg 1 (dg 2 jc))))) mNil))) (dSeq (dFor (mGet ue (cg (M.d (dz (g1 gL9) (dw 3 mNil))) mNil)) (bh 4) l1__law_open) (dRet (dz (g1 gT9) (dw 3 mNil)))))
def f__law_open:Fd:=fnD 6 3 afg
def aam:M D :=
 (M.d (mFn f__law_draw [some 1,none] (dg 1 (bc (M.d (dz (g1 gL9) (dw 0 mNil))) jc))))
def ad8:Sd :=
 (dRet (dz (g1 gT9) (cg (M.d (xg [none,some 0] (xr (mVar 1)) (bh 0) (ret true) aam)) mNil)))
def f__law_drawn:Fd:=fnD 2 2 ad8
def wz:M D :=
 (M.d (dz (g2 (gInt fun i j=>some (if j > i then j else i))) (cg (ret (.int 0)) (cg (M.d (mOp (gInt fSub) (ik (M.d (mFn f__law_draw [some 1,none] (dg 1 (bc (M.d (mOp gAdd (cj 2 (ret (.int 3))))) jc)))) (ret (.int 2))))) mNil))))
def aby:Sd :=
 (dRet (dz (g1 gT9) (cg (M.d (xg [none,some 0,some 2] (xr (mVar 1)) (bh 0) (ret true) wz)) mNil)))
def qb:Fd:=fnD 3 3 aby
def p8:Sd :=
 (dIf (ph (gCmp fun i j=>decide (j<=i)) (cj 7 (ret (.int 0)))) (dSub 4 (mVar 7) (M.d (mOp gAdd (ik (M.d (mOp gIx (cj 4 (gf 7)))) (gf 8))))) dNx)
def yj:Sd :=
 (dFor (mGet ahj (cg (mVar 5) (cg (mVar 6) mNil))) (bTup 2 (gq (bh 7) (gq (bh 8) bNil))) p8)
def acz:Sd :=
 (dSeq (dSet 4 (dz (g1 fun d=>(itemsD d).map fun l=>.fr l) (dw 2 mNil))) (dSeq (dFor (mGet ahj (cg (mVar 0) (cg (M.d (mFn uy [none,none,none] (bc (mVar 0) (bc (mVar 1) (bc (mVar 3) jc))))) mNil))) (bTup 2 (gq (bh 5) (gq (bh 6) bNil))) yj) (dRet (mOp (gEq false) (ik (M.d (dz (g1 gT9) (dw 4 mNil))) (gf 3))))))
def rn:Fd:=fnD 9 4 acz
def j8:M Bool :=
 (awc (ph (gCmp fun i j=>decide (j<=i)) (ik (M.d (mOp gIx (cj 4 (mUn gNeg (ret (.int 1)))))) (ret (.int 0)))) (ph (gIn true) (ik (M.d (mOp gIx (cj 4 (mUn gNeg (ret (.int 1)))))) (M.d (ao6 4 (ret none) (ais (mUn gNeg (ret (.int 1)))))))))
def sr:Sd :=
 (dSeq (dSet 5 (mOp gIx (cj 0 (M.d (mOp gIx (cj 4 (mUn gNeg (ret (.int 1))))))))) (abt (M.v (mMut 4 aa0 (cg (M.d (mOp gIx (cj 5 (M.d (mOp (gInt fMod) (ik (M.d (mOp gAdd (ik (M.d (mOp gIx (cj 1 (M.d (mOp gIx (cj 4 (mUn gNeg (ret (.int 1))))))))) (M.d (mOp gIx (cj 2 (M.d (mOp gIx (cj 4 (mUn gNeg (ret (.int 1)))))))))))) (M.d (dz (g1 gL9) (dw 5 mNil))))))))) mNil)))))
def ug:M D :=
 (M.d (mOp gAdd (cj 1 (M.d (dz (g1 apm) (cg (M.d (mOp (gIn false) (cj 0 (gf 2)))) mNil))))))
def aau:Sd :=
 (dSeq (dSet 4 (mLst (cg (mVar 3) mNil))) (dSeq (whileD j8 sr fuel) (dSeq (dSet 6 (ao6 4 (ais (M.d (mOp gAdd (ik (awa 4 ai6 (cg (M.d (mOp gIx (cj 4 (mUn gNeg (ret (.int 1)))))) mNil)) (ret (.int 1)))))) (ret none))) (dRet (dz (g1 gT9) (cg (M.d (xg [none,none,some 6] (mGet as6 (cg (mVar 2) mNil)) (bTup 2 (gq (bh 0) (gq (bh 1) bNil))) (ret true) ug)) mNil))))))
def lq:Fd:=fnD 7 4 aau
def aln:Sd :=
 (dSeq (dSet 8 (mFn lq [some 3,some 4,none,none] (dg 3 (dg 4 (bc (mVar 8) (bc (M.d (mFn f__law_draw [some 2,none] (dg 2 (bc (M.d (dz (g1 gL9) (dw 3 mNil))) jc)))) jc)))))) (abt (M.v (mMut 7 aa0 (cg (mVar 8) mNil)))))
def ap0:M D :=
 (M.d (dz (g2 (gInt fun i j=>some (if j > i then j else i))) (cg (ret (.int 0)) (cg (M.d (mOp (gInt fSub) (ik (M.d (mOp gAdd (cj 0 (M.d (mFn f__law_draw [some 1,none] (dg 1 (bc (ret (.int 5)) jc))))))) (ret (.int 1))))) mNil))))
def alm:Sd :=
 (abt (M.v (mMut 7 aa0 (cg (M.d (dz (g1 gT9) (cg (M.d (xg [none,some 2] (xr (mVar 6)) (bh 0) (ret true) ap0)) mNil))) mNil))))
def apz:M D :=
 (ret (.int 0))
def aqk:M Bool :=
 (ph (gCmp fun i j=>decide (i < j)) (ik (M.d (mOp gIx (cj 1 (gf 0)))) (M.d (mOp gIx (cj 2 (gf 0))))))
def auc:M D :=
 (mVar 0)
def ai1:Sd :=
 (dSeq (dIf (abq (M.d (mFn rn [none,none,some 5,none] (bc (mVar 3) (bc (mVar 4) (dg 5 (bc (mVar 10) jc))))))) (dIf (ph (gEq true) (ik (M.d (xg [none,some 10,some 6] (mGet ue (cg (M.d (dz (g1 gL9) (dw 3 mNil))) mNil)) (bh 0) aqk auc)) (M.d (mLst mNil)))) (dRet (M.v (ret (.bl false)))) dNx) (dIf (abq (M.d (mFn wu [none,none,none,none] (bc (mVar 3) (bc (mVar 4) (bc (mVar 5) (bc (mVar 10) jc))))))) (dRet (M.v (ret (.bl false)))) dNx)) (dIf (ph (gEq true) (ik (M.d (mFn wu [none,none,none,none] (bc (mVar 3) (bc (mVar 4) (bc (mVar 5) (bc (mVar 10) jc)))))) (M.d (mOp (gEq false) (cj 10 (gf 6)))))) (dRet (M.v (ret (.bl false)))) dNx))
def l4_law:Sd :=
 (dSeq (dSet 2 (mFn f__law_pen [some 1] (dg 1 jc))) (dSeq (dSet 3 (mFn f__law_open [some 2,none,none] (dg 2 (bc (ret (.int 4)) (bc (M.d (mOp gIx (ik (M.d (mLst (cg (ret (.int 2)) (cg (ret (.int 3)) (cg (ret (.int 4)) mNil))))) (M.d (mFn f__law_draw [some 2,none] (dg 2 (bc (ret (.int 3)) jc))))))) jc))))) (dSeq (dPar 4 5 (cg (M.d (mFn f__law_drawn [some 2,none] (dg 2 (bc (mVar 3) jc)))) (cg (M.d (mFn qb [some 2,none,none] (dg 2 (bc (mVar 3) (bc (ret (.int 2)) jc))))) mNil))) (dSeq (dSet 6 (mOp gIx (ik (M.d (mFn aja [none,none,none] (bc (mVar 3) (bc (mVar 4) (bc (mVar 5) jc))))) (ret (.int 2))))) (dSeq (dSet 7 (mLst mNil)) (dSeq (dSet 8 (M.v (mVar 6))) (dSeq (dFor (mGet ue (cg (ret (.int 4)) mNil)) (bh 9) aln) (dSeq (dFor (mGet ue (cg (ret (.int 12)) mNil)) (bh 9) alm) (dFor (xr (M.d (mOp gAdd (cj 7 (M.d (mLst (cg (mVar 6) (cg (mVar 5) (cg (M.d (dz (g1 gT9) (cg (M.d (xg [none] (xr (mVar 3)) (bh 0) (ret true) apz)) mNil))) mNil))))))))) (bh 10) ai1)))))))))
def az3:Sd :=
 (dSeq (dFor (xr (M.d (mOp gAdd (ik (M.d (mLst (cg (M.d (mFn f__law_cell [some 0,none] (dg 0 (bc (ret (.int 0)) jc)))) mNil))) (M.d (ao6 0 (ais (ret (.int 1))) (ais (ret (.int 3))))))))) (bh 1) l4_law) (dRet (M.v (ret (.bl true)))))
def apt:Fd:=fnD 11 1 az3
def ak0:D->Bool
 | .int _=>true
 | _=>false
def ago(a b:Int):D->Bool
 | .int i=>decide (a<=i)&&decide (i<=b)
 | _=>false
@[simp] theorem awe(d:D):v4 [.val d]=some (.ok (.v (.bl (ak0 d))),[.val d]):=by
 cases d <;> simp[v4,agj,isTy,ak0]
@[simp] theorem alp(d:D)(a b:Int):jr [.val d,.val (.int a),.val (.int b)]=some (.ok (.v (.bl (ago a b d))),[.val d,.val (.int a),.val (.int b)]):=by
 cases d <;> simp[jr,zy,ak0,ago]
theorem aqa(ns:List Int)(k:Int)(h:0<=k):∃n,f__law_cell [.val (.kst (ns.map D.int)),.val (.int k)]=some (.ok (.v (.int n)),[.val (.kst (ns.map D.int)),.val (.int k)]):=by
 by_cases hk:k < (ns.length:Int)
 ·have e:atI (ns.map D.int) k=some (.int (ns[k.toNat]'(by omega))):=by
   have h2:atI (ns.map D.int) ((k.toNat:Nat):Int)=some (.int (ns[k.toNat]'(by omega))):=ahu (by simp[List.getElem?_map,List.getElem?_eq_getElem (show k.toNat < ns.length by omega)])
   rw[show((k.toNat:Nat):Int)=k by omega] at h2
   exact h2
  exact⟨ns[k.toNat]'(by omega),by simp[f__law_cell,ab9,hk,e]⟩
 ·exact⟨0,by simp[f__law_cell,ab9,hk]⟩
def pen(P:Int×Int):List D:=[.int P.1,.int P.2]
theorem arz(n:Int):∃P,f__law_pen [.val (.int n)]=some (.ok (.fr (pen P)),[.val (.int n)]):=by
 refine⟨(if 0 - n > n then 0 - n else n,if 10 ^ 18<=(if 0 - n > n then 0 - n else n) then 1 else 0),?_⟩
 simp[f__law_pen,agk,pen,fPow]
theorem m9(P:Int×Int)(m:Int)(h0:0 < m)(h1:m < 1000000000000000000000000000000000000000000000000000000000000):∃r P',f__law_draw [.own (some 0) (pen P),.val (.int m)]=some (.ok (.v (.int r)),[.own (some 0) (pen P'),.val (.int m)])/\0<=r/\r < m:=by
 obtain⟨a,b⟩:=P
 by_cases hb:b=1
 ·refine⟨a % m,(a / m,b),?_,Int.emod_nonneg _ (by omega),Int.emod_lt_of_pos _ h0⟩
  simp[f__law_draw,ab8,pen,hb,h0,h1,atI,ixN]
 ·have z0:0<=(a % 2147483647+40503)*69621 % 2147483629:=Int.emod_nonneg _ (by decide)
  have z1:(a % 2147483647+40503)*69621 % 2147483629 < 2147483629:=Int.emod_lt_of_pos _ (by decide)
  generalize hz:(a % 2147483647+40503)*69621 % 2147483629=z at z0 z1;have hm:fMul z z=some (z*z):=by
   unfold fMul;rw[if_pos (.inl ⟨by omega,by omega⟩)]
  refine⟨((z*z+7817) % 2147483587*48271+11) % 2147483629 / 32 % m,(((z*z+7817) % 2147483587*48271+11) % 2147483629,b),?_,Int.emod_nonneg _ (by omega),Int.emod_lt_of_pos _ h0⟩
  have h69:∀x:Int,fMul x 69621=some (x*69621):=fun x=>by unfold fMul;rw[if_pos (.inr (by decide))]
  have h48:∀x:Int,fMul x 48271=some (x*48271):=fun x=>by unfold fMul;rw[if_pos (.inr (by decide))]
  simp[f__law_draw,ab8,pen,hb,h0,h1,atI,ixN,h69,h48,hm,fMod,fDiv,hz]
structure HouseOk (m w:Int) (qv:LL9):Prop where
 one:1<=qv.length
 most:(qv.length:Int)<=m
 room:∀r∈qv,1<=r.length/\(r.length:Int)<=w/\∀x∈r,-3<=x/\x < (qv.length:Int)
def hDs(qv:LL9):List D:=qv.map fun r=>D.tup (r.map D.int)
def hD(qv:LL9):D:=.tup (hDs qv)
theorem am4(P:Int×Int)(m w:Int)(m1:1<=m)(m2:m<=10)(w1:1<=w)(w2:w<=6):∃qv P',f__law_house [.own (some 0) (pen P),.val (.int m),.val (.int w)]=some (.ok (.v (hD qv)),[.own (some 0) (pen P'),.val (.int m),.val (.int w)])/\HouseOk m w qv:=by
 obtain⟨r1,P1,e1,r1a,r1b⟩:=m9 P m (by omega) (by omega)
 obtain⟨r2,P2,e2,r2a,r2b⟩:=m9 P1 4 (by decide) (by decide)
 have hg:∃g:Int,atI [D.int 0,D.int 1,D.int 3,D.int 3] r2=some (.int g)/\0<=g/\g<=3:=by
  have:r2=0∨r2=1∨r2=2∨r2=3:=by omega
  rcases this with rfl | rfl | rfl | rfl
  ·exact⟨0,rfl,by decide,by decide⟩
  ·exact⟨1,rfl,by decide,by decide⟩
  ·exact⟨3,rfl,by decide,by decide⟩
  ·exact⟨3,rfl,by decide,by decide⟩
 obtain⟨g,eg,g0,g3⟩:=hg;have loop:=aaj (b:=bh 6) (g:=aai) (fun i ρ=>∃qv P o1 o2,ρ=[.own (some 0) (pen P),.val (.int m),.val (.int w),.val (.int (1+r1)),.val (.int g),.own none (hDs qv),o1,o2]/\qv.length=i/\∀r∈qv,1<=r.length/\(r.length:Int)<=w/\∀x∈r,-3<=x/\x < 1+r1)
  (l:=jx 0 (1+r1).toNat) (ρ:=[.own (some 0) (pen P2),.val (.int m),.val (.int w),.val (.int (1+r1)),.val (.int g),.own none [],.emp,.emp]) 0 ⟨[],P2,.emp,.emp,rfl,rfl,by simp⟩ ?_
 ·obtain⟨ρ',e3,qv,P3,o1,o2,rfl,hl,hr⟩:=loop;have hl:qv.length=(1+r1).toNat:=by simpa[jx] using hl
  refine⟨qv,P3,?_,by omega,by omega,fun r h =>?_⟩
  ·have hb:(1+r1).natAbs < 4611686018427387904:=by omega
   simp[f__law_house,ad7,e1,e2,eg,hb,e3,hD]
  ·obtain⟨a,b,c⟩:=hr r h;exact⟨a,b,fun x hx=>by have:=c x hx;omega⟩
 ·rintro i d ρ hd ⟨qv,P4,o1,o2,rfl,hl,hr⟩
  obtain⟨r5,P5,e5,r5a,r5b⟩:=m9 P4 w (by omega) (by omega)
  have comp:=ni (b:=bh 0) (mc:=ret true) (me:=aal) (fun j ys ρ=>∃ns P o,ρ=[o,.own (some 1) (pen P),.val (.int (1+r1)),.val (.int g)]/\ys=ns.map D.int/\ns.length=j/\∀x∈ns,-3<=x/\x < 1+r1)
   (l:=jx 0 (1+r5).toNat) (ys:=[]) (ρ:=[.emp,.own (some 1) (pen P5),.val (.int (1+r1)),.val (.int g)]) 0 ⟨[],P5,.emp,rfl,rfl,rfl,by simp⟩ ?_
  ·obtain⟨ys,ρ',e6,ns,P6,o,rfl,rfl,hn,hx⟩:=comp;have hn:ns.length=(1+r5).toNat:=by simpa[jx] using hn
   have hb:(1+r5).natAbs < 4611686018427387904:=by omega
   have hc1:ns.length<=capS:=bu (by omega)
   have hi:i < (1+r1).toNat:=by
    have:=(List.getElem?_eq_some_iff.mp hd).1
    simpa[jx] using this
   have hc2:(hDs qv).length < capS:=by simp[hDs,capS];omega
   refine⟨_,[.own (some 0) (pen P6),.val (.int m),.val (.int w),.val (.int (1+r1)),.val (.int g),.own none (hDs (qv++[ns])),.val d,.val (.int (1+r5))],rfl,.inl (by simp[aai,e5,hb,e6,hc1,hc2];simp[hDs]),qv++[ns],P6,_,_,rfl,by simp[hl],fun r h =>?_⟩
   rcases List.mem_append.mp h with h | h
   ·exact hr r h
   ·obtain rfl:r=ns:=by simpa using h
    exact⟨by omega,by omega,hx⟩
  ·rintro j d ys ρ hd ⟨ns,P6,o,rfl,rfl,hn,hx⟩
   obtain⟨r7,P7,e7,r7a,r7b⟩:=m9 P6 (1+r1+g) (by omega) (by omega)
   refine⟨_,_,true,rfl,rfl,.inr ⟨rfl,.int (r7 - g),_,by simp[aal,e7];rfl,ns++[r7 - g],P7,_,rfl,by simp,by simp[hn],fun x h =>?_⟩⟩
   rcases List.mem_append.mp h with h | h
   ·exact hx x h
   ·obtain rfl:x=r7 - g:=by simpa using h
    omega
structure Hs (qv:LL9):Prop where
 one:1<=qv.length
 most:qv.length<=10
 room:∀r∈qv,1<=r.length/\r.length<=6/\∀x∈r,-3<=x/\x < (qv.length:Int)
def dr(qv:LL9)(x:Int):List Int:=qv.getD x.toNat []
inductive Rch (qv:LL9) (a:Int):Int->Prop
 | base:Rch qv a a
 | step {x d:Int}:Rch qv a x->0<=x->d∈dr qv x->Rch qv a d
theorem afy{qv:LL9}{x:Int}(h0:0<=x)(h1:x < (qv.length:Int)):atI (hDs qv) x=some (.tup ((dr qv x).map D.int)):=by
 have hk:x.toNat < qv.length:=by omega
 have q:atI (hDs qv) ((x.toNat:Nat):Int)=some (.tup ((dr qv x).map D.int)):=ahu (by simp[hDs,dr,List.getElem?_eq_getElem hk])
 rw[show((x.toNat:Nat):Int)=x by omega] at q
 exact q
theorem Hs.dr{qv:LL9}(h:Hs qv){x:Int}(h0:0<=x)(h1:x < (qv.length:Int)):1<=(dr qv x).length/\(My.dr qv x).length<=6/\∀y∈My.dr qv x,-3<=y/\y < (qv.length:Int):=by
 have hk:x.toNat < qv.length:=by omega
 have e:My.dr qv x=qv[x.toNat]:=by simp[My.dr,hk]
 rw[e];exact h.room _ (List.getElem_mem hk)
theorem Rch.range{qv:LL9}(h:Hs qv){a x:Int}(ha:0<=a/\a < (qv.length:Int))(r:Rch qv a x) : -3<=x/\x < (qv.length:Int):=by
 induction r with
 | base=>omega
 | step r h0 hd ih=>exact(h.dr h0 ih.2).2.2 _ hd
theorem aip:∀(m:Nat) (l:List Int),l.Nodup->(∀x∈l,-3<=x/\x < (m:Int) - 3)->l.length<=m
 | 0,l,_,h=>by
  cases l with
  | nil=>simp
  | cons x r=>have:=h x (List.mem_cons_self ..);omega
 | m+1,l,hn,h=>by
  have h1:(l.erase ((m:Int) - 3)).length<=m:=aip m _ (hn.erase _) fun x hx=>by
   rw[hn.mem_erase_iff] at hx;have:=h x hx.2;have:=hx.1;omega
  have h2:l.length<=(l.erase ((m:Int) - 3)).length+1:=by
   rw[List.length_erase];split <;> omega
  omega
theorem au5{qv:LL9}(h:Hs qv){a:Int}(ha:0<=a/\a < (qv.length:Int)){ns:List Int}(hn:ns.Nodup)(hr:∀x∈ns,Rch qv a x):ns.length<=13:=by
 have:=aip (qv.length+3) ns hn fun x hx=>by have:=Rch.range h ha (hr x hx);omega
 have:=h.most;omega
theorem amm{qv:LL9}{a:Int}{ns:List Int}(h0:a∈ns)(hc:∀x∈ns,0<=x->∀d∈dr qv x,d∈ns){x:Int}(r:Rch qv a x):x∈ns:=by
 induction r with
 | base=>exact h0
 | step r h0 hd ih=>exact hc _ ih h0 _ hd
theorem a0p{ns:List Int}{i:Nat}(h:i < ns.length):atI (ns.map D.int) (i:Int)=some (.int ns[i]):=ahu (by simp[List.getElem?_eq_getElem h])
def a0w(qv:LL9)(S:Sl):Prop:=S=.val (hD qv)∨S=.own (some 0) (hDs qv)
theorem aic{qv:LL9}(h:Hs qv){S:Sl}(hS:a0w qv S){a:Int}{ns:List Int}{i:Nat}(hi:i < ns.length)(hz:ns.length<=13)(hx:ns[i] < (qv.length:Int)) :
  jt [S,.val (.int a),.own none (ns.map D.int),.val (.int (i:Nat))]=some (.nx,[S,.val (.int a),.own none ((if 0<=ns[i] then ns++(setI (dr qv ns[i])).filter (fun d => !decide (d∈ns)) else ns).map D.int),.val (.int ((i:Nat)+1))]):=by
 have ei:=a0p hi
 by_cases h0:0<=ns[i]
 ·obtain⟨k1,k2,k3⟩:=h.dr h0 hx;have er:=afy h0 hx;have es:=apl (ns:=dr qv ns[i]) (by omega)
  have ef:compD (bh 0) xf w6 ((setI (dr qv ns[i])).map D.int) [] [.emp,.own (some 1) (ns.map D.int)]=some (.ok (((setI (dr qv ns[i])).filter (fun d => !decide (d∈ns))).map D.int),abr .emp ((setI (dr qv ns[i])).map D.int)::[.own (some 1) (ns.map D.int)]):=by
   rw[qp (p:=fun d=>match d with | .int k => !decide (k∈ns) | _=>false) (f:=id)]
   ·simp[List.filter_map,Function.comp_def]
   ·intro d hd;obtain⟨k,_,rfl⟩:=List.mem_map.mp hd;simp[xf,afi]
   ·intro d hd _;simp[w6]
  have hlen:(setI (dr qv ns[i])).length<=6:=by
   unfold setI;rw[(sortI_perm _).length_eq];exact Nat.le_trans (ab4 _) k2
  have hc1:((setI (dr qv ns[i])).filter (fun d => !decide (d∈ns))).length<=6:=Nat.le_trans (List.length_filter_le _ _) hlen
  have hc2:ns.length+((setI (dr qv ns[i])).filter (fun d => !decide (d∈ns))).length<=capS:=bu (by omega)
  have hc3:((setI (dr qv ns[i])).filter (fun d => !decide (d∈ns))).length<=capS:=bu (by omega)
  rcases hS with rfl | rfl
  ·simp[jt,hD,ei,h0,er,es,ef,hc1,hc2,hc3]
  ·simp[jt,ei,h0,er,es,ef,hc1,hc2,hc3]
 ·simp[jt,ei,h0]
theorem aid{qv:LL9}(h:Hs qv){S:Sl}(hS:a0w qv S){a:Int}(ha:0<=a/\a < (qv.length:Int)) :
  ∃ns:List Int,qd [S,.val (.int a)]=some (.ok (.fr (ns.map D.int)),[S,.val (.int a)])/\ns≠[]/\∀x,x∈ns↔Rch qv a x:=by
 have loop:=vh (c:=mz) (g:=jt)
  (fun k ρ=>∃(ns:List Int) (i:Nat),ρ=[S,.val (.int a),.own none (ns.map D.int),.val (.int (i:Nat))]/\k=20 - i/\i<=ns.length/\ns.Nodup/\a∈ns/\(∀x∈ns,Rch qv a x)/\∀j (hj:j < ns.length),j < i->0<=ns[j]->∀d∈dr qv ns[j],d∈ns)
  (fun ρ=>∃(ns:List Int) (o:Sl),ρ=[S,.val (.int a),.own none (ns.map D.int),o]/\ns≠[]/\∀x,x∈ns↔Rch qv a x) ?_ fuel 20 [S,.val (.int a),.own none ([a].map D.int),.val (.int ((0:Nat):Int))] (Nat.lt_trans (by decide) ac0)
  ⟨[a],0,rfl,rfl,by simp,by simp,by simp,by simp;exact .base,fun j hj hlt=>absurd hlt (Nat.not_lt_zero _)⟩
 ·obtain⟨ρ',e,ns,o,rfl,hne,hm⟩:=loop;have e:whileD mz jt fuel [S,.val (.int a),.own none [.int a],.val (.int 0)]=some (.nx,[S,.val (.int a),.own none (ns.map D.int),o]):=e;refine⟨ns,?_,hne,hm⟩;rcases hS with rfl | rfl <;> simp[qd,abz,e]
 ·rintro k ρ ⟨ns,i,rfl,rfl,hi,hn,h0,hr,hc⟩
  have hz:=au5 h ha hn hr
  by_cases hlt:i < ns.length
  ·refine .inr ⟨[S,.val (.int a),.own none (ns.map D.int),.val (.int (i:Nat))],_,20 - (i+1),?_,aic h hS hlt hz (Rch.range h ha (hr _ (List.getElem_mem hlt))).2,by omega,?_⟩
   ·have:(i:Int) < (ns.length:Int):=by omega
    rcases hS with rfl | rfl <;> simp[mz,this]
   ·by_cases hp:0<=ns[i]
    ·rw[if_pos hp];refine⟨_,i+1,rfl,rfl,by simp;omega,?_,List.mem_append_left _ h0,?_,?_⟩
     ·rw[List.nodup_append];refine⟨hn,List.Pairwise.sublist List.filter_sublist (amv _),fun x hx y hy e =>?_⟩
      have:=(List.mem_filter.mp hy).2;subst e;simp[hx] at this
     ·intro x hx;rcases List.mem_append.mp hx with hx | hx
      ·exact hr x hx
      ·exact .step (hr _ (List.getElem_mem hlt)) hp ((alf _ _).mp (List.mem_filter.mp hx).1)
     ·intro j hj hji hjp d hd;have hjl:j < ns.length:=by omega
      rw[List.getElem_append_left hjl] at hjp hd;rcases Nat.lt_or_ge j i with z | z
      ·exact List.mem_append_left _ (hc j hjl z hjp d hd)
      ·have:j=i:=by omega
       subst this
       by_cases hdn:d∈ns
       ·exact List.mem_append_left _ hdn
       ·exact List.mem_append_right _ (List.mem_filter.mpr ⟨(alf _ _).mpr hd,by simp[hdn]⟩)
    ·rw[if_neg hp];refine⟨_,i+1,rfl,rfl,hlt,hn,h0,hr,?_⟩;intro j hj hji hjp d hd;rcases Nat.lt_or_ge j i with z | z
     ·exact hc j hj z hjp d hd
     ·have:j=i:=by omega
      subst this;exact absurd hjp hp
  ·refine .inl ⟨[S,.val (.int a),.own none (ns.map D.int),.val (.int (i:Nat))],?_,ns,_,rfl,List.ne_nil_of_mem h0,fun x=>⟨hr x,amm h0 fun y hy hp d hd =>?_⟩⟩
   ·have:¬(i:Int) < (ns.length:Int):=by omega
    rcases hS with rfl | rfl <;> simp[mz,this]
   ·obtain⟨j,hj,rfl⟩:=List.mem_iff_getElem.mp hy;exact hc j hj (by omega) hp d hd
open Classical in
noncomputable def caught(qv:LL9)(a:Int):Bool:=decide (∀x,Rch qv a x->0<=x)
theorem v5(qv:LL9)(a:Int):caught qv a=true↔∀x,Rch qv a x->0<=x:=by
 unfold caught;exact @decide_eq_true_iff _ (Classical.propDecidable _)
def upto(n:Nat):List Int:=(List.range n).map fun i=>((i:Nat):Int)
theorem aaf(n:Nat):jx 0 n=(upto n).map D.int:=by
 unfold jx upto;rw[List.map_map];apply List.map_congr_left;intro i _;simp
theorem km{n:Nat}{x:Int}(h:x∈upto n):0<=x/\x < (n:Int):=by
 obtain⟨i,hi,rfl⟩:=List.mem_map.mp h;have:=List.mem_range.mp hi;omega
noncomputable def yr(qv:LL9):List Int:=(upto qv.length).filter (caught qv)
theorem aep{qv:LL9}(h:Hs qv):(qv.length:Int).natAbs < 4611686018427387904:=by have:=h.most;omega
theorem aoi{qv:LL9}(h:Hs qv):ue [.int (qv.length:Int)]=some (jx 0 qv.length):=by
 rw[akj,if_pos (aep h),Int.toNat_natCast]
def keepI(qv:LL9)(S:List Int):List Int:=S.filter fun x=>(dr qv x).all fun d=>decide (d∈S)
theorem aur{qv:LL9}(h:Hs qv)(S:List Int){x:Int}(h0:0<=x)(h1:x < (qv.length:Int)) :
  ahq [.val (.int x),.val (.lst (S.map D.int)),.val (hD qv)]=some (.ok ((dr qv x).all fun d=>decide (d∈S)),[.val (.int x),.val (.lst (S.map D.int)),.val (hD qv)]):=by
 have er:=afy h0 h1;obtain⟨k1,k2,k3⟩:=h.dr h0 h1;have ef:compD (bh 0) (ret true) akq ((dr qv x).map D.int) [] [.emp,.val (.lst (S.map D.int))]=some (.ok ((dr qv x).map fun d=>.bl (decide (d∈S))),abr .emp ((dr qv x).map D.int)::[.val (.lst (S.map D.int))]):=by
  rw[aa7 (f:=fun d=>match d with | .int k=>.bl (decide (k∈S)) | _=>.non)]
  ·simp
  ·intro d hd;obtain⟨k,_,rfl⟩:=List.mem_map.mp hd;simp[akq,afi]
 have hc:(dr qv x).length<=capS:=bu (by omega)
 have hb:rz ((dr qv x).map fun d=>D.bl (decide (d∈S)))=some ((dr qv x).map fun d=>decide (d∈S)):=aku _ _
 simp[ahq,hD,er,ef,hc,hb,Function.comp_def]
theorem anv{qv:LL9}(h:Hs qv)(S:List Int)(hS:∀x∈S,0<=x/\x < (qv.length:Int)) :
  compD (bh 0) ahq akp (S.map D.int) [] [.emp,.val (.lst (S.map D.int)),.val (hD qv)]=some (.ok ((keepI qv S).map D.int),abr .emp (S.map D.int)::[.val (.lst (S.map D.int)),.val (hD qv)]):=by
 rw[qp (p:=fun d=>match d with | .int x=>(dr qv x).all fun d=>decide (d∈S) | _=>false) (f:=id)]
 ·simp only[keepI,List.filter_map,Function.comp_def,List.map_id,List.nil_append]
 ·intro d hd;obtain⟨k,hk,rfl⟩:=List.mem_map.mp hd;exact aur h S (hS k hk).1 (hS k hk).2
 ·intro d hd _;simp[akp]
theorem axx{qv:LL9}(h:Hs qv){S:List Int}(hS:∀x∈S,0<=x/\x < (qv.length:Int))(hl:S.length<=10)(o:Sl) :
  agp [.val (hD qv),.own none (S.map D.int),o]=some (.nx,[.val (hD qv),.own none ((keepI qv S).map D.int),.val (.int (S.length:Nat))]):=by
 have e:=anv h S hS;have hc:(keepI qv S).length<=capS:=bu (Nat.le_trans (List.length_filter_le _ _) (by omega))
 generalize keepI qv S=T at e hc;simp only[hD] at e ⊢
 simp[agp,e,hc]
theorem aro{qv:LL9}{x d y:Int}(h0:0<=x)(hd:d∈dr qv x)(hy:Rch qv d y):Rch qv x y:=by
 induction hy with
 | base=>exact .step .base h0 hd
 | step r h1 hd1 ih=>exact .step ih h1 hd1
theorem anu{qv:LL9}(h:Hs qv):ai9 [.val (hD qv)]=some (.ok (.v (.tup ((yr qv).map D.int))),[.val (hD qv)]):=by
 have hm:=h.most;have ul:(upto qv.length).length=qv.length:=by simp[upto]
 have e0:((upto qv.length).filter fun _=>true)=upto qv.length:=List.filter_eq_self.mpr fun _ _=>rfl
 have loop:=vh (c:=agr) (g:=agp)
  (fun k ρ=>∃(p:Int->Bool) (m:Nat),ρ=[.val (hD qv),.own none (((upto qv.length).filter p).map D.int),.val (.int (m:Nat))]/\k=m/\((upto qv.length).filter p).length<=m/\(m=((upto qv.length).filter p).length->keepI qv ((upto qv.length).filter p)=(upto qv.length).filter p)/\∀x∈yr qv,p x=true)
  (fun ρ=>∃o,ρ=[.val (hD qv),.own none ((yr qv).map D.int),o]) ?_ fuel (qv.length+1) [.val (hD qv),.own none (((upto qv.length).filter fun _=>true).map D.int),.val (.int ((qv.length+1:Nat):Int))] (Nat.lt_trans (show qv.length+1 < 100000 by omega) ac0)
  ⟨fun _=>true,qv.length+1,rfl,rfl,by rw[e0,ul];omega,fun z=>by rw[e0,ul] at z;omega,fun _ _=>rfl⟩
 ·obtain⟨ρ',e,o,rfl⟩:=loop;rw[e0] at e;have hb:ue [.int (qv.length:Int)]=some (jx 0 qv.length):=aoi h;have hb':qv.length < 1000000:=by omega
  have hl:(hDs qv).length=qv.length:=by simp[hDs]
  have er:=aaf qv.length;have hcast:((qv.length+1:Nat):Int)=(qv.length:Int)+1:=by omega
  rw[hcast] at e;simp only[hD] at e ⊢
  simp[ai9,at6,hl,hb',er,ul,e]
 ·rintro k ρ ⟨p,m,rfl,hkm,hle,hcl,hp⟩
  subst hkm;have hS:∀x∈(upto qv.length).filter p,0<=x/\x < (qv.length:Int):=fun x hx=>km (List.mem_filter.mp hx).1
  have hl:((upto qv.length).filter p).length<=10:=Nat.le_trans (List.length_filter_le _ _) (by omega)
  by_cases hlt:((upto qv.length).filter p).length < k
  ·refine .inr ⟨_,_,((upto qv.length).filter p).length,?_,axx h hS hl (.val (.int (k:Nat))),hlt,(fun x=>((dr qv x).all fun d=>decide (d∈(upto qv.length).filter p))&&p x),((upto qv.length).filter p).length,?_,rfl,?_,?_,?_⟩
   ·generalize (upto qv.length).filter p=S at hlt;have:(S.length:Int) < (k:Int):=by omega
    simp[agr,this]
   ·unfold keepI;rw[List.filter_filter]
   ·rw[<-List.filter_filter];exact List.length_filter_le _ _
   ·rw[<-List.filter_filter];intro z;have:keepI qv ((upto qv.length).filter p)=(upto qv.length).filter p:=List.filter_eq_self.mpr fun a ha=>by
     by_cases q:((dr qv a).all fun d=>decide (d∈(upto qv.length).filter p))=true
     ·exact q
     ·exfalso;have:(((upto qv.length).filter p).filter fun x=>(dr qv x).all fun d=>decide (d∈(upto qv.length).filter p)).length < ((upto qv.length).filter p).length:=List.length_filter_lt_length_iff_exists.mpr ⟨a,ha,by simpa using q⟩
      omega
    show keepI qv (keepI qv ((upto qv.length).filter p))=keepI qv ((upto qv.length).filter p);rw[this,this]
   ·intro x hx;rw[Bool.and_eq_true];refine⟨List.all_eq_true.mpr fun d hd=>decide_eq_true ?_,hp x hx⟩
    obtain⟨x1,x2⟩:=List.mem_filter.mp hx;have hx0:=km x1;have hd0:0<=d:=(v5 qv x).mp x2 d (.step .base hx0.1 hd);have hd1:=((h.dr hx0.1 hx0.2).2.2 d hd).2;have du:d∈upto qv.length:=by
     unfold upto;exact List.mem_map.mpr ⟨d.toNat,List.mem_range.mpr (by omega),by omega⟩
    have dt:d∈yr qv:=List.mem_filter.mpr ⟨du,(v5 qv d).mpr fun y hy=>(v5 qv x).mp x2 y (aro hx0.1 hd hy)⟩
    exact List.mem_filter.mpr ⟨du,hp d dt⟩
  ·refine .inl ⟨[.val (hD qv),.own none (((upto qv.length).filter p).map D.int),.val (.int (k:Nat))],?_,.val (.int (k:Nat)),?_⟩
   ·generalize (upto qv.length).filter p=S at hlt;have:¬(S.length:Int) < (k:Int):=by omega
    simp[agr,this]
   ·have hk:=hcl (by omega)
    have:(upto qv.length).filter p=yr qv:=by
     unfold yr;refine List.filter_congr fun x hx =>?_
     by_cases c:caught qv x=true
     ·rw[c];exact hp x (List.mem_filter.mpr ⟨hx,c⟩)
     ·have:p x=false:=by
       cases q:p x with
       | false=>rfl
       | true =>
        exfalso;refine c ((v5 qv x).mpr fun y hy =>?_)
        have:y∈(upto qv.length).filter p:=by
         induction hy with
         | base=>exact List.mem_filter.mpr ⟨hx,q⟩
         | step r h0 hd ih =>
          rw[<-hk] at ih;have:=List.all_eq_true.mp (List.mem_filter.mp ih).2 _ hd
          simpa using this
        exact(hS y this).1
      rw[this]
      simpa using c
    rw[this]
theorem HouseOk.hs{m w:Int}{qv:LL9}(h:HouseOk m w qv)(hm:m<=10)(hw:w<=6):Hs qv :=
 ⟨h.one,by have:=h.most;omega,fun r hr=>by obtain⟨a,b,c⟩:=h.room r hr;exact⟨a,by omega,c⟩⟩
theorem aof{n d:Nat}{k:Int}(h0:0<=k):HT.sIx n d (some k)=min k.toNat n:=by
 show(if k < 0 then (k+(n:Int)).toNat else min k.toNat n)=_
 rw[if_neg (by omega)]
theorem a0k{ns:List Int}{k:Int}(h0:0<=k)(h1:k < (ns.length:Int)):cutD (ns.map D.int) none (some k)=(ns.take k.toNat).map D.int:=by
 unfold cutD;rw[aof h0,List.length_map,List.map_take];have:HT.sIx ns.length 0 none=0:=rfl;rw[this,Nat.min_eq_left (by omega),Nat.sub_zero,List.drop_zero]
theorem ate{ns:List Int}{k:Int}(h0:0<=k)(h1:k<=(ns.length:Int)):cutD (ns.map D.int) (some k) none=(ns.drop k.toNat).map D.int:=by
 unfold cutD;rw[aof h0,List.length_map,List.map_drop];have:HT.sIx ns.length ns.length none=ns.length:=rfl;rw[this,Nat.min_eq_left (by omega)]
 exact List.take_of_length_le (by simp)
def bend(r:List Int)(k:Nat)(x:Int):List Int:=r.take k++[x]++r.drop (k+1)
theorem ari(qv:LL9)(j:Nat)(r:List Int):(hDs qv).set j (.tup (r.map D.int))=hDs (qv.set j r):=by
 simp[hDs,List.map_set]
theorem Hs.set{qv:LL9}(h:Hs qv)(j:Nat){r:List Int}(hr:1<=r.length/\r.length<=6/\∀x∈r,-3<=x/\x < (qv.length:Int)):Hs (qv.set j r) :=
 ⟨by rw[List.length_set];exact h.one,by rw[List.length_set];exact h.most,fun q hq=>by
  rw[List.length_set];rcases List.mem_or_eq_of_mem_set hq with z | rfl
  ·exact h.room q z
  ·exact hr⟩
def Opn(qv:LL9)(a:Int):Prop:=∃x,Rch qv a x/\x < 0
theorem akr{qv:LL9}{k:Int}(h0:0<=k)(h1:k < (qv.length:Int))(r:List Int):dr (qv.set k.toNat r) k=r:=by
 have:k.toNat < qv.length:=by omega
 simp[dr,this]
theorem ap1{qv:LL9}{k y:Int}(h0:0<=k)(hy:0<=y)(hne:y≠k)(r:List Int):dr (qv.set k.toNat r) y=dr qv y:=by
 have:k.toNat≠y.toNat:=by omega
 simp[dr,List.getElem?_set,this]
theorem au4{qv:LL9}{k a y:Int}(h0:0<=k)(r:List Int)(h:Rch qv a y):Rch (qv.set k.toNat r) a y∨Rch qv k y:=by
 induction h with
 | base=>exact .inl .base
 | step p hp hd ih =>
  rename_i x d;rcases ih with ih | ih
  ·by_cases e:x=k
   ·subst e;exact .inr (.step .base hp hd)
   ·exact .inl (.step ih hp (by rw[ap1 h0 hp e];exact hd))
  ·exact .inr (.step ih hp hd)
theorem aou{qv:LL9}(h:Hs qv){W:Nat}(hW:∀r∈qv,r.length<=W)(P:Int×Int){A B o:Sl}{k:Int}(h0:0<=k)(h1:k < (qv.length:Int)) :
  ∃rooms' P' o',l1__law_open [.own (some 0) (pen P),A,B,.own none (hDs qv),.val (.int k),o]=some (.nx,[.own (some 0) (pen P'),A,B,.own none (hDs rooms'),.val (.int k),o'])/\Hs rooms'/\(∀r∈rooms',r.length<=W)/\rooms'.length=qv.length/\Opn rooms' k/\∀a,Opn qv a->Opn rooms' a:=by
 obtain⟨ns,e,hne,hm⟩:=aid h (S:=.own (some 0) (hDs qv)) (.inr rfl) ⟨h0,h1⟩;have em:=as5 hne
 by_cases z:0<=minI ns
 ·have hcaught:∀x,Rch qv k x->0<=x:=fun x hx=>(ale hne).mp z x ((hm x).mpr hx)
  obtain⟨a1,a2,a3⟩:=h.dr h0 h1;have er:=afy h0 h1;have aw:=hW (dr qv k) (by
   have hk:k.toNat < qv.length:=by omega
   unfold dr;rw[List.getD_eq_getElem?_getD,List.getElem?_eq_getElem hk];exact List.getElem_mem hk)
  generalize hrow:dr qv k=r at a1 a2 a3 er aw;obtain⟨r1,P1,e1,r1a,r1b⟩:=m9 P r.length (by omega) (by omega)
  obtain⟨r2,P2,e2,r2a,r2b⟩:=m9 P1 3 (by decide) (by decide)
  have c1:=a0k (ns:=r) r1a r1b;have c2:=ate (ns:=r) (k:=r1+1) (by omega) (by omega)
  have hk:(r1+1).toNat=r1.toNat+1:=by omega
  rw[hk] at c2;have ix:ixN (hDs qv).length k=some k.toNat:=by
   have hl:(hDs qv).length=qv.length:=by simp[hDs]
   rw[hl];unfold ixN;simp[h0,h1]
  have k1:(r.take r1.toNat).length<=6:=by rw[List.length_take];omega
  have k2:(r.drop (r1.toNat+1)).length<=6:=by rw[List.length_drop];omega
  have k3:(r.take r1.toNat).length+1<=capS:=bu (by omega)
  have k4:(r.take r1.toNat).length+1+(r.drop (r1.toNat+1)).length<=capS:=bu (by omega)
  have hin:(-1 - r2)∈bend r r1.toNat (-1 - r2):=by simp[bend]
  refine⟨qv.set k.toNat (bend r r1.toNat (-1 - r2)),P2,.val (.int r1),?_,h.set _ ?_,fun q hq =>?_,List.length_set,⟨-1 - r2,.step .base h0 (by rw[akr h0 h1];exact hin),by omega⟩,fun a ⟨x,hx,hx0⟩ =>?_⟩
  ·rw[<-ari];unfold bend;generalize r.take r1.toNat=ta at c1 k3 k4;generalize r.drop (r1.toNat+1)=td at c2 k4;simp[l1__law_open,e,em,z,er,e1,e2,c1,c2,k3,k4,ix]
  ·refine⟨by simp[bend];omega,by simp[bend];omega,fun x hx =>?_⟩
   have:=h.one;unfold bend at hx;rcases List.mem_append.mp hx with hx | hx
   ·rcases List.mem_append.mp hx with hx | hx
    ·exact a3 x (List.mem_of_mem_take hx)
    ·rw[List.mem_singleton] at hx;omega
   ·exact a3 x (List.mem_of_mem_drop hx)
  ·rcases List.mem_or_eq_of_mem_set hq with z | rfl
   ·exact hW q z
   ·simp[bend];omega
  ·rcases au4 h0 (bend r r1.toNat (-1 - r2)) hx with q | q
   ·exact⟨x,q,hx0⟩
   ·have:=hcaught x q;omega
 ·refine⟨qv,P,o,by simp[l1__law_open,e,em,z],h,hW,rfl,?_,fun _ x=>x⟩
  have:¬ ∀y∈ns,0<=y:=fun w=>z ((ale hne).mpr w)
  apply Classical.byContradiction;intro w;refine this fun y hy =>?_
  rcases Int.lt_or_le y 0 with q | q
  ·exact absurd ⟨y,(hm y).mp hy,q⟩ w
  ·exact q
theorem aq9{qv:LL9}(h:∀a,0<=a->a < (qv.length:Int)->Opn qv a):yr qv=[]:=by
 unfold yr;refine List.filter_eq_nil_iff.mpr fun a ha hc =>?_
 obtain⟨x,hx,hx0⟩:=h a (km ha).1 (km ha).2;have:=(v5 qv a).mp hc x hx;omega
theorem open_spec(P:Int×Int)(m w:Int)(m1:1<=m)(m2:m<=10)(w1:1<=w)(w2:w<=6):∃qv P',f__law_open [.own (some 0) (pen P),.val (.int m),.val (.int w)]=some (.ok (.v (hD qv)),[.own (some 0) (pen P'),.val (.int m),.val (.int w)])/\Hs qv/\yr qv=[]/\(qv.length:Int)<=m/\∀r∈qv,r.length<=w.toNat:=by
 obtain⟨qv,P1,e1,ho⟩:=am4 P m w m1 m2 w1 w2;have h:=ho.hs m2 w2;have loop:=aaj (b:=bh 4) (g:=l1__law_open) (fun i ρ=>∃rs P o1 o2,ρ=[.own (some 0) (pen P),.val (.int m),.val (.int w),.own none (hDs rs),o1,o2]/\Hs rs/\(∀r∈rs,r.length<=w.toNat)/\rs.length=qv.length/\∀a:Int,0<=a->a < (i:Int)->Opn rs a)
  (l:=jx 0 qv.length) (ρ:=[.own (some 0) (pen P1),.val (.int m),.val (.int w),.own none (hDs qv),.emp,.emp]) 0 ⟨qv,P1,.emp,.emp,rfl,h,fun r hr=>by have:=(ho.room r hr).2.1;omega,rfl,fun a x y=>by omega⟩ ?_
 ·obtain⟨ρ',e2,rs,P2,o1,o2,rfl,hs,hw,hl,hop⟩:=loop;refine⟨rs,P2,?_,hs,aq9 fun a x y=>hop a x (by simp[jx];omega),by rw[hl];exact ho.most,hw⟩
  have hl0:(hDs qv).length=qv.length:=by simp[hDs]
  have hb':qv.length < 4611686018427387904:=by simpa using aep h
  simp[f__law_open,afg,e1,hD,hl0,hb',e2]
 ·rintro i d ρ hd ⟨rs,P3,o1,o2,rfl,hs,hw,hl,hop⟩
  rw[aaf,List.getElem?_map] at hd;obtain⟨k,hk,rfl⟩:=Option.map_eq_some_iff.mp hd;have hk':=km (List.mem_of_getElem? hk);have hki:k=(i:Int):=by
   unfold upto at hk;rw[List.getElem?_map] at hk;obtain⟨j,hj,rfl⟩:=Option.map_eq_some_iff.mp hk;have hlt:i < qv.length:=by
    have:=(List.getElem?_eq_some_iff.mp hj).1
    simpa using this
   rw[List.getElem?_range hlt] at hj;cases hj;rfl
  obtain⟨rs',P4,o',e3,hs',hw',hl',h5,h6⟩:=aou hs hw P3 (A:=.val (.int m)) (B:=.val (.int w)) (o:=o2) hk'.1 (by rw[hl];exact hk'.2)
  refine⟨[.own (some 0) (pen P3),.val (.int m),.val (.int w),.own none (hDs rs),.val (.int k),o2],_,rfl,.inl e3,rs',P4,_,_,rfl,hs',hw',hl'.trans hl,fun a x y =>?_⟩
  by_cases q:a=k
  ·rw[q];exact h5
  ·exact h6 a (hop a x (by omega))
theorem kh(qv:LL9):(hDs qv).length=qv.length:=by simp[hDs]
theorem ae9{qv:LL9}{i:Nat}{d:D}(h:(hDs qv)[i]? = some d):∃r,qv[i]? = some r/\d=.tup (r.map D.int):=by
 unfold hDs at h;rw[List.getElem?_map] at h;obtain⟨r,e,rfl⟩:=Option.map_eq_some_iff.mp h;exact⟨r,e,rfl⟩
structure Arr (qv:LL9) (as:List Int):Prop where
 len:as.length=qv.length
 ok:∀(i:Nat) (a:Int) (r:List Int),as[i]? = some a->qv[i]? = some r->0<=a/\a < (r.length:Int)
def ar(as:List Int)(x:Int):Int:=as.getD x.toNat 0
theorem Arr.at{qv:LL9}{as:List Int}(h:Arr qv as){x:Int}(h0:0<=x)(h1:x < (qv.length:Int)):0<=ar as x/\ar as x < ((dr qv x).length:Int):=by
 have hk:x.toNat < qv.length:=by omega
 have hk2:x.toNat < as.length:=by rw[h.len];exact hk
 have:=h.ok x.toNat as[x.toNat] qv[x.toNat] (List.getElem?_eq_getElem hk2) (List.getElem?_eq_getElem hk)
 simpa[ar,dr,hk,hk2] using this
theorem aky(P:Int×Int){qv:LL9}(h:Hs qv):∃as P',f__law_drawn [.own (some 0) (pen P),.val (hD qv)]=some (.ok (.v (.tup (as.map D.int))),[.own (some 0) (pen P'),.val (hD qv)])/\Arr qv as:=by
 have comp:=ni (b:=bh 0) (mc:=ret true) (me:=aam) (fun j ys ρ=>∃ns P o,ρ=[o,.own (some 1) (pen P)]/\ys=ns.map D.int/\ns.length=j/\∀(i:Nat) (a:Int) (r:List Int),ns[i]? = some a->qv[i]? = some r->0<=a/\a < (r.length:Int))
  (l:=hDs qv) (ys:=[]) (ρ:=[.emp,.own (some 1) (pen P)]) 0 ⟨[],P,.emp,rfl,rfl,rfl,by simp⟩ ?_
 ·obtain⟨ys,ρ',e6,ns,P6,o,rfl,rfl,hn,hx⟩:=comp;rw[kh,Nat.zero_add] at hn;have hc:ns.length<=capS:=bu (by have:=h.most;omega)
  exact⟨ns,P6,by simp[f__law_drawn,ad8,hD,e6,hc],hn,hx⟩
 ·rintro j d ys ρ hd ⟨ns,P6,o,rfl,rfl,hn,hx⟩
  obtain⟨r,hr,rfl⟩:=ae9 hd;obtain⟨k1,k2,k3⟩:=h.room r (List.mem_of_getElem? hr);obtain⟨r7,P7,e7,r7a,r7b⟩:=m9 P6 (r.length:Int) (by omega) (by omega)
  refine⟨_,_,true,rfl,rfl,.inr ⟨rfl,.int r7,[.val (.tup (r.map D.int)),.own (some 1) (pen P7)],by simp[aam,e7],ns++[r7],P7,_,rfl,by simp,by simp[hn],fun i a q ha hq =>?_⟩⟩
  rcases Nat.lt_or_ge i ns.length with z | z
  ·rw[List.getElem?_append_left z] at ha;exact hx i a q ha hq
  ·have hi:i=ns.length:=by
    have:=(List.getElem?_eq_some_iff.mp ha).1;simp at this;omega
   subst hi;simp at ha;subst ha;have:ns.length=j:=by omega
   rw[this,hr] at hq;cases hq;exact⟨r7a,r7b⟩
def gone(qv:LL9)(as:List Int)(k:Int):List Int:=as.set k.toNat ((ar as k+1) % ((dr qv k).length:Int))
def led(qv:LL9)(as:List Int)(k:Int):Int:=(dr qv k).getD (ar as k).toNat 0
section
variable{qv:LL9}(h:Hs qv){as:List Int}(ha:Arr qv as){k:Int}(h0:0<=k)(h1:k < (qv.length:Int))
include h ha h0 h1
theorem al6:atI (as.map D.int) k=some (.int (ar as k)):=vg h0 (by rw[ha.len];exact h1)
theorem ai8(x:Int):fMod x ((dr qv k).length:Int)=some (x % ((dr qv k).length:Int)):=by
 have:=(h.dr h0 h1).1;unfold fMod;rw[if_pos (by omega)]
end
section
variable{qv:LL9}(h:Hs qv){as:List Int}(ha:Arr qv as){k:Int}(h0:0<=k)(h1:k < (qv.length:Int))
include h ha h0 h1
theorem abi:Arr qv (gone qv as k):=by
 have hd:=(h.dr h0 h1).1;refine⟨by unfold gone;rw[List.length_set];exact ha.len,fun i a r g1 g2 =>?_⟩
 unfold gone at g1;rw[List.getElem?_set] at g1;split at g1
 ·rename_i hi;subst hi;split at g1
  ·cases g1;have:dr qv k=r:=by simp[dr,g2]
   rw[this] at hd ⊢
   exact⟨Int.emod_nonneg _ (by omega),Int.emod_lt_of_pos _ (by omega)⟩
  ·cases g1
 ·exact ha.ok i a r g1 g2
end
theorem atx{qv:LL9}(h:Hs qv){as:List Int}(ha:Arr qv as){k:Int}(h0:0<=k)(h1:k < (qv.length:Int)) : -3<=led qv as k/\led qv as k < (qv.length:Int):=by
 obtain⟨a1,a2⟩:=ha.at h0 h1;have hk:(ar as k).toNat < (dr qv k).length:=by omega
 have:led qv as k∈dr qv k:=by
  unfold led;simp[hk]
 exact(h.dr h0 h1).2.2 _ this
theorem ad3{qv:LL9}(h:Hs qv){as:List Int}(ha:Arr qv as):wy [.val (hD qv),.val (.tup (as.map D.int))]=some (.ok (.v (.bl true)),[.val (hD qv),.val (.tup (as.map D.int))]):=by
 have hl:=ha.len;have hle:(as.map D.int).length<=(hDs qv).length:=by rw[kh,List.length_map];omega
 have comp:=ni (b:=bTup 2 (gq (bh 0) (gq (bh 1) bNil))) (mc:=ret true) (me:=aa6) (fun j ys ρ=>∃o1 o2,ρ=[o1,o2]/\ys=(List.replicate j true).map D.bl)
  (l:=uz (as.map D.int) (hDs qv)) (ys:=[]) (ρ:=[.emp,.emp]) 0 ⟨.emp,.emp,rfl,rfl⟩ ?_
 ·obtain⟨ys,ρ',e6,o1,o2,rfl,rfl⟩:=comp;rw[ahw hle,List.length_map,Nat.zero_add] at e6;have hc:as.length<=capS:=bu (by have:=h.most;omega)
  have e1:dh [.val (.tup (as.map D.int)),.val (.int (qv.length:Int)),.val (.int (qv.length:Int))]=some (.ok (.v (.bl true)),[.val (.tup (as.map D.int)),.val (.int (qv.length:Int)),.val (.int (qv.length:Int))]):=by
   have:(as.length:Int)=qv.length:=by omega
   simp[dh,ou,isTy,this]
  have hle2:as.length<=(hDs qv).length:=by simpa using hle
  have hl3:=kh qv;have hl4:qv.length<=capS:=hl▸hc;have hbl:rz (List.replicate qv.length (D.bl true))=some (List.replicate qv.length true):=by
   have:=aac (List.replicate qv.length true);rwa[List.map_replicate] at this
  simp only[hD];simp[wy,afe,hl3,e1,e6,hl,hl4,hbl]
 ·rintro j d ys ρ hd ⟨o1,o2,rfl,rfl⟩
  obtain⟨d1,d2,g1,g2,rfl⟩:=aei hd;obtain⟨r,hr,rfl⟩:=ae9 g2;rw[List.getElem?_map] at g1;obtain⟨a,ga,rfl⟩:=Option.map_eq_some_iff.mp g1;obtain⟨b0,b1⟩:=ha.ok j a r ga hr;have b2:a<=(r.length:Int) - 1:=by omega
  refine⟨[.val (.int a),.val (.tup (r.map D.int))],_,true,by simp,rfl,.inr ⟨rfl,.bl true,[.val (.int a),.val (.tup (r.map D.int))],by simp[aa6,ago,b0,b2],_,_,rfl,?_⟩⟩
  rw[List.replicate_succ',List.map_append];rfl
theorem aa9{qv:LL9}{bs:List Int}{p:Int}(hp:p.toNat < bs.length):ar (gone qv bs p) p=(ar bs p+1) % ((dr qv p).length:Int):=by
 unfold gone;generalize (ar bs p+1) % ((dr qv p).length:Int)=z;unfold ar;simp[hp]
theorem adw{qv:LL9}{bs:List Int}{p x:Int}(hx:0<=x)(hp:0<=p)(hne:x≠p):ar (gone qv bs p) x=ar bs x:=by
 have:p.toNat≠x.toNat:=by omega
 unfold gone;generalize (ar bs p+1) % ((dr qv p).length:Int)=z;unfold ar;simp[List.getD_eq_getElem?_getD,List.getElem?_set,this]
theorem agf:∀(m:Nat) (l:List Int),l.Nodup->(∀x∈l,0<=x/\x < (m:Int))->l.length<=m
 | 0,l,_,h=>by
  cases l with
  | nil=>simp
  | cons x r=>have:=h x (List.mem_cons_self ..);omega
 | m+1,l,hn,h=>by
  have h1:(l.erase (m:Int)).length<=m:=agf m _ (hn.erase _) fun x hx=>by
   rw[hn.mem_erase_iff] at hx;have:=h x hx.2;have:=hx.1;omega
  have h2:l.length<=(l.erase (m:Int)).length+1:=by
   rw[List.length_erase];split <;> omega
  omega
theorem least{P:Nat->Prop}:∀n,P n->∃m,P m/\∀i < m,¬P i:=fun n=>by
 induction n using Nat.strongRecOn with
 | _ n ih =>
  intro hn
  by_cases q:∃i,i < n/\P i
  ·obtain⟨i,hi,hp⟩:=q;exact ih i hi hp
  ·exact⟨n,hn,fun i hi hp=>q ⟨i,hi,hp⟩⟩
theorem aey:∀{a b:List Int},a.Nodup->(∀x∈a,x∈b)->a.length<=b.length
 | [],b,_,_=>Nat.zero_le _
 | x::r,b,hn,h=>by
  have hx:=h x (List.mem_cons_self ..);have h1:r.length<=(b.erase x).length:=aey (List.Pairwise.of_cons hn) fun y hy=>by
   have hne:y≠x:=fun e=>(List.pairwise_cons.mp hn).1 y hy e.symm
   exact(List.mem_erase_of_ne hne).mpr (h y (List.mem_cons_of_mem _ hy))
  rw[List.length_erase_of_mem hx] at h1;have:=List.length_pos_of_mem hx;rw[List.length_cons];omega
def run(qv:LL9)(as:List Int)(k:Int):Nat->List Int×Int
 | 0=>(as,k)
 | n+1=>(gone qv (run qv as k n).1 (run qv as k n).2,led qv (run qv as k n).1 (run qv as k n).2)
section
variable{qv:LL9}(h:Hs qv){as:List Int}(ha:Arr qv as){k:Int}(h0:0<=k)(h1:k < (qv.length:Int))
include h ha h0 h1
theorem agd:∀t:Nat,(∀i < t,0<=(run qv as k i).2)->Arr qv (run qv as k t).1 /\ -3<=(run qv as k t).2/\(run qv as k t).2 < (qv.length:Int)
 | 0,_=>⟨ha,by show -3<=k;omega,h1⟩
 | t+1,hp=>by
  obtain⟨a1,a2,a3⟩:=agd t fun i hi=>hp i (by omega)
  have a0:=hp t (by omega)
  exact⟨abi h a1 a0 a3,atx h a1 a0 a3⟩
end
def gdB(R:List Int)(d:Int):Bool:=decide (d < 0)||decide (d∈R)
section
variable{qv:LL9}(h:Hs qv){R:List Int}
include h
theorem ao2(hop:yr qv=[])(hl:R.length < qv.length):∃y,0<=y/\y < (qv.length:Int)/\y∉R/\∃d∈dr qv y,gdB R d=true:=by
 apply Classical.byContradiction;intro H;have hy:∃y:Int,0<=y/\y < (qv.length:Int)/\y∉R:=by
  apply Classical.byContradiction;intro H2;have:=aey (a:=(List.range qv.length).map fun(i:Nat)=>(i:Int)) (b:=R) (by
   rw[List.Nodup,List.pairwise_map];exact List.Pairwise.imp (fun{a b} hab=>by omega) List.pairwise_lt_range) fun x hx=>by
   obtain⟨i,hi,rfl⟩:=List.mem_map.mp hx;have:=List.mem_range.mp hi;apply Classical.byContradiction;intro hn;exact H2 ⟨(i:Int),by omega,by omega,hn⟩
  rw[List.length_map,List.length_range] at this;omega
 obtain⟨y,y0,y1,yn⟩:=hy;have all:∀z,Rch qv y z->0<=z/\z < (qv.length:Int)/\z∉R:=fun z hz=>by
  induction hz with
  | base=>exact⟨y0,y1,yn⟩
  | @step x d r _ hd ih =>
   have hb:=(h.dr ih.1 ih.2.1).2.2 d hd;have hg:gdB R d≠true:=fun g=>H ⟨x,ih.1,ih.2.1,ih.2.2,d,hd,g⟩
   unfold gdB at hg;rw[Ne,Bool.or_eq_true,decide_eq_true_eq,decide_eq_true_eq] at hg;exact⟨by
    rcases Int.lt_or_le d 0 with q | q
    ·exact absurd (.inl q) hg
    ·exact q,hb.2,fun q=>hg (.inr q)⟩
 have:y∈yr qv:=List.mem_filter.mpr ⟨by
  unfold upto;exact List.mem_map.mpr ⟨y.toNat,List.mem_range.mpr (by omega),by omega⟩,(v5 qv y).mpr fun z hz=>(all z hz).1⟩
 rw[hop] at this;cases this
end
def cv(qv:LL9)(as:List Int)(k y:Int):Nat->Nat
 | 0=>0
 | t+1=>cv qv as k y t+if (run qv as k t).2=y then 1 else 0
def av(qv:LL9)(as:List Int)(k d:Int):Nat->Nat
 | 0=>0
 | t+1=>av qv as k d t+if (run qv as k (t+1)).2=d then 1 else 0
theorem a0o(qv:LL9)(as:List Int)(k d:Int):∀t,av qv as k d t<=cv qv as k d (t+1)
 | 0=>Nat.zero_le _
 | t+1=>by
  have ih:=a0o qv as k d t;show av qv as k d t+(if (run qv as k (t+1)).2=d then 1 else 0)<=cv qv as k d (t+1)+(if (run qv as k (t+1)).2=d then 1 else 0)
  omega
theorem a5v(qv:LL9)(as:List Int)(k d:Int)(t:Nat):av qv as k d t<=cv qv as k d t+1:=by
 have h:=a0o qv as k d t;have e:cv qv as k d (t+1)=cv qv as k d t+if (run qv as k t).2=d then 1 else 0:=rfl
 rw[e] at h;split at h <;> omega
theorem ap2{qv:LL9}{as:List Int}{k d:Int}(hd:d < 0):∀t,(∀i < t,0<=(run qv as k i).2)->cv qv as k d t=0
 | 0,_=>rfl
 | t+1,hp=>by
  have ih:=ap2 hd t fun i hi=>hp i (by omega)
  have p0:=hp t (by omega)
  show cv qv as k d t+(if (run qv as k t).2=d then 1 else 0)=0
  rw[ih,if_neg (by omega)]
theorem aj9{x w:Int}(h0 : -w<=x)(h1:x < 0):x % w=x+w:=by
 rw[<-Int.add_emod_right x w];exact Int.emod_eq_of_lt (by omega) (by omega)
theorem rot{a e w:Int}(a0:0<=a)(a1:a < w)(e0:0<=e)(e1:e < w)(ne:a≠e):((a+1) % w - e - 1) % w=(a - e - 1) % w+1:=by
 rcases Int.lt_or_le (a+1) w with q | q
 ·rw[Int.emod_eq_of_lt (by omega) q]
  rcases Int.lt_or_le a e with z | z
  ·rw[aj9 (by omega) (by omega),aj9 (by omega) (by omega)]
   omega
  ·rw[Int.emod_eq_of_lt (show 0<=a+1 - e - 1 by omega) (by omega),Int.emod_eq_of_lt (show 0<=a - e - 1 by omega) (by omega)]
   omega
 ·have ew:a+1=w:=by omega
  rw[ew,Int.emod_self,aj9 (by omega) (by omega),Int.emod_eq_of_lt (show 0<=a - e - 1 by omega) (by omega)]
  omega
section
variable{qv:LL9}(h:Hs qv){as:List Int}(ha:Arr qv as){k:Int}(h0:0<=k)(h1:k < (qv.length:Int))
include h ha h0 h1
theorem aud{y:Int}(y0:0<=y)(y1:y < (qv.length:Int)){e:Nat}(he:e < (dr qv y).length):∀t,(∀i < t,0<=(run qv as k i).2)->(cv qv as k y t:Int)<=((dr qv y).length:Int)*(av qv as k ((dr qv y).getD e 0) t:Int)+(ar (run qv as k t).1 y - (e:Int) - 1) % ((dr qv y).length:Int)
 | 0,_=>by
  have:0<=(ar (run qv as k 0).1 y - (e:Int) - 1) % ((dr qv y).length:Int):=Int.emod_nonneg _ (by omega)
  show((0:Nat):Int)<=((dr qv y).length:Int)*((0:Nat):Int)+_;simp;exact this
 | t+1,hp=>by
  have hp':∀i < t,0<=(run qv as k i).2:=fun i hi=>hp i (by omega)
  have ih:=aud y0 y1 he t hp';obtain⟨a1,a2,a3⟩:=agd h ha h0 h1 t hp';have p0:=hp t (by omega)
  have ec:cv qv as k y (t+1)=cv qv as k y t+if (run qv as k t).2=y then 1 else 0:=rfl
  have ea:av qv as k ((dr qv y).getD e 0) (t+1)=av qv as k ((dr qv y).getD e 0) t+if (run qv as k (t+1)).2=(dr qv y).getD e 0 then 1 else 0:=rfl
  have er:(run qv as k (t+1)).1=gone qv (run qv as k t).1 (run qv as k t).2:=rfl;have el:(run qv as k (t+1)).2=led qv (run qv as k t).1 (run qv as k t).2:=rfl;have aa:=a1.at y0 y1;have al:=a1.len
  by_cases hy:(run qv as k t).2=y
  ·rw[ec,ea,er,el,hy,if_pos rfl];rw[aa9 (by omega)]
   generalize hA:ar (run qv as k t).1 y=a at *
   by_cases ne:a=(e:Int)
   ·have:led qv (run qv as k t).1 y=(dr qv y).getD e 0:=by
     unfold led;rw[hA,ne];rfl
    rw[if_pos this];have b1:=Int.emod_lt_of_pos (a - (e:Int) - 1) (show(0:Int) < ((dr qv y).length:Int) by omega)
    have b2:=Int.emod_nonneg ((a+1) % ((dr qv y).length:Int) - (e:Int) - 1) (show((dr qv y).length:Int)≠0 by omega)
    have em:((dr qv y).length:Int)*((av qv as k ((dr qv y).getD e 0) t+1:Nat):Int)=((dr qv y).length:Int)*(av qv as k ((dr qv y).getD e 0) t:Int)+((dr qv y).length:Int):=by
     rw[Int.natCast_add,Int.mul_add];simp
    rw[em];omega
   ·have b:=rot aa.1 aa.2 (show(0:Int)<=(e:Int) by omega) (by omega) ne
    have em:((dr qv y).length:Int)*(av qv as k ((dr qv y).getD e 0) t:Int)<=((dr qv y).length:Int)*((av qv as k ((dr qv y).getD e 0) t+(if led qv (run qv as k t).1 y=(dr qv y).getD e 0 then 1 else 0):Nat):Int):=Int.mul_le_mul_of_nonneg_left (by omega) (by omega)
    rw[b];omega
  ·rw[ec,ea,er,if_neg hy,adw y0 p0 (Ne.symm hy)];have em:((dr qv y).length:Int)*(av qv as k ((dr qv y).getD e 0) t:Int)<=((dr qv y).length:Int)*((av qv as k ((dr qv y).getD e 0) t+(if (run qv as k (t+1)).2=(dr qv y).getD e 0 then 1 else 0):Nat):Int):=Int.mul_le_mul_of_nonneg_left (by omega) (by omega)
   omega
theorem aw9{W:Nat}(hw:∀r∈qv,r.length<=W){y:Int}(y0:0<=y)(y1:y < (qv.length:Int)){d:Int}(hd:d∈dr qv y){t:Nat}(hp:∀i < t,0<=(run qv as k i).2):cv qv as k y t<=W*cv qv as k d t+2*W:=by
 obtain⟨e,he,ed⟩:=List.mem_iff_getElem.mp hd;have i:=aud h ha h0 h1 y0 y1 he t hp;have ed':(dr qv y).getD e 0=d:=by rw[List.getD_eq_getElem?_getD,List.getElem?_eq_getElem he];exact ed
 rw[ed'] at i;have b1:=Int.emod_lt_of_pos (ar (run qv as k t).1 y - (e:Int) - 1) (show(0:Int) < ((dr qv y).length:Int) by omega)
 have w3:(dr qv y).length<=W:=hw _ (by
  have hk:y.toNat < qv.length:=by omega
  unfold dr;rw[List.getD_eq_getElem?_getD,List.getElem?_eq_getElem hk];exact List.getElem_mem hk)
 have al:=a5v qv as k d t;have em:((dr qv y).length:Int)*(av qv as k d t:Int)<=(W:Int)*(av qv as k d t:Int):=Int.mul_le_mul_of_nonneg_right (by omega) (by omega)
 have en:(W:Int)*(av qv as k d t:Int)<=(W:Int)*((cv qv as k d t:Int)+1):=Int.mul_le_mul_of_nonneg_left (by omega) (by omega)
 rw[Int.mul_add,Int.mul_one] at en;have:(cv qv as k y t:Int)<=((W*cv qv as k d t+2*W:Nat):Int):=by
  rw[Int.natCast_add,Int.natCast_mul,Int.natCast_mul];omega
 omega
def mx(W:Nat):Nat->Nat
 | 0=>0
 | j+1=>W*mx W j+2*W
def sx(W:Nat):Nat->Nat
 | 0=>0
 | j+1=>sx W j+mx W (j+1)
omit h ha h0 h1 in
theorem arc(f:Int->Nat)(p:Int):∀R:List Int,p∈R->(R.map f).sum+1<=(R.map fun x=>f x+if p=x then 1 else 0).sum:=fun R=>by
 have base:∀R:List Int,(R.map f).sum<=(R.map fun x=>f x+if p=x then 1 else 0).sum:=fun R=>by
  induction R with
  | nil=>exact Nat.le_refl _
  | cons x r ih =>
   rw[List.map_cons,List.map_cons,List.sum_cons,List.sum_cons];omega
 induction R with
 | nil=>intro hp;cases hp
 | cons x r ih =>
  intro hp;rw[List.map_cons,List.map_cons,List.sum_cons,List.sum_cons];rcases List.mem_cons.mp hp with rfl | hp
  ·have:=base r;rw[if_pos rfl];omega
  ·have:=ih hp;omega
omit h ha h0 h1 in
theorem ah2{R:List Int}:∀t,(∀i < t,(run qv as k i).2∈R)->t<=(R.map fun x=>cv qv as k x t).sum
 | 0,_=>Nat.zero_le _
 | t+1,hp=>by
  have ih:=ah2 (R:=R) t fun i hi=>hp i (by omega)
  have:=arc (fun x=>cv qv as k x t) (run qv as k t).2 R (hp t (by omega))
  exact Nat.le_trans (Nat.succ_le_succ ih) this
theorem ahz{W:Nat}(hW1:1<=W)(hop:yr qv=[])(hw:∀r∈qv,r.length<=W){t:Nat}(hp:∀i < t,0<=(run qv as k i).2):t<=sx W qv.length:=by
 have claim:∀j,j<=qv.length->∃R:List Int,R.Nodup/\R.length=j/\(∀x∈R,0<=x/\x < (qv.length:Int))/\(∀x∈R,cv qv as k x t<=mx W j)/\(R.map fun x=>cv qv as k x t).sum<=sx W j:=fun j=>by
  induction j with
  | zero=>exact fun _=>⟨[],List.Pairwise.nil,rfl,fun x hx=>absurd hx List.not_mem_nil,fun x hx=>absurd hx List.not_mem_nil,Nat.le_refl _⟩
  | succ j ih =>
   intro hj;obtain⟨R,nd,hl,hin,hm,hs⟩:=ih (by omega)
   obtain⟨y,y0,y1,yn,d,hd,hg⟩:=ao2 h (R:=R) hop (by omega)
   have cd:cv qv as k d t<=mx W j:=by
    unfold gdB at hg;rw[Bool.or_eq_true,decide_eq_true_eq,decide_eq_true_eq] at hg;rcases hg with q | q
    ·rw[ap2 q t hp];exact Nat.zero_le _
    ·exact hm d q
   have cy:=aw9 h ha h0 h1 hw y0 y1 hd hp;have em:mx W (j+1)=W*mx W j+2*W:=rfl;have em2:W*cv qv as k d t<=W*mx W j:=Nat.mul_le_mul_left _ cd;have em3:mx W j<=W*mx W j:=Nat.le_mul_of_pos_left _ hW1;refine⟨y::R,List.Pairwise.cons (fun a ha e=>yn (e▸ha)) nd,by rw[List.length_cons,hl],fun x hx =>?_,fun x hx =>?_,?_⟩
   ·rcases List.mem_cons.mp hx with rfl | hx
    ·exact⟨y0,y1⟩
    ·exact hin x hx
   ·rcases List.mem_cons.mp hx with rfl | hx
    ·omega
    ·have:=hm x hx;omega
   ·rw[List.map_cons,List.sum_cons];show _<=sx W j+mx W (j+1);omega
 obtain⟨R,nd,hl,hin,hm,hs⟩:=claim qv.length (Nat.le_refl _);refine Nat.le_trans (ah2 t fun i hi =>?_) hs
 have p0:=hp i hi;have p1:=(agd h ha h0 h1 i fun j hj=>hp j (by omega)).2.2
 apply Classical.byContradiction;intro hn;have:=agf qv.length ((run qv as k i).2::R) (List.Pairwise.cons (fun a ha e=>hn (e▸ha)) nd) fun a ha=>by
  rcases List.mem_cons.mp ha with rfl | ha
  ·exact⟨p0,p1⟩
  ·exact hin a ha
 rw[List.length_cons] at this;omega
theorem aq6{W:Nat}(hW1:1<=W)(hop:yr qv=[])(hw:∀r∈qv,r.length<=W):∃T,1<=T/\T<=sx W qv.length/\(∀i < T,0<=(run qv as k i).2)/\(run qv as k T).2 < 0:=by
 have ex:∃t,(run qv as k t).2 < 0:=by
  apply Classical.byContradiction;intro H;have:=ahz h ha h0 h1 hW1 hop hw (t:=sx W qv.length+1) fun i _=>by
   rcases Int.lt_or_le (run qv as k i).2 0 with q | q
   ·exact absurd ⟨i,q⟩ H
   ·exact q
  omega
 obtain⟨t,ht⟩:=ex;obtain⟨T,hT,hmin⟩:=least (P:=fun t=>(run qv as k t).2 < 0) t ht
 have hp:∀i < T,0<=(run qv as k i).2:=fun i hi=>by
  have:¬(run qv as k i).2 < 0:=hmin i hi;omega
 refine⟨T,?_,ahz h ha h0 h1 hW1 hop hw hp,hp,hT⟩;rcases Nat.eq_zero_or_pos T with z | z
 ·subst z;have:(run qv as k 0).2=k:=rfl;have hT:(run qv as k 0).2 < 0:=hT;omega
 ·exact z
end
def vis(qv:LL9)(as:List Int)(k:Int)(T:Nat):List Int:=(List.range T).map fun i=>(run qv as k i).2
def go(qv:LL9):List Int->List Int->List Int
 | as,[]=>as
 | as,x::s=>go qv (gone qv as x) s
def arv(qv:LL9)(d:Int):List Int->List Int->Nat
 | _,[]=>0
 | as,x::s=>(if led qv as x=d then 1 else 0)+arv qv d (gone qv as x) s
def us(qv:LL9)(as:List Int)(y d:Int):Nat->Nat
 | 0=>0
 | n+1=>us qv as y d n+if (dr qv y).getD ((ar as y+(n:Int)) % ((dr qv y).length:Int)).toNat 0=d then 1 else 0
def InR(qv:LL9)(s:List Int):Prop:=∀x∈s,0<=x/\x < (qv.length:Int)
theorem ai3(qv:LL9):∀(s t as:List Int),go qv as (s++t)=go qv (go qv as s) t
 | [],t,as=>rfl
 | x::s,t,as=>ai3 qv s t (gone qv as x)
theorem qt(qv:LL9)(d:Int):∀(s t as:List Int),arv qv d as (s++t)=arv qv d as s+arv qv d (go qv as s) t
 | [],t,as=>by simp[arv,go]
 | x::s,t,as=>by
  show(if led qv as x=d then 1 else 0)+arv qv d (gone qv as x) (s++t)=(if led qv as x=d then 1 else 0)+arv qv d (gone qv as x) s+arv qv d (go qv (gone qv as x) s) t
  rw[qt qv d s t];omega
theorem je(x y:Int)(s:List Int):(x::s).count y=s.count y+if x=y then 1 else 0:=by
 rw[List.count_cons];simp
theorem air{a c w:Int}(hw:0 < w):((a+1) % w+c) % w=(a+(c+1)) % w:=by
 rw[Int.emod_add_emod]
 congr 1
 omega
theorem ajy(qv:LL9)(as:List Int)(y d:Int){m n:Nat}(h:m<=n):us qv as y d m<=us qv as y d n:=by
 induction n with
 | zero =>
  have:m=0:=by omega
  rw[this];exact Nat.le_refl _
 | succ n ih =>
  by_cases q:m=n+1
  ·rw[q];exact Nat.le_refl _
  ·have:=ih (by omega)
   have e:us qv as y d (n+1)=us qv as y d n+if (dr qv y).getD ((ar as y+(n:Int)) % ((dr qv y).length:Int)).toNat 0=d then 1 else 0:=rfl
   omega
theorem aeb(f g:Int->Nat):∀l:List Int,(∀x∈l,f x<=g x)->(l.map f).sum<=(l.map g).sum
 | [],_=>Nat.le_refl _
 | x::l,h=>by
  rw[List.map_cons,List.map_cons,List.sum_cons,List.sum_cons];have:=h x (List.mem_cons_self ..);have:=aeb f g l fun y hy=>h y (List.mem_cons_of_mem _ hy)
  omega
theorem u6(f g:Int->Nat):∀l:List Int,(∀x∈l,f x=g x)->(l.map f).sum=(l.map g).sum
 | [],_=>rfl
 | x::l,h=>by
  rw[List.map_cons,List.map_cons,List.sum_cons,List.sum_cons,h x (List.mem_cons_self ..),u6 f g l fun y hy=>h y (List.mem_cons_of_mem _ hy)]
theorem agt(f g:Int->Nat)(x:Int)(k:Nat)(hx:f x=k+g x):∀l:List Int,l.Nodup->x∈l->(∀y∈l,y≠x->f y=g y)->(l.map f).sum=k+(l.map g).sum
 | [],_,h,_=>by cases h
 | y::l,hn,h,hs=>by
  obtain⟨h1,h2⟩:=List.pairwise_cons.mp hn;rw[List.map_cons,List.map_cons,List.sum_cons,List.sum_cons]
  by_cases e:y=x
  ·subst e;rw[hx,u6 f g l fun z hz=>hs z (List.mem_cons_of_mem _ hz) fun q=>h1 z hz q.symm]
   omega
  ·have hm:x∈l:=by
    rcases List.mem_cons.mp h with q | q
    ·exact absurd q.symm e
    ·exact q
   rw[hs y (List.mem_cons_self ..) e,agt f g x k hx l h2 hm fun z hz=>hs z (List.mem_cons_of_mem _ hz)]
   omega
theorem ac6(n:Nat):(upto n).Nodup:=by
 unfold upto;rw[List.Nodup,List.pairwise_map];exact List.Pairwise.imp (fun{a b} hab=>by omega) List.pairwise_lt_range
theorem aae{n:Nat}{x:Int}(h0:0<=x)(h1:x < (n:Int)):x∈upto n:=by
 unfold upto;exact List.mem_map.mpr ⟨x.toNat,List.mem_range.mpr (by omega),by omega⟩
section
variable{qv:LL9}(h:Hs qv)
include h
theorem abx:∀(s:List Int) {as:List Int},Arr qv as->InR qv s->Arr qv (go qv as s)
 | [],_,ha,_=>ha
 | x::s,as,ha,hs=>abx s (abi h ha (hs x (List.mem_cons_self ..)).1 (hs x (List.mem_cons_self ..)).2) fun y hy=>hs y (List.mem_cons_of_mem _ hy)
theorem ahv{y:Int}(y0:0<=y)(y1:y < (qv.length:Int)):∀(s:List Int) {as:List Int},Arr qv as->InR qv s->ar (go qv as s) y=(ar as y+(s.count y:Int)) % ((dr qv y).length:Int)
 | [],as,ha,_=>by
  have a:=ha.at y0 y1;show ar as y=(ar as y+0) % _;rw[Int.add_zero,Int.emod_eq_of_lt a.1 a.2]
 | x::s,as,ha,hs=>by
  have hx:=hs x (List.mem_cons_self ..);have hd:=(h.dr y0 y1).1;have hal:=ha.len;have ih:=ahv y0 y1 s (abi h ha hx.1 hx.2) fun z hz=>hs z (List.mem_cons_of_mem _ hz)
  show ar (go qv (gone qv as x) s) y=_;rw[ih,je]
  by_cases e:x=y
  ·subst e;rw[aa9 (by omega),if_pos rfl,air (by omega),Int.natCast_add]
   rfl
  ·rw[adw y0 hx.1 (Ne.symm e),if_neg e];rfl
theorem axu{as:List Int}{x y d:Int}(x0:0<=x)(y0:0<=y)(e:y≠x):∀n,us qv (gone qv as x) y d n=us qv as y d n
 | 0=>rfl
 | n+1=>by
  unfold us;rw[axu x0 y0 e n,adw y0 x0 e]
theorem ajx{as:List Int}(ha:Arr qv as){x d:Int}(x0:0<=x)(x1:x < (qv.length:Int)):∀n,us qv as x d (n+1)=(if led qv as x=d then 1 else 0)+us qv (gone qv as x) x d n
 | 0=>by
  have a:=ha.at x0 x1;show 0+(if (dr qv x).getD ((ar as x+0) % ((dr qv x).length:Int)).toNat 0=d then 1 else 0)=_+0
  rw[Int.add_zero,Int.emod_eq_of_lt a.1 a.2];unfold led;omega
 | n+1=>by
  have ih:=ajx ha (d:=d) x0 x1 n;have hd:=(h.dr x0 x1).1;have hal:=ha.len;have e1:us qv as x d (n+2)=us qv as x d (n+1)+if (dr qv x).getD ((ar as x+((n+1:Nat):Int)) % ((dr qv x).length:Int)).toNat 0=d then 1 else 0:=rfl
  have e2:us qv (gone qv as x) x d (n+1)=us qv (gone qv as x) x d n+if (dr qv x).getD ((ar (gone qv as x) x+(n:Int)) % ((dr qv x).length:Int)).toNat 0=d then 1 else 0:=rfl
  rw[e1,e2,ih,aa9 (by omega),air (by omega),Int.natCast_add]
  show _+_+(if (dr qv x).getD ((ar as x+((n:Int)+1)) % ((dr qv x).length:Int)).toNat 0=d then 1 else 0)=_
  omega
theorem aav(d:Int):∀(s:List Int) {as:List Int},Arr qv as->InR qv s->arv qv d as s=((upto qv.length).map fun y=>us qv as y d (s.count y)).sum
 | [],as,_,_=>by
  show 0=_
  symm
  rw[u6 (fun y=>us qv as y d (([]:List Int).count y)) (fun _=>0) _ fun x _=>rfl]
  generalize upto qv.length=l
  induction l with
  | nil=>rfl
  | cons x l ih=>rw[List.map_cons,List.sum_cons,ih]
 | x::s,as,ha,hs=>by
  have hx:=hs x (List.mem_cons_self ..);have ih:=aav d s (abi h ha hx.1 hx.2) fun z hz=>hs z (List.mem_cons_of_mem _ hz)
  show(if led qv as x=d then 1 else 0)+arv qv d (gone qv as x) s=_
  rw[ih]
  symm
  refine agt _ _ x _ ?_ _ (ac6 _) (aae hx.1 hx.2) fun y hy e =>?_
  ·show us qv as x d ((x::s).count x)=_;rw[je,if_pos rfl,ajx h ha hx.1 hx.2]
  ·show us qv as y d ((x::s).count y)=us qv (gone qv as x) y d (s.count y);rw[je,if_neg (Ne.symm e),axu h hx.1 (km hy).1 e];rfl
theorem auj{as s t:List Int}(ha:Arr qv as)(hs:InR qv s)(ht:InR qv t)(hc:∀y,0<=y->y < (qv.length:Int)->s.count y<=t.count y)(d:Int):arv qv d as s<=arv qv d as t:=by
 rw[aav h d s ha hs,aav h d t ha ht];exact aeb _ _ _ fun y hy=>ajy _ _ _ _ (hc y (km hy).1 (km hy).2)
end
def Lg(qv:LL9)(as:List Int)(w:Int->Nat)(s:List Int):Prop:=∀p x q,s=p++x::q->(0<=x/\x < (qv.length:Int))/\p.count x < w x+arv qv x as p
def Stb(qv:LL9)(as:List Int)(w:Int->Nat)(s:List Int):Prop:=∀x,0<=x->x < (qv.length:Int)->s.count x=w x+arv qv x as s
theorem Lg.inR{qv:LL9}{as:List Int}{w:Int->Nat}{s:List Int}(l:Lg qv as w s):InR qv s:=fun x hx=>by
 obtain⟨p,q,e⟩:=List.append_of_mem hx;exact(l p x q e).1
theorem InR.count{qv:LL9}{s:List Int}(hs:InR qv s){x:Int}(hx:¬(0<=x/\x < (qv.length:Int))):s.count x=0:=List.count_eq_zero.mpr fun q=>hx (hs x q)
theorem InR.append{qv:LL9}{s t:List Int}(hs:InR qv s)(ht:InR qv t):InR qv (s++t):=fun x hx=>(List.mem_append.mp hx).elim (hs x) (ht x)
section
variable{qv:LL9}(h:Hs qv){as:List Int}(ha:Arr qv as){w:Int->Nat}
include h ha
theorem acv{s t:List Int}(hs:Lg qv as w s)(ht:InR qv t)(hst:∀x,0<=x->x < (qv.length:Int)->w x+arv qv x as t<=t.count x)(x:Int):s.count x<=t.count x:=by
 have claim:∀k,k<=s.length->∀x,(s.take k).count x<=t.count x:=fun k=>by
  induction k with
  | zero=>intro _ x;simp
  | succ k ih =>
   intro hk x;have hk':k < s.length:=by omega
   have e:s.take (k+1)=s.take k++[s[k]]:=by rw[List.take_succ,List.getElem?_eq_getElem hk'];rfl
   have es:s=s.take k++s[k]::s.drop (k+1):=by
    rw[<-List.drop_eq_getElem_cons hk',List.take_append_drop]
   obtain⟨b,l⟩:=hs _ _ _ es;have ih:=ih (by omega)
   rw[e,List.count_append,je]
   by_cases q:s[k]=x
   ·rw[if_pos q];have hin:InR qv (s.take k):=fun z hz=>hs.inR z (List.mem_of_mem_take hz)
    have m:=auj h ha hin ht (fun y _ _=>ih y) s[k]
    have z:=hst _ b.1 b.2;rw[<-q];simp;omega
   ·rw[if_neg q];have:=ih x;simp;exact this
 have:=claim s.length (Nat.le_refl _) x;rwa[List.take_length] at this
theorem abel{s t:List Int}(hs:Lg qv as w s)(ss:Stb qv as w s)(ht:Lg qv as w t)(st:Stb qv as w t)(x:Int):s.count x=t.count x :=
 Nat.le_antisymm (acv h ha hs ht.inR (fun x a b=>Nat.le_of_eq (st x a b).symm) x) (acv h ha ht hs.inR (fun x a b=>Nat.le_of_eq (ss x a b).symm) x)
theorem go_same{s t:List Int}(hs:InR qv s)(ht:InR qv t)(hc:∀x,s.count x=t.count x):go qv as s=go qv as t:=by
 have l1:=(abx h s ha hs).len;have l2:=(abx h t ha ht).len;apply List.ext_getElem?;intro i
 by_cases hi:i < qv.length
 ·have e1:=ahv h (y:=(i:Int)) (by omega) (by omega) s ha hs
  have e2:=ahv h (y:=(i:Int)) (by omega) (by omega) t ha ht
  rw[hc,<-e2] at e1;unfold ar at e1;rw[show((i:Nat):Int).toNat=i by omega,List.getD_eq_getElem?_getD,List.getD_eq_getElem?_getD,List.getElem?_eq_getElem (by omega),List.getElem?_eq_getElem (by omega)] at e1
  rw[List.getElem?_eq_getElem (by omega),List.getElem?_eq_getElem (by omega)]
  exact congrArg some e1
 ·rw[List.getElem?_eq_none (by omega),List.getElem?_eq_none (by omega)]
theorem Lg.append{w2:Int->Nat}{s t:List Int}(hs:Lg qv as w s)(ss:Stb qv as w s)(ht:Lg qv (go qv as s) w2 t):Lg qv as (fun x=>w x+w2 x) (s++t):=fun p x q e=>by
 rcases List.append_eq_append_iff.mp e with⟨r,e1,e2⟩ | ⟨r,e1,e2⟩
 ·-- the beginning is longer than s
  obtain⟨b,l⟩:=ht r x q e2;have z:=ss x b.1 b.2;refine⟨b,?_⟩;rw[e1,List.count_append,qt];show s.count x+r.count x < w x+w2 x+_;omega
 ·cases r with
  | nil =>
   rw[List.nil_append] at e2;obtain⟨b,l⟩:=ht [] x q (by rw[List.nil_append];exact e2.symm)
   rw[List.append_nil] at e1;have z:=ss x b.1 b.2;refine⟨b,?_⟩;rw[<-e1];have l:([]:List Int).count x < w2 x+0:=l;simp at l;show s.count x < w x+w2 x+arv qv x as s;omega
  | cons y r =>
   rw[List.cons_append,List.cons.injEq] at e2;obtain⟨rfl,e2⟩:=e2;obtain⟨b,l⟩:=hs p x r e1;refine⟨b,?_⟩;show p.count x < w x+w2 x+_;omega
omit h ha in
theorem Stb.append{w2:Int->Nat}{s t:List Int}(ss:Stb qv as w s)(st:Stb qv (go qv as s) w2 t):Stb qv as (fun x=>w x+w2 x) (s++t):=fun x x0 x1=>by
 have a:=ss x x0 x1;have b:=st x x0 x1;rw[List.count_append,qt];show _=w x+w2 x+_;omega
end
theorem ak1(qv:LL9)(as:List Int)(k:Int)(t:Nat):vis qv as k (t+1)=vis qv as k t++[(run qv as k t).2]:=by
 unfold vis;rw[List.range_succ,List.map_append];rfl
theorem api(qv:LL9)(as:List Int)(k:Int):∀t,go qv as (vis qv as k t)=(run qv as k t).1
 | 0=>rfl
 | t+1=>by
  rw[ak1,ai3,api qv as k t];rfl
theorem ajw(qv:LL9)(as:List Int)(k d:Int):∀t,(vis qv as k t).count d+(if (run qv as k t).2=d then 1 else 0)=(if k=d then 1 else 0)+arv qv d as (vis qv as k t)
 | 0=>by
  show 0+(if k=d then 1 else 0)=(if k=d then 1 else 0)+0
  omega
 | t+1=>by
  have ih:=ajw qv as k d t;rw[ak1,List.count_append,qt,api,je];show(vis qv as k t).count d+(([]:List Int).count d+(if (run qv as k t).2=d then 1 else 0))+(if led qv (run qv as k t).1 (run qv as k t).2=d then 1 else 0)=(if k=d then 1 else 0)+(arv qv d as (vis qv as k t)+((if led qv (run qv as k t).1 (run qv as k t).2=d then 1 else 0)+0))
  have z:([]:List Int).count d=0:=rfl;omega
def at1(k:Int):Int->Nat:=fun x=>if k=x then 1 else 0
section
variable{qv:LL9}(h:Hs qv){as:List Int}(ha:Arr qv as){k:Int}(h0:0<=k)(h1:k < (qv.length:Int)){T:Nat}(hp:∀i < T,0<=(run qv as k i).2)
include h ha h0 h1 hp
theorem axt:Lg qv as (at1 k) (vis qv as k T):=fun p x q e=>by
 have hl:(vis qv as k T).length=T:=by simp[vis]
 have hpl:p.length < T:=by
  rw[<-hl,e,List.length_append,List.length_cons];omega
 have ep:p=vis qv as k p.length:=by
  have:(vis qv as k T).take p.length=p:=by rw[e];exact List.take_left' rfl
  have e2:(vis qv as k T).take p.length=vis qv as k p.length:=by
   unfold vis;rw[<-List.map_take,List.take_range,Nat.min_eq_left (by omega)]
  rw[<-e2,this]
 have ex:x=(run qv as k p.length).2:=by
  have:(vis qv as k T)[p.length]? = some x:=by rw[e,List.getElem?_append_right (Nat.le_refl _),Nat.sub_self];rfl
  unfold vis at this;rw[List.getElem?_map,List.getElem?_range hpl] at this;exact(Option.some.inj this).symm
 have p0:=hp _ hpl;have p1:=(agd h ha h0 h1 p.length fun j hj=>hp j (by omega)).2.2
 have b:=ajw qv as k x p.length;rw[<-ep,<-ex,if_pos rfl] at b;refine⟨by rw[ex];exact⟨p0,p1⟩,?_⟩
 show p.count x < (if k=x then 1 else 0)+_
 omega
omit h ha h0 h1 hp in
theorem anl(hn:(run qv as k T).2 < 0):Stb qv as (at1 k) (vis qv as k T):=fun x x0 x1=>by
 have b:=ajw qv as k x T;rw[if_neg (by omega)] at b
 exact b
end
inductive Led (qv:LL9):List Int->List Int->List Int->Prop
 | nil (as:List Int):Led qv as [] []
 | cons {as:List Int} {k:Int} {T:Nat} {rs s:List Int} (h0:0<=k) (h1:k < (qv.length:Int)) (hp:∀i < T,0<=(run qv as k i).2) (hn:(run qv as k T).2 < 0) (t:Led qv (run qv as k T).1 rs s):Led qv as (k::rs) (vis qv as k T++s)
theorem Led.ok{qv:LL9}(h:Hs qv){as rs s:List Int}(l:Led qv as rs s):Arr qv as->Lg qv as (fun x=>rs.count x) s/\Stb qv as (fun x=>rs.count x) s:=by
 induction l with
 | nil as =>
  intro _;exact⟨fun p x q e=>by simp at e,fun x _ _=>rfl⟩
 | @cons as k T rs s h0 h1 hp hn t ih =>
  intro ha;obtain⟨l1,l2⟩:=ih (agd h ha h0 h1 T hp).1;rw[<-api] at l1 l2;have a1:=(axt h ha h0 h1 hp).append h ha (anl hn) l1;have a2:=(anl hn).append l2;have e:(fun x=>at1 k x+rs.count x)=fun x=>(k::rs).count x:=by
   funext x
   rw[je];unfold at1;omega
  rw[e] at a1 a2;exact⟨a1,a2⟩
theorem Led.same{qv:LL9}(h:Hs qv){as rs s rs' s':List Int}(l:Led qv as rs s)(l':Led qv as rs' s')(ha:Arr qv as)(hc:∀x,rs.count x=rs'.count x):(∀x,s.count x=s'.count x)/\go qv as s=go qv as s':=by
 obtain⟨a1,a2⟩:=l.ok h ha;obtain⟨b1,b2⟩:=l'.ok h ha;have e:(fun x=>rs.count x)=fun x=>rs'.count x:=funext hc
 rw[e] at a1 a2;have c:=abel h ha a1 a2 b1 b2;exact⟨c,go_same h ha a1.inR b1.inR c⟩
def tal(n:Nat)(s:List Int):List Int:=(List.range n).map fun i=>((s.count ((i:Nat):Int):Nat):Int)
theorem ye(n:Nat)(s:List Int):(tal n s).length=n:=by simp[tal]
theorem auv(n:Nat):tal n []=List.replicate n 0:=by
 apply List.ext_getElem?;intro i
 by_cases hi:i < n
 ·simp[tal,hi]
 ·simp[tal,hi]
theorem arb{n:Nat}{s t:List Int}(h:∀x,s.count x=t.count x):tal n s=tal n t:=by
 unfold tal;simp only[h]
theorem ael{n:Nat}(s:List Int){i:Nat}(hi:i < n):(tal n s)[i]? = some ((s.count ((i:Nat):Int):Nat):Int):=by
 unfold tal;rw[List.getElem?_map,List.getElem?_range hi];rfl
theorem Lg.nil{qv:LL9}{as:List Int}{w:Int->Nat}:Lg qv as w []:=fun p x q e=>by simp at e
theorem Lg.snoc{qv:LL9}{as:List Int}{w:Int->Nat}{s:List Int}(l:Lg qv as w s){x:Int}(x0:0<=x)(x1:x < (qv.length:Int))(h:s.count x < w x+arv qv x as s):Lg qv as w (s++[x]):=fun p y q e=>by
 rcases List.append_eq_append_iff.mp e with⟨r,e1,e2⟩ | ⟨r,e1,e2⟩
 ·cases r with
  | nil =>
   rw[List.nil_append,List.cons.injEq] at e2;rw[List.append_nil] at e1;subst e1;rw[<-e2.1];exact⟨⟨x0,x1⟩,h⟩
  | cons z r=>simp at e2
 ·cases r with
  | nil =>
   rw[List.nil_append] at e2;rw[List.append_nil] at e1;subst e1;have e3:=(List.cons.injEq ..).mp e2;rw[e3.1];exact⟨⟨x0,x1⟩,h⟩
  | cons z r =>
   rw[List.cons_append,List.cons.injEq] at e2;obtain⟨rfl,e2⟩:=e2;exact l p y r e1
def NN(qv:LL9)(as:List Int)(w:Int->Nat)(s:List Int):Prop:=∀x,0<=x->x < (qv.length:Int)->s.count x<=w x+arv qv x as s
theorem NN.nil{qv:LL9}{as:List Int}{w:Int->Nat}:NN qv as w []:=fun x _ _=>Nat.zero_le _
theorem NN.snoc{qv:LL9}{as:List Int}{w:Int->Nat}{s:List Int}(l:NN qv as w s){x:Int}(h:s.count x < w x+arv qv x as s):NN qv as w (s++[x]):=fun y y0 y1=>by
 have:=l y y0 y1;rw[List.count_append,je,qt]
 by_cases e:x=y
 ·subst e;rw[if_pos rfl];have z:([]:List Int).count x=0:=rfl;omega
 ·rw[if_neg e];have z:([]:List Int).count y=0:=rfl;omega
theorem ahe{qv:LL9}:∀{s:List Int},InR qv s->s.length=((upto qv.length).map fun y=>s.count y).sum
 | [],_=>by
  symm
  rw[u6 (fun y=>([]:List Int).count y) (fun _=>0) _ fun x _=>rfl]
  generalize upto qv.length=l
  induction l with
  | nil=>rfl
  | cons x l ih=>rw[List.map_cons,List.sum_cons,ih];rfl
 | x::s,hs=>by
  have hx:=hs x (List.mem_cons_self ..);have ih:=ahe (s:=s) fun z hz=>hs z (List.mem_cons_of_mem _ hz)
  rw[List.length_cons,ih]
  symm
  rw[agt (fun y=>(x::s).count y) (fun y=>s.count y) x 1 (by rw[je,if_pos rfl];omega) _ (ac6 _) (aae hx.1 hx.2) fun y hy e=>by rw[je,if_neg (Ne.symm e)];rfl]
  omega
theorem azp{qv:LL9}{s t:List Int}(hs:InR qv s)(ht:InR qv t)(h:∀x,s.count x<=t.count x):s.length<=t.length:=by
 rw[ahe hs,ahe ht];exact aeb _ _ _ fun x _=>h x
section
variable{qv:LL9}(h:Hs qv)(hop:yr qv=[]){W:Nat}(hW1:1<=W)(hw:∀r∈qv,r.length<=W)
include h hop hW1 hw
theorem aty:∀(rs:List Int) {as:List Int},Arr qv as->InR qv rs->∃s,Led qv as rs s/\s.length<=rs.length*sx W qv.length
 | [],as,ha,_=>⟨[],.nil _,Nat.zero_le _⟩
 | k::rs,as,ha,hr=>by
  have hk:=hr k (List.mem_cons_self ..);obtain⟨T,t1,t2,hp,hn⟩:=aq6 h ha hk.1 hk.2 hW1 hop hw;obtain⟨s,l,hs⟩:=aty rs (agd h ha hk.1 hk.2 T hp).1 fun y hy=>hr y (List.mem_cons_of_mem _ hy)
  refine⟨vis qv as k T++s,.cons hk.1 hk.2 hp hn l,?_⟩;have hv:(vis qv as k T).length=T:=by simp[vis]
  rw[List.length_append,hv,List.length_cons,Nat.succ_mul];omega
end
def rowW(ws:List Int):Nat->List Int
 | 0=>[]
 | j+1=>rowW ws j++List.replicate (ws.getD j 0).toNat ((j:Nat):Int)
theorem yg(ws:List Int):∀n,∀x∈rowW ws n,0<=x/\x < (n:Int)
 | 0,x,hx=>by cases hx
 | n+1,x,hx=>by
  rcases List.mem_append.mp hx with q | q
  ·have:=yg ws n x q;omega
  ·have:=(List.mem_replicate.mp q).2;omega
theorem adb(ws:List Int):∀(n:Nat) (i:Nat),(rowW ws n).count ((i:Nat):Int)=if i < n then (ws.getD i 0).toNat else 0
 | 0,i=>by simp[rowW]
 | n+1,i=>by
  show(rowW ws n++List.replicate (ws.getD n 0).toNat ((n:Nat):Int)).count ((i:Nat):Int)=_;rw[List.count_append,adb ws n i,List.count_replicate]
  by_cases e:i=n
  ·subst e;simp
  ·have e2:¬((n:Nat):Int)=((i:Nat):Int):=by omega
   have e3:(((n:Nat):Int)==((i:Nat):Int))=false:=beq_eq_false_iff_ne.mpr e2;rw[e3];simp only[Bool.false_eq_true,if_false,Nat.add_zero]
   by_cases q:i < n
   ·rw[if_pos q,if_pos (by omega)]
   ·rw[if_neg q,if_neg (by omega)]
theorem ak6(ws:List Int)(b:Nat)(hw:∀w∈ws,w<=(b:Int)):∀n,(rowW ws n).length<=b*n
 | 0=>Nat.zero_le _
 | n+1=>by
  have ih:=ak6 ws b hw n;have:(ws.getD n 0).toNat<=b:=by
   rw[List.getD_eq_getElem?_getD];cases q:ws[n]? with
   | none=>exact Nat.zero_le _
   | some w =>
    have:=hw w (List.mem_of_getElem? q);show w.toNat<=b;omega
  show(rowW ws n++List.replicate (ws.getD n 0).toNat ((n:Nat):Int)).length<=_;rw[List.length_append,List.length_replicate,Nat.mul_succ];omega
def wf(ws:List Int):Int->Nat:=fun x=>(ws.getD x.toNat 0).toNat
def stn(qv:LL9)(as ws s:List Int):List Int:=(List.range qv.length).map fun i=>((wf ws ((i:Nat):Int)+arv qv ((i:Nat):Int) as s:Nat):Int) - ((s.count ((i:Nat):Int):Nat):Int)
def gts(qv:LL9)(as s:List Int):List Int:=[(arv qv (-1) as s:Int),(arv qv (-2) as s:Int),(arv qv (-3) as s:Int)]
theorem v6(qv:LL9)(as ws s:List Int):(stn qv as ws s).length=qv.length:=by simp[stn]
theorem aem{qv:LL9}(as ws s:List Int){x:Int}(x0:0<=x)(x1:x < (qv.length:Int)):(stn qv as ws s).getD x.toNat 0=((wf ws x+arv qv x as s:Nat):Int) - ((s.count x:Nat):Int):=by
 have hk:x.toNat < qv.length:=by omega
 unfold stn;rw[List.getD_eq_getElem?_getD,List.getElem?_map,List.getElem?_range hk];show((wf ws ((x.toNat:Nat):Int)+arv qv ((x.toNat:Nat):Int) as s:Nat):Int) - ((s.count ((x.toNat:Nat):Int):Nat):Int)=_;rw[show((x.toNat:Nat):Int)=x by omega]
theorem most{qv:LL9}(h:Hs qv)(hop:yr qv=[]){W:Nat}(hW1:1<=W)(hw:∀r∈qv,r.length<=W){as ws:List Int}(ha:Arr qv as){b:Nat}(hb:∀w∈ws,w<=(b:Int)) :
  ∃S,Lg qv as (wf ws) S/\Stb qv as (wf ws) S/\∀s,Lg qv as (wf ws) s->s.length<=b*qv.length*sx W qv.length:=by
 obtain⟨S,l,hl⟩:=aty h hop hW1 hw (rowW ws qv.length) ha (yg ws qv.length);obtain⟨a1,a2⟩:=l.ok h ha;have hc:∀x,0<=x->x < (qv.length:Int)->(rowW ws qv.length).count x=wf ws x:=fun x x0 x1=>by
  have:=adb ws qv.length x.toNat;rw[if_pos (by omega),show((x.toNat:Nat):Int)=x by omega] at this
  exact this
 have b1:Lg qv as (wf ws) S:=fun p x q e=>by
  obtain⟨c1,c2⟩:=a1 p x q e;exact⟨c1,by rw[<-hc x c1.1 c1.2];exact c2⟩
 have b2:Stb qv as (wf ws) S:=fun x x0 x1=>by rw[<-hc x x0 x1];exact a2 x x0 x1
 refine⟨S,b1,b2,fun s hs =>?_⟩
 have z:=azp hs.inR b1.inR (acv h ha hs b1.inR fun x x0 x1=>Nat.le_of_eq (b2 x x0 x1).symm)
 have r:=ak6 ws b hb qv.length;exact Nat.le_trans z (Nat.le_trans hl (Nat.mul_le_mul_right _ r))
theorem au0{qv:LL9}{as ws:List Int}(hl:ws.length=qv.length)(h0:∀w∈ws,0<=w):stn qv as ws []=ws:=by
 apply List.ext_getElem?;intro i
 by_cases hi:i < qv.length
 ·have hk:i < ws.length:=by omega
  unfold stn;rw[List.getElem?_map,List.getElem?_range hi,List.getElem?_eq_getElem hk];show some ((((ws.getD ((i:Nat):Int).toNat 0).toNat+0:Nat):Int) - ((0:Nat):Int))=some ws[i];rw[Int.toNat_natCast,List.getD_eq_getElem?_getD,List.getElem?_eq_getElem hk];have:=h0 ws[i] (List.getElem_mem hk);show some (((ws[i].toNat+0:Nat):Int) - ((0:Nat):Int))=_
  congr 1
  omega
 ·rw[List.getElem?_eq_none (by rw[v6];omega),List.getElem?_eq_none (by omega)]
def U(n a L d:Int):Int:=(L+n - 1 - (d - a) % n) / n
theorem atc{x n:Int}(hn:0 < n):(x+1) / n=x / n+if x % n=n - 1 then 1 else 0:=by
 have h1:=Int.emod_nonneg x (by omega:n≠0)
 have h2:=Int.emod_lt_of_pos x hn;have h3:=Int.emod_add_mul_ediv x n;split
 ·rename_i h;exact((Int.ediv_emod_unique hn (r:=0) (q:=x / n+1)).mpr ⟨by rw[Int.mul_add,Int.mul_one];omega,by omega,hn⟩).1
 ·rename_i h;rw[Int.add_zero];exact((Int.ediv_emod_unique hn (r:=x % n+1) (q:=x / n)).mpr ⟨by omega,by omega,by omega⟩).1
theorem ao4{n a L d:Int}(hn:0 < n)(d0:0<=d)(d1:d < n):(L+n - 1 - (d - a) % n) % n=n - 1↔d=(a+L) % n:=by
 have s0:=Int.emod_nonneg (a+L) (by omega:n≠0)
 have s1:=Int.emod_lt_of_pos (a+L) hn;have e1:=Int.emod_add_mul_ediv (a+L) n;have e2:=Int.emod_add_mul_ediv (d - a) n;have ex:L+n - 1 - (d - a) % n=((a+L) % n - d - 1)+n*((a+L) / n+(d - a) / n+1):=by
  rw[Int.mul_add,Int.mul_add,Int.mul_one];omega
 rw[ex,Int.add_mul_emod_self_left];generalize (a+L) % n=s at s0 s1;constructor
 ·intro h;rcases Int.lt_trichotomy s d with q | q | q
  ·have:(s - d - 1) % n=s - d - 1+n:=by
    rw[<-Int.add_emod_right];exact Int.emod_eq_of_lt (by omega) (by omega)
   omega
  ·exact q.symm
  ·have:(s - d - 1) % n=s - d - 1:=Int.emod_eq_of_lt (by omega) (by omega)
   omega
 ·intro h;subst h;have:(d - d - 1) % n=d - d - 1+n:=by
   rw[<-Int.add_emod_right];exact Int.emod_eq_of_lt (by omega) (by omega)
  omega
theorem a0v{n a L d:Int}(hn:0 < n)(d0:0<=d)(d1:d < n):U n a (L+1) d=U n a L d+if d=(a+L) % n then 1 else 0:=by
 unfold U;rw[show L+1+n - 1 - (d - a) % n=(L+n - 1 - (d - a) % n)+1 by omega,atc hn]
 by_cases h:d=(a+L) % n
 ·rw[if_pos ((ao4 hn d0 d1).mpr h),if_pos h]
 ·rw[if_neg (fun z=>h ((ao4 hn d0 d1).mp z)),if_neg h]
def ut(n:Nat)(a L:Int):List Int:=(List.range n).map fun d=>U n a L (d:Nat)
theorem acd(n:Nat)(a L:Int):(ut n a L).length=n:=by simp[ut]
theorem af7{n:Nat}{a L:Int}(h1:1<=n)(h6:n<=6):z9 [.val (.int (n:Nat)),.val (.int a),.val (.int L)]=some (.ok (.fr ((ut n a L).map D.int)),[.val (.int (n:Nat)),.val (.int a),.val (.int L)]):=by
 have hb:n < 4611686018427387904:=by omega
 have loop:=aaj (b:=bh 4) (g:=adk) (fun i ρ=>∃o1 o2,ρ=[.val (.int (n:Nat)),.val (.int a),.val (.int L),.own none (((List.range i).map fun d=>U n a L (d:Nat)).map D.int),o1,o2])
  (l:=jx 0 n) (ρ:=[.val (.int (n:Nat)),.val (.int a),.val (.int L),.own none [],.emp,.emp]) 0 ⟨.emp,.emp,rfl⟩ ?_
 ·obtain⟨ρ',e,o1,o2,rfl⟩:=loop;have hl:(jx 0 n).length=n:=by simp[jx]
  rw[hl,Nat.zero_add] at e;simp[-List.map_map,z9,ai4,hb,e,ut]
 ·rintro i d ρ hd ⟨o1,o2,rfl⟩
  rw[Nat.zero_add] at *;unfold jx at hd;rw[List.getElem?_map] at hd;have hi:i < n:=by
   rcases Nat.lt_or_ge i n with q | q
   ·exact q
   ·rw[List.getElem?_eq_none (by simpa using q)] at hd
    cases hd
  rw[List.getElem?_range hi] at hd;cases hd;have hn':(0:Int) < (n:Nat):=by omega
  have f1:∀x:Int,fMod x (n:Nat)=some (x % (n:Nat)):=fun x=>by unfold fMod;rw[if_pos hn']
  have f2:∀x:Int,fDiv x (n:Nat)=some (x / (n:Nat)):=fun x=>by unfold fDiv;rw[if_pos ⟨hn',by omega⟩]
  have hc:((List.range i).map fun d=>U n a L (d:Nat)).length < capS:=by rw[List.length_map,List.length_range];unfold capS;omega
  have es:((List.range (i+1)).map fun d=>U n a L (d:Nat))=((List.range i).map fun d=>U n a L (d:Nat))++[U n a L (i:Nat)]:=by rw[List.range_succ,List.map_append];rfl
  have e0:(0:Int)+(i:Nat)=(i:Nat):=by omega
  refine⟨_,[.val (.int (n:Nat)),.val (.int a),.val (.int L),.own none (((List.range (i+1)).map fun d=>U n a L (d:Nat)).map D.int),.val (.int (0+(i:Nat))),.val (.int ((((i:Nat):Int) - a) % (n:Nat)))],rfl,.inl ?_,_,_,rfl⟩
  rw[es,e0];generalize ((List.range i).map fun d=>U n a L (d:Nat))=Z at hc
  have hc':Z.length < capS:=hc;simp[adk,f1,f2,hc',U]
theorem aqs{qv:LL9}(h:Hs qv){x:Int}(x0:0<=x)(x1:x < (qv.length:Int))(d:Int):∀(m:Nat) {as:List Int},Arr qv as->arv qv d as (List.replicate m x)=us qv as x d m
 | 0,as,_=>rfl
 | m+1,as,ha=>by
  rw[List.replicate_succ,ajx h ha x0 x1];show(if led qv as x=d then 1 else 0)+arv qv d (gone qv as x) (List.replicate m x)=_
  rw[aqs h x0 x1 d m (abi h ha x0 x1)]
def prs(r:List Int)(a L:Int):List (Int×Int):=(List.range r.length).map fun k=>(r.getD k 0,U r.length a L (k:Nat))
theorem ard(f g:Nat->Int)(k0:Nat)(c:Int):∀n,(∀k,k < n->f k=g k+if k=k0 then c else 0)->k0 < n->((List.range n).map f).sum=((List.range n).map g).sum+c:=fun n=>by
 have aux:∀n,(∀k,k < n->f k=g k+if k=k0 then c else 0)->((List.range n).map f).sum=((List.range n).map g).sum+if k0 < n then c else 0:=fun n=>by
  induction n with
  | zero=>intro _;rfl
  | succ n ih =>
   intro hk;rw[List.range_succ,List.map_append,List.map_append,List.sum_append,List.sum_append,ih fun k hk'=>hk k (by omega)]
   have:=hk n (by omega)
   simp only[List.map_cons,List.map_nil,List.sum_cons,List.sum_nil];rw[this]
   by_cases q:n=k0
   ·subst q;rw[if_pos rfl,if_neg (by omega),if_pos (by omega)]
    omega
   ·rw[if_neg q]
    by_cases q2:k0 < n
    ·rw[if_pos q2,if_pos (by omega)];omega
    ·rw[if_neg q2,if_neg (by omega)];omega
 intro hk h0;rw[aux n hk,if_pos h0]
theorem ak2{qv:LL9}(h:Hs qv){as:List Int}(ha:Arr qv as){x:Int}(x0:0<=x)(x1:x < (qv.length:Int))(d:Int):∀m:Nat,((us qv as x d m:Nat):Int)=((prs (dr qv x) (ar as x) (m:Int)).map fun p=>if p.1=d then p.2 else 0).sum
 | 0=>by
  have hw:=(h.dr x0 x1).1;show(0:Int)=_;unfold prs;rw[List.map_map]
  symm
  have z:∀k∈List.range (dr qv x).length,((fun p:Int×Int=>if p.1=d then p.2 else 0)∘fun k:Nat=>((dr qv x).getD k 0,U (dr qv x).length (ar as x) ((0:Nat):Int) (k:Nat))) k=0:=fun k hk=>by
   have hk:=List.mem_range.mp hk;show(if (dr qv x).getD k 0=d then U (dr qv x).length (ar as x) 0 (k:Nat) else 0)=0
   have b0:=Int.emod_nonneg ((k:Int) - ar as x) (show((dr qv x).length:Int)≠0 by omega)
   have b1:=Int.emod_lt_of_pos ((k:Int) - ar as x) (show(0:Int) < ((dr qv x).length:Int) by omega)
   have:U (dr qv x).length (ar as x) 0 (k:Nat)=0:=Int.ediv_eq_zero_of_lt (by omega) (by omega)
   rw[this];split <;> rfl
  rw[List.map_congr_left z];generalize List.range (dr qv x).length=l
  induction l with
  | nil=>rfl
  | cons y l ih=>rw[List.map_cons,List.sum_cons,ih];rfl
 | m+1=>by
  have ih:=ak2 h ha x0 x1 d m;have hw:=(h.dr x0 x1).1;have b0:=Int.emod_nonneg (ar as x+(m:Int)) (show((dr qv x).length:Int)≠0 by omega)
  have b1:=Int.emod_lt_of_pos (ar as x+(m:Int)) (show(0:Int) < ((dr qv x).length:Int) by omega)
  show((us qv as x d m+(if (dr qv x).getD ((ar as x+(m:Int)) % ((dr qv x).length:Int)).toNat 0=d then 1 else 0):Nat):Int)=_
  rw[Int.natCast_add,ih];unfold prs;rw[List.map_map,List.map_map]
  symm
  rw[ard _ ((fun p:Int×Int=>if p.1=d then p.2 else 0)∘fun k:Nat=>((dr qv x).getD k 0,U (dr qv x).length (ar as x) ((m:Nat):Int) (k:Nat))) ((ar as x+(m:Int)) % ((dr qv x).length:Int)).toNat (if (dr qv x).getD ((ar as x+(m:Int)) % ((dr qv x).length:Int)).toNat 0=d then 1 else 0)]
  ·split <;> rfl
  ·intro k hk;show(if (dr qv x).getD k 0=d then U (dr qv x).length (ar as x) ((m+1:Nat):Int) (k:Nat) else 0)=(if (dr qv x).getD k 0=d then U (dr qv x).length (ar as x) ((m:Nat):Int) (k:Nat) else 0)+_
   have us:=a0v (n:=((dr qv x).length:Int)) (a:=ar as x) (L:=(m:Int)) (d:=(k:Int)) (by omega) (by omega) (by omega)
   rw[Int.natCast_add];show(if (dr qv x).getD k 0=d then U (dr qv x).length (ar as x) ((m:Int)+1) (k:Nat) else 0)=_
   rw[us]
   by_cases q:k=((ar as x+(m:Int)) % ((dr qv x).length:Int)).toNat
   ·have q':(k:Int)=(ar as x+(m:Int)) % ((dr qv x).length:Int):=by omega
    rw[if_pos q,if_pos q',<-q];split <;> omega
   ·have q':¬(k:Int)=(ar as x+(m:Int)) % ((dr qv x).length:Int):=by omega
    rw[if_neg q,if_neg q'];split <;> omega
  ·omega
def stp(p:List Int×List Int)(q:Int×Int):List Int×List Int:=if 0<=q.1 then (p.1.set q.1.toNat (p.1.getD q.1.toNat 0+q.2),p.2) else (p.1,p.2.set (-q.1 - 1).toNat (p.2.getD (-q.1 - 1).toNat 0+q.2))
theorem vz(l:List Int)(i j:Nat)(v:Int)(hi:i < l.length):(l.set i v).getD j 0=if i=j then v else l.getD j 0:=by
 rw[List.getD_eq_getElem?_getD,List.getElem?_set]
 by_cases e:i=j
 ·subst e;rw[if_pos rfl,if_pos hi,if_pos rfl];rfl
 ·rw[if_neg e,if_neg e,<-List.getD_eq_getElem?_getD]
theorem agv{n:Nat}:∀(ps:List (Int×Int)) (st gt:List Int),(∀p∈ps,-3<=p.1/\p.1 < (n:Int))->st.length=n->gt.length=3 ->
  (ps.foldl stp (st,gt)).1.length=n/\(ps.foldl stp (st,gt)).2.length=3/\(∀i,i < n->(ps.foldl stp (st,gt)).1.getD i 0=st.getD i 0+(ps.map fun p=>if p.1=(i:Int) then p.2 else 0).sum) /\
  ∀i,i < 3->(ps.foldl stp (st,gt)).2.getD i 0=gt.getD i 0+(ps.map fun p=>if p.1 = -1 - (i:Int) then p.2 else 0).sum
 | [],st,gt,_,h1,h2=>⟨h1,h2,fun i _=>by simp,fun i _=>by simp⟩
 | (d,t)::ps,st,gt,hp,h1,h2=>by
  have hd:=hp (d,t) (List.mem_cons_self ..);have hd1 : -3<=d:=hd.1;have hd2:d < (n:Int):=hd.2;rw[List.foldl_cons]
  by_cases q:0<=d
  ·have e:stp (st,gt) (d,t)=(st.set d.toNat (st.getD d.toNat 0+t),gt):=if_pos q;rw[e];obtain⟨i1,i2,i3,i4⟩:=agv (n:=n) ps (st.set d.toNat (st.getD d.toNat 0+t)) gt (fun p hp'=>hp p (List.mem_cons_of_mem _ hp')) (by rw[List.length_set];exact h1) h2
   refine⟨i1,i2,fun i hi =>?_,fun i hi =>?_⟩
   ·rw[i3 i hi,vz _ _ _ _ (by omega),List.map_cons,List.sum_cons]
    by_cases z:d.toNat=i
    ·rw[if_pos z,if_pos (show d=(i:Int) by omega),z];omega
    ·rw[if_neg z,if_neg (show ¬d=(i:Int) by omega)];omega
   ·rw[i4 i hi,List.map_cons,List.sum_cons,if_neg (show ¬d = -1 - (i:Int) by omega)];omega
  ·have e:stp (st,gt) (d,t)=(st,gt.set (-d - 1).toNat (gt.getD (-d - 1).toNat 0+t)):=if_neg q;rw[e];obtain⟨i1,i2,i3,i4⟩:=agv (n:=n) ps st (gt.set (-d - 1).toNat (gt.getD (-d - 1).toNat 0+t)) (fun p hp'=>hp p (List.mem_cons_of_mem _ hp')) h1 (by rw[List.length_set];exact h2)
   refine⟨i1,i2,fun i hi =>?_,fun i hi =>?_⟩
   ·rw[i3 i hi,List.map_cons,List.sum_cons,if_neg (show ¬d=(i:Int) by omega)];omega
   ·rw[i4 i hi,vz _ _ _ _ (by omega),List.map_cons,List.sum_cons]
    by_cases z:(-d - 1).toNat=i
    ·rw[if_pos z,if_pos (show d = -1 - (i:Int) by omega),z];omega
    ·rw[if_neg z,if_neg (show ¬d = -1 - (i:Int) by omega)];omega
theorem ac1{a b:List Int}(hl:a.length=b.length)(h:∀i,i < a.length->a.getD i 0=b.getD i 0):a=b:=by
 apply List.ext_getElem?;intro i
 by_cases hi:i < a.length
 ·have:=h i hi;rw[List.getD_eq_getElem?_getD,List.getD_eq_getElem?_getD,List.getElem?_eq_getElem hi,List.getElem?_eq_getElem (by omega)] at this
  rw[List.getElem?_eq_getElem hi,List.getElem?_eq_getElem (by omega)]
  exact congrArg some this
 ·rw[List.getElem?_eq_none (by omega),List.getElem?_eq_none (by omega)]
section
variable{qv:LL9}(h:Hs qv){as:List Int}(ha:Arr qv as){ws s:List Int}(hs:InR qv s){x:Int}(x0:0<=x)(x1:x < (qv.length:Int))(m:Nat)
include h ha hs x0 x1
theorem ax9:InR qv (s++List.replicate m x):=hs.append fun y hy=>by rw[(List.mem_replicate.mp hy).2];exact⟨x0,x1⟩
theorem afq(y:Int):(s++List.replicate m x).count y=s.count y+if x=y then m else 0:=by
 rw[List.count_append,List.count_replicate]
 by_cases e:x=y
 ·subst e;simp
 ·have:(x==y)=false:=beq_eq_false_iff_ne.mpr e;rw[this,if_neg e];rfl
theorem az2:(go qv as s).set x.toNat ((ar (go qv as s) x+(m:Int)) % ((dr qv x).length:Int))=go qv as (s++List.replicate m x):=by
 have hga:=abx h s ha hs;have hin:=ax9 h ha hs x0 x1 m;have hg2:=abx h _ ha hin;have hl:=hga.len;apply ac1
 ·rw[List.length_set,hl,hg2.len]
 ·intro i hi;rw[List.length_set] at hi;rw[vz _ _ _ _ (by omega)]
  have e2:=ahv h (y:=(i:Int)) (by omega) (by omega) _ ha hin
  have e1:=ahv h (y:=(i:Int)) (by omega) (by omega) s ha hs
  rw[afq h ha hs x0 x1] at e2;unfold ar at e1 e2;rw[Int.toNat_natCast] at e1 e2;rw[e2]
  by_cases z:x.toNat=i
  ·have zx:x=(i:Int):=by omega
   rw[if_pos z,if_pos zx];have e3:=ahv h x0 x1 s ha hs;rw[e3,Int.emod_add_emod];unfold ar;rw[zx,Int.toNat_natCast,Int.natCast_add]
   congr 1
   omega
  ·rw[if_neg z,if_neg (show ¬x=(i:Int) by omega),e1]
   rfl
theorem auu:(tal qv.length s).set x.toNat ((tal qv.length s).getD x.toNat 0+(m:Int))=tal qv.length (s++List.replicate m x):=by
 apply ac1
 ·rw[List.length_set,ye,ye]
 ·intro i hi;rw[List.length_set,ye] at hi;rw[vz _ _ _ _ (by rw[ye];omega)]
  have g:∀t:List Int,(tal qv.length t).getD i 0=((t.count (i:Int):Nat):Int):=fun t=>by rw[List.getD_eq_getElem?_getD,ael _ hi];rfl
  rw[g,g,afq h ha hs x0 x1]
  by_cases z:x.toNat=i
  ·rw[if_pos z,if_pos (show x=(i:Int) by omega),z,g];omega
  ·rw[if_neg z,if_neg (show ¬x=(i:Int) by omega)];rfl
theorem as8:(prs (dr qv x) (ar (go qv as s) x) (m:Int)).foldl stp ((stn qv as ws s).set x.toNat ((stn qv as ws s).getD x.toNat 0 - (m:Int)),gts qv as s)=(stn qv as ws (s++List.replicate m x),gts qv as (s++List.replicate m x)):=by
 have hga:=abx h s ha hs;obtain⟨i1,i2,i3,i4⟩:=agv (n:=qv.length) (prs (dr qv x) (ar (go qv as s) x) (m:Int)) ((stn qv as ws s).set x.toNat ((stn qv as ws s).getD x.toNat 0 - (m:Int))) (gts qv as s) (fun p hp=>by
  obtain⟨k,hk,rfl⟩:=List.mem_map.mp hp;have hk:=List.mem_range.mp hk;refine(h.dr x0 x1).2.2 _ ?_;show(dr qv x).getD k 0∈_;rw[List.getD_eq_getElem?_getD,List.getElem?_eq_getElem hk];exact List.getElem_mem hk) (by rw[List.length_set,v6]) rfl
 have ea:∀d,arv qv d as (s++List.replicate m x)=arv qv d as s+us qv (go qv as s) x d m:=fun d=>by rw[qt,aqs h x0 x1 d m hga]
 refine Prod.ext ?_ ?_
 ·refine ac1 (by rw[i1,v6]) fun i hi =>?_
  rw[i1] at hi;have g:=aem (qv:=qv) as ws s (x:=(i:Int)) (by omega) (by omega)
  have g2:=aem (qv:=qv) as ws (s++List.replicate m x) (x:=(i:Int)) (by omega) (by omega)
  rw[Int.toNat_natCast] at g g2;show(List.foldl stp _ _).1.getD i 0=(stn qv as ws (s++List.replicate m x)).getD i 0;rw[i3 i hi,vz _ _ _ _ (by rw[v6];omega),<-ak2 h hga x0 x1,g2,ea,afq h ha hs x0 x1]
  by_cases z:x.toNat=i
  ·rw[if_pos z,if_pos (show x=(i:Int) by omega),z,g];omega
  ·rw[if_neg z,if_neg (show ¬x=(i:Int) by omega),g];omega
 ·refine ac1 (by rw[i2];rfl) fun i hi =>?_
  rw[i2] at hi;show(List.foldl stp _ _).2.getD i 0=(gts qv as (s++List.replicate m x)).getD i 0;rw[i4 i hi,<-ak2 h hga x0 x1];have:i=0∨i=1∨i=2:=by omega
  unfold gts;rw[ea,ea,ea];rcases this with rfl | rfl | rfl
  ·show(arv qv (-1) as s:Int)+((us qv (go qv as s) x (-1) m:Nat):Int)=((arv qv (-1) as s+us qv (go qv as s) x (-1) m:Nat):Int);omega
  ·show(arv qv (-2) as s:Int)+((us qv (go qv as s) x (-2) m:Nat):Int)=((arv qv (-2) as s+us qv (go qv as s) x (-2) m:Nat):Int);omega
  ·show(arv qv (-3) as s:Int)+((us qv (go qv as s) x (-3) m:Nat):Int)=((arv qv (-3) as s+us qv (go qv as s) x (-3) m:Nat):Int);omega
end
def fsM(d:D):List (Str×(Nat ⊕ D)):=[("turning", .inl 3),("standing", .inl 4),("gone", .inl 5),("left", .inl 6),("house", .inr d)]
theorem fv_h(d:D)(r:Ro):mFV "Crowd" 0 "house" (.box "Crowd" (fsM d)::r)=some (.ok d,.box "Crowd" (fsM d)::r):=by rfl
theorem lk_t(d:D)(a b:Sl)(l:List D)(r:Ro):mLnk "Crowd" 0 "turning" 3 (.box "Crowd" (fsM d)::a::b::.own (some 3) l::r)=some (.ok (),.box "Crowd" (fsM d)::a::b::.own (some 3) l::r):=by rfl
theorem lk_s(d:D)(a b c:Sl)(l:List D)(r:Ro):mLnk "Crowd" 0 "standing" 4 (.box "Crowd" (fsM d)::a::b::c::.own (some 4) l::r)=some (.ok (),.box "Crowd" (fsM d)::a::b::c::.own (some 4) l::r):=by rfl
theorem lk_g(d:D)(a b c e:Sl)(l:List D)(r:Ro):mLnk "Crowd" 0 "gone" 5 (.box "Crowd" (fsM d)::a::b::c::e::.own (some 5) l::r)=some (.ok (),.box "Crowd" (fsM d)::a::b::c::e::.own (some 5) l::r):=by rfl
theorem lk_l(d:D)(a b c e f:Sl)(l:List D)(r:Ro):mLnk "Crowd" 0 "left" 6 (.box "Crowd" (fsM d)::a::b::c::e::f::.own (some 6) l::r)=some (.ok (),.box "Crowd" (fsM d)::a::b::c::e::f::.own (some 6) l::r):=by rfl
theorem am0{n:Nat}{d t:Int}(hd1 : -3<=d)(hd2:d < (n:Int)){st gt:List Int}(h1:st.length=n)(h2:gt.length=3)(hd:D)(a b c f g u:Sl) :
  j6 [.box "Crowd" (fsM hd),a,b,c,.own (some 4) (st.map D.int),.own (some 5) (gt.map D.int),f,g,u,.val (.int d),.val (.int t)]=some (.nx,[.box "Crowd" (fsM hd),a,b,c,.own (some 4) ((stp (st,gt) (d,t)).1.map D.int),.own (some 5) ((stp (st,gt) (d,t)).2.map D.int),f,g,u,.val (.int d),.val (.int t)]):=by
 by_cases q:0<=d
 ·have e:stp (st,gt) (d,t)=(st.set d.toNat (st.getD d.toNat 0+t),gt):=if_pos q;rw[e];have ix:ixN st.length d=some d.toNat:=ab5 q (by omega)
  have hlt:d.toNat < st.length:=by omega
  have hg:st[d.toNat]? = some (st.getD d.toNat 0):=by rw[List.getD_eq_getElem?_getD,List.getElem?_eq_getElem hlt];rfl
  have m3:(st.map D.int).set d.toNat (.int (st.getD d.toNat 0+t))=(st.set d.toNat (st.getD d.toNat 0+t)).map D.int:=by rw[List.map_set]
  show _=some (Fl.nx,[Sl.box "Crowd" (fsM hd),a,b,c,.own (some 4) ((st.set d.toNat (st.getD d.toNat 0+t)).map D.int),.own (some 5) (gt.map D.int),f,g,u,.val (.int d),.val (.int t)]);rw[<-m3];generalize st.getD d.toNat 0=v at *;have hg2:(st.map D.int)[d.toNat]? = some (.int v):=by rw[List.getElem?_map,hg];rfl
  have ix2:ixN (st.map D.int).length d=some d.toNat:=by rw[List.length_map];exact ix
  generalize st.map D.int=sm at *;simp[j6,q,dSubAugF,lk_s,ix2,hg2]
 ·have e:stp (st,gt) (d,t)=(st,gt.set (-d - 1).toNat (gt.getD (-d - 1).toNat 0+t)):=if_neg q;rw[e];have ix:ixN gt.length (-d - 1)=some (-d - 1).toNat:=ab5 (by omega) (by omega)
  have hlt:(-d - 1).toNat < gt.length:=by omega
  have hg:gt[(-d - 1).toNat]? = some (gt.getD (-d - 1).toNat 0):=by rw[List.getD_eq_getElem?_getD,List.getElem?_eq_getElem hlt];rfl
  have m3:(gt.map D.int).set (-d - 1).toNat (.int (gt.getD (-d - 1).toNat 0+t))=(gt.set (-d - 1).toNat (gt.getD (-d - 1).toNat 0+t)).map D.int:=by rw[List.map_set]
  show _=some (Fl.nx,[Sl.box "Crowd" (fsM hd),a,b,c,.own (some 4) (st.map D.int),.own (some 5) ((gt.set (-d - 1).toNat (gt.getD (-d - 1).toNat 0+t)).map D.int),f,g,u,.val (.int d),.val (.int t)]);rw[<-m3];generalize gt.getD (-d - 1).toNat 0=v at *;have hg2:(gt.map D.int)[(-d - 1).toNat]? = some (.int v):=by rw[List.getElem?_map,hg];rfl
  have ix2:ixN (gt.map D.int).length (-d - 1)=some (-d - 1).toNat:=by rw[List.length_map];exact ix
  generalize gt.map D.int=gm at *;generalize hkk : -d - 1=kk at *;simp[j6,q,dSubAugF,lk_g,ix2,hg2,hkk]
theorem aiy{n:Nat}(hd:D)(a b c f g u:Sl):∀(ps:List (Int×Int)) (st gt:List Int) (o1 o2:Sl),(∀p∈ps,-3<=p.1/\p.1 < (n:Int))->st.length=n->gt.length=3 ->
  ∃q1 q2,forD (bTup 2 (gq (bh 9) (gq (bh 10) bNil))) j6 (ps.map fun p=>.tup [.int p.1,.int p.2]) [.box "Crowd" (fsM hd),a,b,c,.own (some 4) (st.map D.int),.own (some 5) (gt.map D.int),f,g,u,o1,o2]=some (.nx,[.box "Crowd" (fsM hd),a,b,c,.own (some 4) ((ps.foldl stp (st,gt)).1.map D.int),.own (some 5) ((ps.foldl stp (st,gt)).2.map D.int),f,g,u,q1,q2])
 | [],st,gt,o1,o2,_,_,_=>⟨o1,o2,rfl⟩
 | (d,t)::ps,st,gt,o1,o2,hp,h1,h2=>by
  have hd':=hp (d,t) (List.mem_cons_self ..);have e:=am0 (n:=n) (d:=d) (t:=t) hd'.1 hd'.2 h1 h2 hd a b c f g u;obtain⟨l1,l2,_⟩:=agv (n:=n) [(d,t)] st gt (fun p hp'=>hp p (by rw[List.mem_singleton] at hp';rw[hp'];exact List.mem_cons_self ..)) h1 h2
  have l1:(stp (st,gt) (d,t)).1.length=n:=l1;have l2:(stp (st,gt) (d,t)).2.length=3:=l2;obtain⟨q1,q2,e2⟩:=aiy (n:=n) hd a b c f g u ps (stp (st,gt) (d,t)).1 (stp (st,gt) (d,t)).2 (.val (.int d)) (.val (.int t)) (fun p hp'=>hp p (List.mem_cons_of_mem _ hp')) l1 l2
  refine⟨q1,q2,?_⟩;rw[List.foldl_cons,List.map_cons,qy];have ez:((stp (st,gt) (d,t)).1,(stp (st,gt) (d,t)).2)=stp (st,gt) (d,t):=rfl;rw[ez] at e2;generalize stp (st,gt) (d,t)=Z at *;generalize (ps.foldl stp Z).1.map D.int=F1 at *;generalize (ps.foldl stp Z).2.map D.int=F2 at *;generalize Z.1.map D.int=z1 at *;generalize Z.2.map D.int=z2 at *;generalize st.map D.int=sm at *;generalize gt.map D.int=gm at *;simp[e,e2]
theorem ajt(r:List Int)(a L:Int):uz (r.map D.int) ((ut r.length a L).map D.int)=(prs r a L).map fun p=>.tup [.int p.1,.int p.2]:=by
 unfold uz prs ut;apply List.ext_getElem?;intro i;rw[List.getElem?_zipWith]
 by_cases hi:i < r.length
 ·simp[hi]
 ·simp[hi]
section
variable{qv:LL9}(h:Hs qv){as:List Int}(ha:Arr qv as){ws s:List Int}(hs:InR qv s){x:Int}(x0:0<=x)(x1:x < (qv.length:Int))(m:Nat)
include h ha hs x0 x1
theorem aiw:ie [.box "Crowd" (fsM (hD qv)),.val (.int x),.val (.int (m:Int)),.own (some 3) ((go qv as s).map D.int),.own (some 4) ((stn qv as ws s).map D.int),.own (some 5) ((gts qv as s).map D.int),.own (some 6) ((tal qv.length s).map D.int)] =
  some (.ok (.v .non),[.box "Crowd" (fsM (hD qv)),.val (.int x),.val (.int (m:Int)),.own (some 3) ((go qv as (s++List.replicate m x)).map D.int),.own (some 4) ((stn qv as ws (s++List.replicate m x)).map D.int),.own (some 5) ((gts qv as (s++List.replicate m x)).map D.int),.own (some 6) ((tal qv.length (s++List.replicate m x)).map D.int)]):=by
 have hga:=abx h s ha hs;obtain⟨w1,w2,w3⟩:=h.dr x0 x1;have e1:=afy x0 x1;have e2:=al6 h hga x0 x1;have e3:=af7 (n:=(dr qv x).length) (a:=ar (go qv as s) x) (L:=(m:Int)) w1 w2;have e4:=ai8 h hga x0 x1 (ar (go qv as s) x+(m:Int));have i3:ixN ((go qv as s).map D.int).length x=some x.toNat:=by rw[List.length_map];exact ab5 x0 (by rw[hga.len];exact x1)
 have i4:ixN ((stn qv as ws s).map D.int).length x=some x.toNat:=by rw[List.length_map];exact ab5 x0 (by rw[v6];exact x1)
 have i6:ixN ((tal qv.length s).map D.int).length x=some x.toNat:=by rw[List.length_map];exact ab5 x0 (by rw[ye];exact x1)
 have g4:((stn qv as ws s).map D.int)[x.toNat]? = some (.int ((stn qv as ws s).getD x.toNat 0)):=by rw[List.getElem?_map,List.getD_eq_getElem?_getD,List.getElem?_eq_getElem (by rw[v6];omega)];rfl
 have g6:((tal qv.length s).map D.int)[x.toNat]? = some (.int ((tal qv.length s).getD x.toNat 0)):=by rw[List.getElem?_map,List.getD_eq_getElem?_getD,List.getElem?_eq_getElem (by rw[ye];omega)];rfl
 have m3:((go qv as s).map D.int).set x.toNat (.int ((ar (go qv as s) x+(m:Int)) % ((dr qv x).length:Int)))=(go qv as (s++List.replicate m x)).map D.int:=by rw[<-az2 h ha hs x0 x1 m,List.map_set]
 have m6:((tal qv.length s).map D.int).set x.toNat (.int ((tal qv.length s).getD x.toNat 0+(m:Int)))=(tal qv.length (s++List.replicate m x)).map D.int:=by rw[<-auu h ha hs x0 x1 m,List.map_set]
 have m4:((stn qv as ws s).map D.int).set x.toNat (.int ((stn qv as ws s).getD x.toNat 0 - (m:Int)))=((stn qv as ws s).set x.toNat ((stn qv as ws s).getD x.toNat 0 - (m:Int))).map D.int:=by rw[List.map_set]
 have hf:=as8 (ws:=ws) h ha hs x0 x1 m;obtain⟨q1,q2,e5⟩:=aiy (n:=qv.length) (hD qv) (.val (.int x)) (.val (.int (m:Int))) (.own (some 3) ((go qv as (s++List.replicate m x)).map D.int)) (.own (some 6) ((tal qv.length (s++List.replicate m x)).map D.int)) (.val (.tup ((dr qv x).map D.int))) (.val (.lst ((ut (dr qv x).length (ar (go qv as s) x) (m:Int)).map D.int))) (prs (dr qv x) (ar (go qv as s) x) (m:Int)) ((stn qv as ws s).set x.toNat ((stn qv as ws s).getD x.toNat 0 - (m:Int))) (gts qv as s) .emp .emp (fun p hp=>by
  obtain⟨k,hk,rfl⟩:=List.mem_map.mp hp;have hk:=List.mem_range.mp hk;refine w3 _ ?_;show(dr qv x).getD k 0∈_;rw[List.getD_eq_getElem?_getD,List.getElem?_eq_getElem hk];exact List.getElem_mem hk) (by rw[List.length_set,v6]) rfl
 rw[hf,<-ajt] at e5;have hzl:(dr qv x).length<=((ut (dr qv x).length (ar (go qv as s) x) (m:Int)).map D.int).length:=by rw[List.length_map,acd];exact Nat.le_refl _
 have hdm:((dr qv x).map D.int).length=(dr qv x).length:=List.length_map ..
 rw[<-m4,<-m3,<-m6] at e5;rw[<-m3,<-m6];generalize (ut (dr qv x).length (ar (go qv as s) x) (m:Int)).map D.int=uu at *;generalize (dr qv x).map D.int=dm at *;generalize (stn qv as ws s).getD x.toNat 0=sv at *;generalize (tal qv.length s).getD x.toNat 0=tv at *;generalize (stn qv as ws (s++List.replicate m x)).map D.int=sm2 at *;generalize (stn qv as ws s).map D.int=sm at *;generalize (gts qv as (s++List.replicate m x)).map D.int=gm2 at *;generalize (gts qv as s).map D.int=gm at *;generalize (tal qv.length s).map D.int=tm at *;generalize (go qv as s).map D.int=am at *;generalize ar (go qv as s) x=aa at *;simp only[hD] at *;simp[ie,g_Crowd_let_leave,fv_h,e1,hdm,lk_t,e2,e3,e4,dSubF,i3,dSubAugF,lk_l,lk_s,i6,g6,i4,g4,hzl,e5]
end
def fsC(d:D):List (Str×(Nat ⊕ D)):=[("house", .inr d),("turning", .inl 1000),("standing", .inl 1001),("gone", .inl 1002),("left", .inl 1003)]
def fr9(h A W o4:Sl)(d:D)(l1 l2 l3 l4:List D):Ro:=[h,A,W,.box "Crowd" (fsC d),o4,.own (some 1000) l1,.own (some 1001) l2,.own (some 1002) l3,.own (some 1003) l4]
theorem av9{h A W:Sl}{d:D}{x m:Int}{l1 l2 l3 l4 r1 r2 r3 r4:List D}{ms:M (List (Option D))}(hm:ms (fr9 h A W (.val (.int x)) d l1 l2 l3 l4)=some (.ok [none,some (.int m)],fr9 h A W (.val (.int x)) d l1 l2 l3 l4))
  (e:ie [.box "Crowd" (fsM d),.val (.int x),.val (.int m),.own (some 3) l1,.own (some 4) l2,.own (some 5) l3,.own (some 6) l4]=some (.ok (.v .non),[.box "Crowd" (fsM d),.val (.int x),.val (.int m),.own (some 3) r1,.own (some 4) r2,.own (some 5) r3,.own (some 6) r4])) :
  alg "Crowd" 3 "let_leave" ["turning","standing","gone","left"] ["house"] [5,6,7,8] ie [some 4,none] ms (fr9 h A W (.val (.int x)) d l1 l2 l3 l4)=some (.ok (.v .non),fr9 h A W (.val (.int x)) d r1 r2 r3 r4):=by
 have e0:mIsB "Crowd" 3 "let_leave" (fr9 h A W (.val (.int x)) d l1 l2 l3 l4)=some (.ok (fsC d),fr9 h A W (.val (.int x)) d l1 l2 l3 l4):=rfl;unfold alg M.bind;rw[e0];dsimp only;rw[hm];dsimp only;rw[e0];dsimp only;rw[if_pos ⟨rfl,rfl,rfl⟩];show(match ie [.box "Crowd" (fsM d),.val (.int x),.val (.int m),.own (some 3) l1,.own (some 4) l2,.own (some 5) l3,.own (some 6) l4] with
  | some (Out.ok r,ps)=>some (Out.ok r,putB (fr9 h A W (.val (.int x)) d l1 l2 l3 l4) [none,some 4,none,some 5,some 6,some 7,some 8] ps)
  | _=>none)=_
 rw[e];rfl
theorem asf(h A W o:Sl)(d:D)(l1 l2 l3 l4:List D):mLnk "Crowd" 3 "standing" 6 (fr9 h A W o d l1 l2 l3 l4)=some (.ok (),fr9 h A W o d l1 l2 l3 l4):=by rfl
theorem a3z(h A W o:Sl)(d:D)(l1 l2 l3 l4:List D):mLnk "Crowd" 3 "turning" 5 (fr9 h A W o d l1 l2 l3 l4)=some (.ok (),fr9 h A W o d l1 l2 l3 l4):=by rfl
theorem a4b(h A W o:Sl)(d:D)(l1 l2 l3 l4:List D):mLnk "Crowd" 3 "gone" 7 (fr9 h A W o d l1 l2 l3 l4)=some (.ok (),fr9 h A W o d l1 l2 l3 l4):=by rfl
theorem a4a(h A W o:Sl)(d:D)(l1 l2 l3 l4:List D):mLnk "Crowd" 3 "left" 8 (fr9 h A W o d l1 l2 l3 l4)=some (.ok (),fr9 h A W o d l1 l2 l3 l4):=by rfl
theorem aww(h A W o:Sl)(d:D)(l1 l2 l3 l4:List D):(fr9 h A W o d l1 l2 l3 l4:List Sl)[4]? = some o:=rfl
theorem as7(h A W o:Sl)(d:D)(l1 l2 l3 l4:List D):(fr9 h A W o d l1 l2 l3 l4:List Sl)[6]? = some (.own (some 1001) l2):=rfl
section
variable{qv:LL9}(h:Hs qv){as:List Int}(ha:Arr qv as){ws s:List Int}(A W:Sl)
include h ha
theorem aoh(hs:InR qv s){x:Int}(x0:0<=x)(x1:x < (qv.length:Int)) :
  zm (fr9 (.val (hD qv)) A W (.val (.int x)) (hD qv) ((go qv as s).map D.int) ((stn qv as ws s).map D.int) ((gts qv as s).map D.int) ((tal qv.length s).map D.int)) =
  some (.nx,fr9 (.val (hD qv)) A W (.val (.int x)) (hD qv) ((go qv as (s++List.replicate ((stn qv as ws s).getD x.toNat 0).toNat x)).map D.int) ((stn qv as ws (s++List.replicate ((stn qv as ws s).getD x.toNat 0).toNat x)).map D.int) ((gts qv as (s++List.replicate ((stn qv as ws s).getD x.toNat 0).toNat x)).map D.int) ((tal qv.length (s++List.replicate ((stn qv as ws s).getD x.toNat 0).toNat x)).map D.int)):=by
 have e1:=vg (ns:=stn qv as ws s) x0 (by rw[v6];exact x1)
 have eL:=aiw (ws:=ws) h ha hs x0 x1 ((stn qv as ws s).getD x.toNat 0).toNat
 by_cases q:0 < (stn qv as ws s).getD x.toNat 0
 ·rw[show((((stn qv as ws s).getD x.toNat 0).toNat:Nat):Int)=(stn qv as ws s).getD x.toNat 0 by omega] at eL
  have eM:=av9 (h:=.val (hD qv)) (A:=A) (W:=W) (ms:=dg 4 (bc (M.d (mOp gIx ((mLnk "Crowd" 3 "standing" 6).bind fun _=>cj 6 (gf 4)))) jc)) (by
   generalize (stn qv as ws s).getD x.toNat 0=v at *;generalize (stn qv as ws s).map D.int=sm at *;generalize (go qv as s).map D.int=am at *;generalize (gts qv as s).map D.int=gm at *;generalize (tal qv.length s).map D.int=tm at *;generalize hD qv=hh at *;simp[asf,aww,as7,e1]) eL
  generalize s++List.replicate ((stn qv as ws s).getD x.toNat 0).toNat x=s2 at *;generalize (stn qv as ws s).getD x.toNat 0=v at *;generalize (stn qv as ws s).map D.int=sm at *;generalize (go qv as s).map D.int=am at *;generalize (gts qv as s).map D.int=gm at *;generalize (tal qv.length s).map D.int=tm at *;generalize (stn qv as ws s2).map D.int=sm2 at *;generalize (go qv as s2).map D.int=am2 at *;generalize (gts qv as s2).map D.int=gm2 at *;generalize (tal qv.length s2).map D.int=tm2 at *;generalize hD qv=hh at *;simp[zm,asf,aww,as7,e1,q,eM]
 ·rw[show((stn qv as ws s).getD x.toNat 0).toNat=0 by omega]
  rw[List.replicate_zero,List.append_nil]
  clear eL
  generalize (stn qv as ws s).getD x.toNat 0=v at *;generalize (stn qv as ws s).map D.int=sm at *;generalize (go qv as s).map D.int=am at *;generalize (gts qv as s).map D.int=gm at *;generalize (tal qv.length s).map D.int=tm at *;generalize hD qv=hh at *;simp[zm,asf,aww,as7,e1,q]
omit ha in
theorem atq(hl:Lg qv as (wf ws) s)(hn:NN qv as (wf ws) s){x:Int}(x0:0<=x)(x1:x < (qv.length:Int)):∀m:Nat,s.count x+m<=wf ws x+arv qv x as s->Lg qv as (wf ws) (s++List.replicate m x)/\NN qv as (wf ws) (s++List.replicate m x)
 | 0,_=>by
  rw[List.replicate_zero,List.append_nil];exact⟨hl,hn⟩
 | m+1,hm=>by
  obtain⟨a,b⟩:=atq hl hn x0 x1 m (by omega)
  have c:(s++List.replicate m x).count x < wf ws x+arv qv x as (s++List.replicate m x):=by
   rw[qt,List.count_append,List.count_replicate_self];omega
  have e:s++List.replicate (m+1) x=(s++List.replicate m x)++[x]:=by rw[List.replicate_succ',List.append_assoc]
  rw[e];exact⟨a.snoc x0 x1 c,b.snoc c⟩
theorem aib:∀(l s:List Int) (o4:Sl),(∀x∈l,0<=x/\x < (qv.length:Int))->Lg qv as (wf ws) s->NN qv as (wf ws) s->∃(e:List Int) (q4:Sl),(tagB o4=true->tagB q4=true)/\(e=[]->∀x∈l,¬0 < (stn qv as ws s).getD x.toNat 0)/\Lg qv as (wf ws) (s++e)/\NN qv as (wf ws) (s++e) /\
  forD (bh 4) zm (l.map D.int) (fr9 (.val (hD qv)) A W o4 (hD qv) ((go qv as s).map D.int) ((stn qv as ws s).map D.int) ((gts qv as s).map D.int) ((tal qv.length s).map D.int)) =
  some (.nx,fr9 (.val (hD qv)) A W q4 (hD qv) ((go qv as (s++e)).map D.int) ((stn qv as ws (s++e)).map D.int) ((gts qv as (s++e)).map D.int) ((tal qv.length (s++e)).map D.int))
 | [],s,o4,_,hl,hn=>⟨[],o4,id,(fun _ x hx=>by cases hx),by rw[List.append_nil];exact hl,by rw[List.append_nil];exact hn,by rw[List.append_nil];rfl⟩
 | x::l,s,o4,hx,hl,hn=>by
  obtain⟨x0,x1⟩:=hx x (List.mem_cons_self ..);have e1:=aoh (ws:=ws) h ha A W hl.inR x0 x1;have g:=aem (qv:=qv) as ws s x0 x1;have hnx:=hn x x0 x1;obtain⟨l2,n2⟩:=atq h hl hn x0 x1 ((stn qv as ws s).getD x.toNat 0).toNat (by omega)
  obtain⟨e,q4,h4,c1,c2,c3,c4⟩:=aib l (s++List.replicate ((stn qv as ws s).getD x.toNat 0).toNat x) (.val (.int x)) (fun y hy=>hx y (List.mem_cons_of_mem _ hy)) l2 n2
  rw[List.append_assoc] at c2 c3 c4;refine⟨List.replicate ((stn qv as ws s).getD x.toNat 0).toNat x++e,q4,fun _=>h4 rfl,fun z y hy =>?_,c2,c3,?_⟩
  ·obtain⟨z1,z2⟩:=List.append_eq_nil_iff.mp z;have z3:((stn qv as ws s).getD x.toNat 0).toNat=0:=by
    have:=congrArg List.length z1;rw[List.length_replicate] at this;exact this
   rcases List.mem_cons.mp hy with rfl | hy
   ·omega
   ·have:=c1 z2 y hy;rw[z1,List.append_nil] at this;exact this
  ·rw[List.map_cons,qy];generalize List.replicate ((stn qv as ws s).getD x.toNat 0).toNat x=R at *;have eb:bh 4 (.int x) (fr9 (.val (hD qv)) A W o4 (hD qv) ((go qv as s).map D.int) ((stn qv as ws s).map D.int) ((gts qv as s).map D.int) ((tal qv.length s).map D.int))=some (fr9 (.val (hD qv)) A W (.val (.int x)) (hD qv) ((go qv as s).map D.int) ((stn qv as ws s).map D.int) ((gts qv as s).map D.int) ((tal qv.length s).map D.int)):=rfl;rw[eb];dsimp only;rw[e1];exact c4
end
theorem af6(n:Nat):(List.replicate n [D.int 0]).flatten=(List.replicate n (0:Int)).map D.int:=by
 rw[List.map_replicate]
 induction n with
 | zero=>rfl
 | succ n ih=>rw[List.replicate_succ,List.flatten_cons,ih,List.replicate_succ];rfl
structure Wk (n:Nat) (ws:List Int):Prop where
 len:ws.length=n
 ok:∀w∈ws,0<=w/\w<=100
theorem ahh{qv:LL9}(h:Hs qv){ws:List Int}(hw:Wk qv.length ws):ux [.val (hD qv),.val (.tup (ws.map D.int)),.val (.int 100)]=some (.ok (.v (.bl true)),[.val (hD qv),.val (.tup (ws.map D.int)),.val (.int 100)]):=by
 have hm:=h.most;have hl:=hw.len;have hl3:=kh qv;have e1:dh [.val (.tup (ws.map D.int)),.val (.int (qv.length:Int)),.val (.int (qv.length:Int))]=some (.ok (.v (.bl true)),[.val (.tup (ws.map D.int)),.val (.int (qv.length:Int)),.val (.int (qv.length:Int))]):=by
  have:(ws.length:Int)=qv.length:=by omega
  simp[dh,ou,isTy,this]
 have e2:compD (bh 0) (ret true) aak (ws.map D.int) [] [.emp,.val (.int 100)]=some (.ok (ws.map fun _=>.bl true),abr .emp (ws.map D.int)::[.val (.int 100)]):=by
  rw[aa7 (f:=fun _=>.bl true)]
  ·simp
  ·intro d hd;obtain⟨w,hwm,rfl⟩:=List.mem_map.mp hd;have:=hw.ok w hwm;simp[aak,ago,this.1,this.2]
 have e3:rz (ws.map fun _=>D.bl true)=some (ws.map fun _=>true):=by
  have:=aac (ws.map fun _=>true)
  rwa[List.map_map] at this
 have e4:(ws.map fun _=>true).all id=true:=by
  rw[List.all_map,List.all_eq_true];intro x _;rfl
 have hc:ws.length<=capS:=bu (by omega)
 generalize hB:(ws.map fun _=>true)=bs at *
 have hc2:(ws.map fun _=>D.bl true).length<=capS:=by rw[List.length_map];exact hc
 generalize (ws.map fun _=>D.bl true)=BB at *
 generalize ws.map D.int=ww at *;simp only[hD] at *;simp[ux,ad5,hl3,e1,e2,e3,e4,hc2]
theorem aly{qv:LL9}(h:Hs qv){as:List Int}(ha:Arr qv as){ws:List Int}(hw:Wk qv.length ws):jq [.val (hD qv),.val (.tup (as.map D.int)),.val (.tup (ws.map D.int))]=some (.ok (.v .non),[.val (hD qv),.val (.tup (as.map D.int)),.val (.tup (ws.map D.int))]):=by
 have e1:=ad3 h ha;have e2:=ahh h hw;generalize as.map D.int=aa at *;generalize ws.map D.int=ww at *;generalize hD qv=hh at *;have e3:gk [.val hh,.val (.tup aa)]=some (.ok (.v .non),[.val hh,.val (.tup aa)]):=by simp[gk,qx,e1]
 have e4:ju [.val hh,.val (.tup ww)]=some (.ok (.v .non),[.val hh,.val (.tup ww)]):=by simp[ju,wg,e2]
 simp[jq,zu,e3,e4]
theorem a4y(h A W o:Sl)(d:D)(l1 l2 l3 l4:List D):(fr9 h A W o d l1 l2 l3 l4:List Sl)[0]? = some h:=rfl
theorem a4x(h A W o:Sl)(d:D)(l1 l2 l3 l4:List D):(fr9 h A W o d l1 l2 l3 l4:List Sl)[5]? = some (.own (some 1000) l1):=rfl
theorem a4w(h A W o:Sl)(d:D)(l1 l2 l3 l4:List D):(fr9 h A W o d l1 l2 l3 l4:List Sl)[7]? = some (.own (some 1002) l3):=rfl
theorem a4v(h A W o:Sl)(d:D)(l1 l2 l3 l4:List D):(fr9 h A W o d l1 l2 l3 l4:List Sl)[8]? = some (.own (some 1003) l4):=rfl
def rsC(d:D)(la lw zz:List D):List (Str×Rv):=[("house", .v d),("turning", .fr la),("standing", .fr lw),("gone", .fr [.int 0,.int 0,.int 0]),("left", .fr zz)]
theorem az1(d:D){hh la lw:List D}{n:Nat}(hn:itemsD d=some hh)(hl:hh.length=n)(c1:la.length<=capS)(c2:lw.length<=capS)(c3:n<=1000) :
  iniD adn [.emp,.val d,.val (.tup la),.val (.tup lw)]=some (rsC d la lw ((List.replicate n (0:Int)).map D.int),[.emp,.val d,.val (.tup la),.val (.tup lw)]):=by
 have z:=af6 n;have hc:capS≥1000:=bu (Nat.le_refl _);have c4:n<=capS:=by omega
 subst hl;have c5:hh.length < 9223372036854775808:=by omega
 simp[rsC,iniD,adn,ao1,hn,c1,c2,c4,c5,z]
section
variable{qv:LL9}(h:Hs qv){as:List Int}(ha:Arr qv as){ws:List Int}
include h ha
theorem amk(hop:yr qv=[]){W b:Nat}(hW1:1<=W)(hw:∀r∈qv,r.length<=W)(hwl:ws.length=qv.length)(hw0:∀w∈ws,0<=w/\w<=(b:Int))(hB:b*qv.length*sx W qv.length < 100000) :
  ∃S,Lg qv as (wf ws) S/\Stb qv as (wf ws) S/\aa1 [.val (hD qv),.val (.tup (as.map D.int)),.val (.tup (ws.map D.int))]=some (.ok (.v (.tup [.tup ((gts qv as S).map D.int),.tup ((go qv as S).map D.int),.tup ((tal qv.length S).map D.int)])),[.val (hD qv),.val (.tup (as.map D.int)),.val (.tup (ws.map D.int))]):=by
 obtain⟨_,_,_,hmost⟩:=most h hop hW1 hw ha (ws:=ws) (b:=b) fun w hw'=>(hw0 w hw').2
 have hm:=h.most;have h1:=h.one;have loop:=vh (c:=yt) (g:=aba)
  (fun n ρ=>∃(s:List Int) (o4:Sl),tagB o4=true/\n=b*qv.length*sx W qv.length - s.length/\Lg qv as (wf ws) s/\NN qv as (wf ws) s/\ρ=fr9 (.val (hD qv)) (.val (.tup (as.map D.int))) (.val (.tup (ws.map D.int))) o4 (hD qv) ((go qv as s).map D.int) ((stn qv as ws s).map D.int) ((gts qv as s).map D.int) ((tal qv.length s).map D.int))
  (fun ρ=>∃(s:List Int) (o4:Sl),tagB o4=true/\Lg qv as (wf ws) s/\Stb qv as (wf ws) s/\ρ=fr9 (.val (hD qv)) (.val (.tup (as.map D.int))) (.val (.tup (ws.map D.int))) o4 (hD qv) ((go qv as s).map D.int) ((stn qv as ws s).map D.int) ((gts qv as s).map D.int) ((tal qv.length s).map D.int))
  ?_ fuel (b*qv.length*sx W qv.length) (fr9 (.val (hD qv)) (.val (.tup (as.map D.int))) (.val (.tup (ws.map D.int))) .emp (hD qv) (as.map D.int) (ws.map D.int) [.int 0,.int 0,.int 0] ((List.replicate qv.length (0:Int)).map D.int)) (Nat.lt_trans hB ac0) ⟨[],.emp,rfl,by simp,.nil,.nil,by rw[au0 hwl fun w hw'=>(hw0 w hw').1,auv];rfl⟩
 ·obtain⟨ρ',e,S,o4,ho4,l,st,rfl⟩:=loop;refine⟨S,l,st,?_⟩;have hal:=ha.len;have c1:(as.map D.int).length<=capS:=by rw[List.length_map];exact bu (by omega)
  have c2:(ws.map D.int).length<=capS:=by rw[List.length_map];exact bu (by omega)
  have c4:((gts qv as S).map D.int).length<=capS:=bu (show 3<=1000 by decide)
  have c5:((tal qv.length S).map D.int).length<=capS:=by rw[List.length_map,ye];exact bu (by omega)
  have c6:((go qv as S).map D.int).length<=capS:=by rw[List.length_map,(abx h S ha l.inR).len];exact bu (by omega)
  have z:=az1 (hD qv) (hh:=hDs qv) (n:=qv.length) rfl (kh qv) c1 c2 (by omega)
  generalize (List.replicate qv.length (0:Int)).map D.int=zz at *;generalize (tal qv.length S).map D.int=tm at *;generalize (stn qv as ws S).map D.int=sm at *;generalize (gts qv as S).map D.int=gm at *;generalize (go qv as S).map D.int=am at *;generalize as.map D.int=la at *;generalize ws.map D.int=lw at *;generalize hD qv=hh at *;have eK:(dSeq (whileD yt aba fuel) (dRet (M.v (mTup (cg (M.d (dz (g1 gT9) ((mLnk "Crowd" 3 "gone" 7).bind fun _=>dw 7 mNil))) (cg (M.d (dz (g1 gT9) ((mLnk "Crowd" 3 "turning" 5).bind fun _=>dw 5 mNil))) (cg (M.d (dz (g1 gT9) ((mLnk "Crowd" 3 "left" 8).bind fun _=>dw 8 mNil))) mNil))))))) (fr9 (.val hh) (.val (.tup la)) (.val (.tup lw)) .emp hh la lw [.int 0,.int 0,.int 0] zz)=some (.ret (.v (.tup [.tup gm,.tup am,.tup tm])),fr9 (.val hh) (.val (.tup la)) (.val (.tup lw)) o4 hh am sm gm tm):=by
   simp[e,a4b,a3z,a4a,a4x,a4w,a4v,c4,c5,c6]
  have eN:afb [.val hh,.val (.tup la),.val (.tup lw),.emp,.emp,.emp,.emp,.emp,.emp]=some (.ret (.v (.tup [.tup gm,.tup am,.tup tm])),[.val hh,.val (.tup la),.val (.tup lw),.emp,o4,.emp,.emp,.emp,.emp]):=by
   unfold afb dNew dM;have em:dg 0 (dg 1 (dg 2 jc)) [Sl.val hh,.val (.tup la),.val (.tup lw),.emp,.emp,.emp,.emp,.emp,.emp]=some (.ok [none,none,none],[.val hh,.val (.tup la),.val (.tup lw),.emp,.emp,.emp,.emp,.emp,.emp]):=by rfl
   rw[em];dsimp only;rw[if_pos (show okJs [Sl.val hh,.val (.tup la),.val (.tup lw),.emp,.emp,.emp,.emp,.emp,.emp] [none,some 0,some 1,some 2]=true from rfl)]
   have el:lend [Sl.val hh,.val (.tup la),.val (.tup lw),.emp,.emp,.emp,.emp,.emp,.emp] [none,some 0,some 1,some 2] [none,none,none,none]++List.replicate (4 - 4) Sl.emp=[.emp,.val hh,.val (.tup la),.val (.tup lw)]:=rfl;rw[el,z];dsimp only;rw[if_pos (show(putB [Sl.val hh,.val (.tup la),.val (.tup lw),.emp,.emp,.emp,.emp,.emp,.emp] [none,some 0,some 1,some 2] (List.take 4 [.emp,.val hh,.val (.tup la),.val (.tup lw)]):List Sl).all tagB=true/\[5,6,7,8].contains 3=false from⟨rfl,rfl⟩)]
   have eS:setG (rsC hh la lw zz) [5,6,7,8] 0 (List.set (putB [Sl.val hh,.val (.tup la),.val (.tup lw),.emp,.emp,.emp,.emp,.emp,.emp] [none,some 0,some 1,some 2] (List.take 4 [.emp,.val hh,.val (.tup la),.val (.tup lw)])) 3 (.box "Crowd" (mkFs (rsC hh la lw zz) 0)))=some (fr9 (.val hh) (.val (.tup la)) (.val (.tup lw)) .emp hh la lw [.int 0,.int 0,.int 0] zz):=rfl;rw[eS];dsimp only;rw[eK];dsimp only;have eO:offs (fr9 (.val hh) (.val (.tup la)) (.val (.tup lw)) o4 hh am sm gm tm) [3,5,6,7,8]=[.val hh,.val (.tup la),.val (.tup lw),.emp,o4,.emp,.emp,.emp,.emp]:=rfl;rw[eO,if_pos (show([Sl.val hh,.val (.tup la),.val (.tup lw),.emp,o4,.emp,.emp,.emp,.emp]:List Sl).all tagB=true by simp only[List.all_cons,List.all_nil,ho4];rfl)]
  simp[aa1,eN]
 ·rintro n ρ ⟨s,o4,ho4,rfl,l,nn,rfl⟩
  have eT:yt (fr9 (.val (hD qv)) (.val (.tup (as.map D.int))) (.val (.tup (ws.map D.int))) o4 (hD qv) ((go qv as s).map D.int) ((stn qv as ws s).map D.int) ((gts qv as s).map D.int) ((tal qv.length s).map D.int))=some (.ok (((stn qv as ws s).map fun n=>n != 0).any id),fr9 (.val (hD qv)) (.val (.tup (as.map D.int))) (.val (.tup (ws.map D.int))) o4 (hD qv) ((go qv as s).map D.int) ((stn qv as ws s).map D.int) ((gts qv as s).map D.int) ((tal qv.length s).map D.int)):=by
   have ei:=ae6 (stn qv as ws s);generalize (stn qv as ws s).map D.int=sm at *;generalize (go qv as s).map D.int=am at *;generalize (gts qv as s).map D.int=gm at *;generalize (tal qv.length s).map D.int=tm at *;generalize as.map D.int=la at *;generalize ws.map D.int=lw at *;generalize hD qv=hh at *;generalize hns:stn qv as ws s=ns at *;simp[yt,asf,as7,ei]
  have eany:(((stn qv as ws s).map fun n=>n != 0).any id)=true↔∃x:Int,0<=x/\x < (qv.length:Int)/\(stn qv as ws s).getD x.toNat 0≠0:=by
   rw[List.any_map,List.any_eq_true];constructor
   ·rintro⟨v,hv,q⟩
    obtain⟨i,hi,e⟩:=List.mem_iff_getElem.mp hv;rw[v6] at hi;refine⟨(i:Int),by omega,by omega,?_⟩
    rw[Int.toNat_natCast,List.getD_eq_getElem?_getD,List.getElem?_eq_getElem (by rw[v6];exact hi)]
    show(stn qv as ws s)[i]≠0;rw[e]
    simpa using q
   ·rintro⟨x,x0,x1,q⟩
    have hk:x.toNat < (stn qv as ws s).length:=by rw[v6];omega
    refine⟨(stn qv as ws s).getD x.toNat 0,?_,by simpa using q⟩
    rw[List.getD_eq_getElem?_getD,List.getElem?_eq_getElem hk];exact List.getElem_mem hk
  cases q:(((stn qv as ws s).map fun n=>n != 0).any id) with
  | false =>
   rw[q] at eT eany;refine .inl ⟨_,eT,s,o4,ho4,l,fun x x0 x1 =>?_,rfl⟩
   have q1:=nn x x0 x1;have q2:(stn qv as ws s).getD x.toNat 0=0:=Classical.byContradiction fun z=>by
    have:=eany.mpr ⟨x,x0,x1,z⟩;cases this
   rw[aem as ws s x0 x1] at q2;omega
  | true =>
   rw[q] at eT;obtain⟨x,x0,x1,hx⟩:=eany.mp q;obtain⟨e,q4,h4,c1,c2,c3,c4⟩:=aib h ha (.val (.tup (as.map D.int))) (.val (.tup (ws.map D.int))) (upto qv.length) s o4 (fun x hx=>km hx) l nn
   have hne:e≠[]:=fun z=>by
    have:=c1 z x (aae x0 x1);have q1:=nn x x0 x1;rw[aem as ws s x0 x1] at this hx;omega
   have hpos:=List.length_pos_iff.mpr hne;have z:=hmost _ c2;rw[List.length_append] at z;refine .inr ⟨_,_,b*qv.length*sx W qv.length - (s++e).length,eT,?_,by rw[List.length_append];omega,s++e,q4,h4 ho4,rfl,c2,c3,rfl⟩
   rw[<-aaf] at c4;have hdl:=kh qv;have hb':qv.length < 4611686018427387904:=by omega
   generalize (stn qv as ws s).map D.int=sm at *;generalize (go qv as s).map D.int=am at *;generalize (gts qv as s).map D.int=gm at *;generalize (tal qv.length s).map D.int=tm at *;generalize as.map D.int=la at *;generalize ws.map D.int=lw at *;simp only[hD] at *;simp[aba,a4y,hdl,hb',c4]
end
section
variable{qv:LL9}(h:Hs qv){as:List Int}(ha:Arr qv as){ws:List Int}(hop:yr qv=[]){W b:Nat}(hW1:1<=W)(hw:∀r∈qv,r.length<=W)(hwl:ws.length=qv.length)(hw0:∀w∈ws,0<=w/\w<=(b:Int))(hb:b<=100)(hB:b*qv.length*sx W qv.length < 100000)
include h ha
theorem a2r{S T:List Int}(l1:Lg qv as (wf ws) S)(s1:Stb qv as (wf ws) S)(l2:Lg qv as (wf ws) T)(s2:Stb qv as (wf ws) T):gts qv as S=gts qv as T/\go qv as S=go qv as T/\tal qv.length S=tal qv.length T:=by
 have c:=abel h ha l1 s1 l2 s2;have g:∀d,arv qv d as S=arv qv d as T:=fun d=>by
  rw[aav h d S ha l1.inR,aav h d T ha l2.inR];exact u6 _ _ _ fun x _=>by rw[c x]
 exact⟨by unfold gts;rw[g,g,g],go_same h ha l1.inR l2.inR c,arb c⟩
include hop hW1 hw hwl hw0 hb hB
theorem rest_eq{S:List Int}(l1:Lg qv as (wf ws) S)(s1:Stb qv as (wf ws) S):aja [.val (hD qv),.val (.tup (as.map D.int)),.val (.tup (ws.map D.int))]=some (.ok (.v (.tup [.tup ((gts qv as S).map D.int),.tup ((go qv as S).map D.int),.tup ((tal qv.length S).map D.int)])),[.val (hD qv),.val (.tup (as.map D.int)),.val (.tup (ws.map D.int))]):=by
 obtain⟨T,l2,s2,e2⟩:=amk h ha hop hW1 hw hwl hw0 hB;obtain⟨g1,g2,g3⟩:=a2r h ha l1 s1 l2 s2;rw[<-g1,<-g2,<-g3] at e2;have s0:=aly h ha ⟨hwl,fun w hw'=>⟨(hw0 w hw').1,by have:=(hw0 w hw').2;omega⟩⟩
 have q:=anu h;rw[hop] at q;have e3:gEq true (.tup []) (.tup [])=some (.v (.bl false)):=aef true [] [];have s1:gw [.val (hD qv)]=some (.ok (.v .non),[.val (hD qv)]):=by simp[gw,ud,q,e3]
 generalize (gts qv as S).map D.int=gm at *;generalize (go qv as S).map D.int=am at *;generalize (tal qv.length S).map D.int=tm at *;generalize as.map D.int=la at *;generalize ws.map D.int=lw at *;generalize hD qv=hh at *;simp[aja,at7,s0,s1,e2]
theorem au3:∃S,Lg qv as (wf ws) S/\Stb qv as (wf ws) S:=by
 obtain⟨S,a,b,_⟩:=most h hop hW1 hw ha (ws:=ws) (b:=b) fun w hw'=>(hw0 w hw').2
 exact⟨S,a,b⟩
end
def ldo(qv:LL9)(as:List Int)(x:Int)(m:Nat):Int:=(dr qv x).getD ((ar as x+((m:Int) - 1)) % ((dr qv x).length:Int)).toNat 0
theorem aun(qv:LL9)(as:List Int)(x:Int){m n:Nat}(hm:m < n):us qv as x (ldo qv as x n) m < us qv as x (ldo qv as x n) n:=by
 obtain⟨n,rfl⟩:∃k,n=k+1:=⟨n - 1,by omega⟩
 have e:us qv as x (ldo qv as x (n+1)) (n+1)=us qv as x (ldo qv as x (n+1)) n+1:=by
  show us qv as x (ldo qv as x (n+1)) n+(if (dr qv x).getD ((ar as x+(n:Int)) % ((dr qv x).length:Int)).toNat 0=ldo qv as x (n+1) then 1 else 0)=_
  rw[if_pos];unfold ldo;rw[show(((n+1:Nat):Int) - 1)=(n:Int) by omega]
 have:=ajy qv as x (ldo qv as x (n+1)) (show m<=n by omega)
 omega
theorem ak4(f g:Int->Nat)(x:Int)(hx:f x < g x):∀l:List Int,x∈l->(∀y∈l,f y<=g y)->(l.map f).sum < (l.map g).sum
 | [],h,_=>by cases h
 | y::l,h,hs=>by
  rw[List.map_cons,List.map_cons,List.sum_cons,List.sum_cons];have h1:=aeb f g l fun z hz=>hs z (List.mem_cons_of_mem _ hz)
  have h2:=hs y (List.mem_cons_self ..);rcases List.mem_cons.mp h with rfl | h
  ·omega
  ·have:=ak4 f g x hx l h fun z hz=>hs z (List.mem_cons_of_mem _ hz)
   omega
section
variable{qv:LL9}(h:Hs qv)
include h
theorem ama:∀(s:List Int) {as:List Int},Arr qv as->InR qv s->s.length=((upto qv.length).map fun d=>arv qv d as s).sum+(arv qv (-1) as s+arv qv (-2) as s+arv qv (-3) as s)
 | [],as,_,_=>by
  have:((upto qv.length).map fun d=>arv qv d as []).sum=0:=by
   generalize upto qv.length=l
   induction l with
   | nil=>rfl
   | cons x l ih=>rw[List.map_cons,List.sum_cons,ih];rfl
  rw[this];rfl
 | x::s,as,ha,hs=>by
  have hx:=hs x (List.mem_cons_self ..);have ih:=ama s (abi h ha hx.1 hx.2) fun y hy=>hs y (List.mem_cons_of_mem _ hy)
  have hd:=atx h ha hx.1 hx.2;have ea:∀d,arv qv d as (x::s)=(if led qv as x=d then 1 else 0)+arv qv d (gone qv as x) s:=fun d=>rfl
  rw[List.length_cons,ih,ea (-1),ea (-2),ea (-3)]
  by_cases q:0<=led qv as x
  ·rw[if_neg (by omega),if_neg (by omega),if_neg (by omega)]
   have e:=agt (fun d=>arv qv d as (x::s)) (fun d=>arv qv d (gone qv as x) s) (led qv as x) 1 (by rw[ea,if_pos rfl]) (upto qv.length) (ac6 _) (aae q hd.2) fun y _ hy=>by rw[ea,if_neg (Ne.symm hy)];omega
   rw[e];omega
  ·have e:=u6 (fun d=>arv qv d as (x::s)) (fun d=>arv qv d (gone qv as x) s) (upto qv.length) fun y hy=>by
    have:=km hy;rw[ea,if_neg (by omega)]
    omega
   rw[e];have:led qv as x = -1∨led qv as x = -2∨led qv as x = -3:=by omega
   rcases this with z | z | z <;> rw[z] <;> simp <;> omega
variable{as:List Int}(ha:Arr qv as){w:Int->Nat}
include ha
theorem aqt{t:List Int}(ht:InR qv t)(st:Stb qv as w t):((upto qv.length).map w).sum=arv qv (-1) as t+arv qv (-2) as t+arv qv (-3) as t:=by
 have e1:=ama h t ha ht;have e2:=ahe (qv:=qv) ht;have e3:=u6 (fun y=>t.count y) (fun y=>w y+arv qv y as t) (upto qv.length) fun y hy=>st y (km hy).1 (km hy).2
 have e4:∀l:List Int,(l.map fun y=>w y+arv qv y as t).sum=(l.map w).sum+(l.map fun y=>arv qv y as t).sum:=fun l=>by
  induction l with
  | nil=>rfl
  | cons x l ih=>rw[List.map_cons,List.map_cons,List.map_cons,List.sum_cons,List.sum_cons,List.sum_cons,ih];omega
 rw[e3,e4] at e2;omega
theorem agg{S t:List Int}(lS:Lg qv as w S)(sS:Stb qv as w S)(ht:InR qv t)(st:Stb qv as w t):(∀x,S.count x<=t.count x)/\∀x,S.count x < t.count x->0<=ldo qv as x (t.count x)/\S.count (ldo qv as x (t.count x)) < t.count (ldo qv as x (t.count x)):=by
 have le:=fun x=>acv h ha lS ht (fun x a b=>Nat.le_of_eq (st x a b).symm) x
 refine⟨le,fun x hx =>?_⟩
 have hxr:0<=x/\x < (qv.length:Int):=Classical.byContradiction fun q=>by
  rw[ht.count q] at hx;omega
 have ul:=aun qv as x hx;have hd : -3<=ldo qv as x (t.count x)/\ldo qv as x (t.count x) < (qv.length:Int):=by
  obtain⟨w1,w2,w3⟩:=h.dr hxr.1 hxr.2;apply w3;unfold ldo;have hk:((ar as x+((t.count x:Int) - 1)) % ((dr qv x).length:Int)).toNat < (dr qv x).length:=by
   have a:=Int.emod_lt_of_pos (ar as x+((t.count x:Int) - 1)) (show(0:Int) < ((dr qv x).length:Int) by omega)
   have b:=Int.emod_nonneg (ar as x+((t.count x:Int) - 1)) (show((dr qv x).length:Int)≠0 by omega)
   omega
  rw[List.getD_eq_getElem?_getD,List.getElem?_eq_getElem hk];exact List.getElem_mem hk
 generalize ldo qv as x (t.count x)=d at *;have ar:arv qv d as S < arv qv d as t:=by
  rw[aav h d S ha lS.inR,aav h d t ha ht];exact ak4 _ _ x ul _ (aae hxr.1 hxr.2) fun y _=>ajy qv as y d (le y)
 by_cases q:0<=d
 ·refine⟨q,?_⟩;have a:=sS d q hd.2;have b:=st d q hd.2;omega
 ·exfalso;have a:=aqt h ha lS.inR sS;have b:=aqt h ha ht st;have al:=fun d=>auj h ha lS.inR ht (fun y _ _=>le y) d
  have a1:=al (-1);have a2:=al (-2);have a3:=al (-3);have:d = -1∨d = -2∨d = -3:=by omega
  rcases this with rfl | rfl | rfl <;> omega
omit ha in
theorem Lg.nn{S:List Int}(l:Lg qv as w S):∀p q,S=p++q->NN qv as w p:=fun p=>by
 induction hk:p.length generalizing p with
 | zero =>
  intro q _;rw[List.eq_nil_of_length_eq_zero hk];exact .nil
 | succ k ih =>
  intro q e;rcases List.eq_nil_or_concat p with rfl | ⟨p',x,rfl⟩
  ·cases hk
  ·rw[List.concat_eq_append] at *;have hl:p'.length=k:=by simp at hk;exact hk
   have e2:S=p'++x::q:=by rw[e,List.append_assoc];rfl
   exact(ih p' hl (x::q) e2).snoc (l p' x q e2).2
theorem amj{S:List Int}(lS:Lg qv as w S)(sS:Stb qv as w S)(D:Int->Prop)(hD:∀x,D x->0<=x/\x < (qv.length:Int)/\0 < S.count x/\D (ldo qv as x (S.count x)))(x:Int)(hx:D x):False:=by
 classical
 have ex:∀S':List Int,(∃y∈S',D y)->∃p y q,S'=p++y::q/\D y/\∀z∈q,¬D z:=fun S'=>by
  induction S' with
  | nil=>rintro⟨y,hy,_⟩;cases hy
  | cons a S' ih =>
   rintro⟨y,hy,hd⟩
   by_cases q:∃y∈S',D y
   ·obtain⟨p,y,r,e,a1,a2⟩:=ih q;exact⟨a::p,y,r,by rw[e];rfl,a1,a2⟩
   ·rcases List.mem_cons.mp hy with rfl | hy
    ·exact⟨[],y,S',rfl,hd,fun z hz hz'=>q ⟨z,hz,hz'⟩⟩
    ·exact absurd ⟨y,hy,hd⟩ q
 obtain⟨p,y,q,e,hy,hq⟩:=ex S ⟨x,List.count_pos_iff.mp (hD x hx).2.2.1,hx⟩;obtain⟨y0,y1,y2,y3⟩:=hD y hy;obtain⟨_,hleg⟩:=lS p y q e;have hpin:InR qv p:=fun z hz=>lS.inR z (by rw[e];exact List.mem_append_left _ hz)
 have cq:q.count y=0:=List.count_eq_zero.mpr fun z=>hq y z hy
 have cS:S.count y=p.count y+1:=by rw[e,List.count_append,je,if_pos rfl,cq]
 have eled:led qv (go qv as p) y=ldo qv as y (S.count y):=by
  unfold led ldo;rw[ahv h y0 y1 p ha hpin,cS];rw[show(((p.count y+1:Nat):Int) - 1)=(p.count y:Int) by omega]
 rw[<-eled] at y3;obtain⟨d0,d1,d2,_⟩:=hD _ y3;obtain⟨d,hd⟩:∃d,led qv (go qv as p) y=d:=⟨_,rfl⟩
 rw[hd] at y3 d0 d1;have nn:=lS.nn h p (y::q) e d d0 d1;have c2:q.count d=0:=List.count_eq_zero.mpr fun z=>hq d z y3
 have e3:arv qv d as S=arv qv d as p+(1+arv qv d (gone qv (go qv as p) y) q):=by
  rw[e,qt];show arv qv d as p+((if led qv (go qv as p) y=d then 1 else 0)+_)=_
  rw[if_pos hd]
 have e4:S.count d=p.count d+(0+if y=d then 1 else 0):=by rw[e,List.count_append,je,c2]
 have s:=sS d d0 d1;rw[e3,e4] at s
 by_cases z:y=d
 ·subst z;rw[if_pos rfl] at s;omega
 ·rw[if_neg z] at s;omega
end
def uAll(qv:LL9)(as gs:List Int)(i:Nat):List D:=(List.range i).map fun j=>D.tup ((ut (qv.getD j []).length (as.getD j 0) (gs.getD j 0)).map D.int)
theorem ano(qv:LL9)(as gs:List Int)(i:Nat):uAll qv as gs (i+1)=uAll qv as gs i++[D.tup ((ut (qv.getD i []).length (as.getD i 0) (gs.getD i 0)).map D.int)]:=by
 simp[uAll,List.range_succ]
theorem aej{qv:LL9}(h:Hs qv){as gs:List Int}(ha:as.length=qv.length)(hg:gs.length=qv.length) :
  o9 [.val (hD qv),.val (.tup (as.map D.int)),.val (.tup (gs.map D.int))]=some (.ok (.v (.tup (uAll qv as gs qv.length))),[.val (hD qv),.val (.tup (as.map D.int)),.val (.tup (gs.map D.int))]):=by
 have hm:=h.most;have hle:(hDs qv).length<=(as.map D.int).length/\(hDs qv).length<=(gs.map D.int).length:=by rw[kh,List.length_map,List.length_map];omega
 have loop:=aaj (b:=bTup 3 (gq (bh 4) (gq (bh 5) (gq (bh 6) bNil)))) (g:=yl) (fun i ρ=>∃o1 o2 o3,ρ=[.val (hD qv),.val (.tup (as.map D.int)),.val (.tup (gs.map D.int)),.own none (uAll qv as gs i),o1,o2,o3])
  (l:=ab1 (hDs qv) (as.map D.int) (gs.map D.int)) (ρ:=[.val (hD qv),.val (.tup (as.map D.int)),.val (.tup (gs.map D.int)),.own none [],.emp,.emp,.emp]) 0 ⟨.emp,.emp,.emp,rfl⟩ ?_
 ·obtain⟨ρ',e,o1,o2,o3,rfl⟩:=loop;rw[aeh hle,kh,Nat.zero_add] at e;have hl:=kh qv;simp only[hD] at e ⊢
  simp[o9,acw,hl,ha,hg,e]
 ·rintro i d ρ hd ⟨o1,o2,o3,rfl⟩
  rw[Nat.zero_add] at *;obtain⟨d1,d2,d3,g1,g2,g3,rfl⟩:=acb hd;obtain⟨r,hr,rfl⟩:=ae9 g1;rw[List.getElem?_map] at g2 g3;obtain⟨a,ea,rfl⟩:=Option.map_eq_some_iff.mp g2;obtain⟨b,eb,rfl⟩:=Option.map_eq_some_iff.mp g3;obtain⟨k1,k2,_⟩:=h.room r (List.mem_of_getElem? hr);have hi:i < qv.length:=(List.getElem?_eq_some_iff.mp hr).1;have e1:=af7 (n:=r.length) (a:=a) (L:=b) k1 k2;have x1:qv.getD i []=r:=by simp[hr]
  have x2:as.getD i 0=a:=by simp[ea]
  have x3:gs.getD i 0=b:=by simp[eb]
  have hc:(uAll qv as gs i).length < capS:=by simp[uAll];unfold capS;omega
  refine⟨[.val (hD qv),.val (.tup (as.map D.int)),.val (.tup (gs.map D.int)),.own none (uAll qv as gs i),.val (.tup (r.map D.int)),.val (.int a),.val (.int b)],[.val (hD qv),.val (.tup (as.map D.int)),.val (.tup (gs.map D.int)),.own none (uAll qv as gs (i+1)),.val (.tup (r.map D.int)),.val (.int a),.val (.int b)],by simp,.inl ?_,_,_,_,rfl⟩
  rw[ano,x1,x2,x3];generalize uAll qv as gs i=Z at hc;have hc2:(ut r.length a b).length<=capS:=by rw[acd];exact bu (by omega)
  simp[yl,e1,hc,hc2]
def ae4(L:List Int)(S:List Int):List Int:=S.filter fun x=>decide (L.getD x.toNat 0∈S)
theorem asw{L:List Int}(S:List Int){x:Int}(h0:0<=x)(h1:x < (L.length:Int)) :
  ur [.val (.int x),.val (.lst (S.map D.int)),.val (.tup (L.map D.int))]=some (.ok (decide (L.getD x.toNat 0∈S)),[.val (.int x),.val (.lst (S.map D.int)),.val (.tup (L.map D.int))]):=by
 have er:=vg (ns:=L) h0 h1;have e2:=afi false (L.getD x.toNat 0) S;generalize L.getD x.toNat 0=y at *;generalize L.map D.int=LL at *;generalize decide (y∈S)=b at *;generalize S.map D.int=SS at *;simp[ur,er,e2]
theorem am5{L:List Int}(S:List Int)(hS:∀x∈S,0<=x/\x < (L.length:Int)) :
  compD (bh 0) ur yo (S.map D.int) [] [.emp,.val (.lst (S.map D.int)),.val (.tup (L.map D.int))]=some (.ok ((ae4 L S).map D.int),abr .emp (S.map D.int)::[.val (.lst (S.map D.int)),.val (.tup (L.map D.int))]):=by
 rw[qp (p:=fun d=>match d with | .int x=>decide (L.getD x.toNat 0∈S) | _=>false) (f:=id)]
 ·simp only[ae4,List.filter_map,Function.comp_def,List.map_id,List.nil_append]
 ·intro d hd;obtain⟨k,hk,rfl⟩:=List.mem_map.mp hd;exact asw S (hS k hk).1 (hS k hk).2
 ·intro d hd _;simp[yo]
theorem ahg{L S:List Int}{x:Int}:x∈ae4 L S↔x∈S/\L.getD x.toNat 0∈S:=by
 unfold ae4;rw[List.mem_filter];simp
theorem aph{L:List Int}{S0:List Int}(hS:∀x∈S0,0<=x/\x < (L.length:Int))(hl:S0.length<=100):∃R:List Int,rm [.val (.tup (L.map D.int)),.val (.lst (S0.map D.int))]=some (.ok (.fr (R.map D.int)),[.val (.tup (L.map D.int)),.val (.lst (S0.map D.int))]) /\
  (∀Q:Int->Prop,(∀x,Q x->x∈S0/\Q (L.getD x.toNat 0))->∀x,Q x->x∈R)/\∀x∈R,x∈S0/\L.getD x.toNat 0∈R:=by
 have loop:=vh (c:=um) (g:=yc)
  (fun k ρ=>∃(S:List Int) (m:Nat),ρ=[.val (.tup (L.map D.int)),.val (.lst (S0.map D.int)),.own none (S.map D.int),.val (.int (m:Nat))]/\k=m/\S.length<=m/\S.length<=100/\(S.length=m->∀x∈S,L.getD x.toNat 0∈S)/\(∀x∈S,x∈S0)/\∀Q:Int->Prop,(∀x,Q x->x∈S0/\Q (L.getD x.toNat 0))->∀x,Q x->x∈S)
  (fun ρ=>∃(S:List Int) (o:Sl),ρ=[.val (.tup (L.map D.int)),.val (.lst (S0.map D.int)),.own none (S.map D.int),o]/\(∀x∈S,L.getD x.toNat 0∈S)/\(∀x∈S,x∈S0)/\∀Q:Int->Prop,(∀x,Q x->x∈S0/\Q (L.getD x.toNat 0))->∀x,Q x->x∈S)
  ?_ fuel (S0.length+1) [.val (.tup (L.map D.int)),.val (.lst (S0.map D.int)),.own none (S0.map D.int),.val (.int ((S0.length+1:Nat):Int))] (Nat.lt_of_le_of_lt (by omega) ac0)
  ⟨S0,S0.length+1,rfl,rfl,by omega,hl,fun z=>by omega,fun x hx=>hx,fun Q hQ x hx=>(hQ x hx).1⟩
 ·obtain⟨ρ',e,R,o,rfl,r1,r2,r3⟩:=loop;refine⟨R,?_,r3,fun x hx=>⟨r2 x hx,r1 x hx⟩⟩
  have hcast:((S0.length+1:Nat):Int)=(S0.length:Int)+1:=by omega
  rw[hcast] at e;have ul:(S0.map D.int).length=S0.length:=List.length_map ..
  have hc:(S0.map D.int).length<=capS:=by rw[ul];exact bu (by omega)
  generalize S0.map D.int=U at *;generalize R.map D.int=T at *;generalize L.map D.int=LL at *;simp[rm,acy,ul,hc,e]
 ·rintro k ρ ⟨S,m,rfl,rfl,h1,h2,h3,h4,h5⟩
  have ul:(S.map D.int).length=S.length:=List.length_map ..
  rcases Nat.lt_or_ge S.length k with q | q
  ·have e:=am5 (L:=L) S fun x hx=>hS x (h4 x hx)
   have hkl:(ae4 L S).length<=S.length:=List.length_filter_le _ _;have hc:((ae4 L S).map D.int).length<=capS:=by rw[List.length_map];exact bu (by omega)
   refine .inr ⟨[.val (.tup (L.map D.int)),.val (.lst (S0.map D.int)),.own none (S.map D.int),.val (.int (k:Int))],[.val (.tup (L.map D.int)),.val (.lst (S0.map D.int)),.own none ((ae4 L S).map D.int),.val (.int (S.length:Int))],S.length,?_,?_,q,ae4 L S,S.length,rfl,rfl,hkl,by omega,fun z x hx =>?_,fun x hx=>h4 x (ahg.mp hx).1,fun Q hQ x hx=>ahg.mpr ⟨h5 Q hQ x hx,h5 Q hQ _ (hQ x hx).2⟩⟩
   ·have q':(S.length:Int) < (k:Int):=by omega
    generalize S.map D.int=SS at *;simp[um,ul,q']
   ·generalize (ae4 L S).map D.int=kk at *;generalize S.map D.int=SS at *;generalize L.map D.int=LL at *;simp[yc,ul,e,hc]
   ·have es:ae4 L S=S:=by
     unfold ae4 at z ⊢
     exact List.filter_eq_self.mpr (List.length_filter_eq_length_iff.mp z)
    rw[es] at hx ⊢
    rw[<-es] at hx;exact(ahg.mp hx).2
  ·refine .inl ⟨_,?_,S,.val (.int (k:Int)),rfl,h3 (by omega),h4,h5⟩
   have q':¬(S.length:Int) < (k:Int):=by omega
   generalize S.map D.int=SS at *;simp[um,ul,q']
def stq(st:List Int)(q:Int×Int):List Int:=if 0<=q.1 then st.set q.1.toNat (st.getD q.1.toNat 0+q.2) else st
theorem agu(ps:List (Int×Int)):∀st:List Int,(ps.foldl stq st).length=st.length:=by
 induction ps with
 | nil=>intro st;rfl
 | cons p ps ih =>
  intro st;rw[List.foldl_cons,ih];unfold stq;split
  ·exact List.length_set ..
  ·rfl
theorem atn{n:Nat}:∀(ps:List (Int×Int)) (st:List Int),(∀p∈ps,p.1 < (n:Int))->st.length=n->∀i:Nat,i < n->(ps.foldl stq st).getD i 0=st.getD i 0+(ps.map fun p=>if p.1=(i:Int) then p.2 else 0).sum
 | [],st,_,_,i,_=>by simp
 | (d,t)::ps,st,hp,hl,i,hi=>by
  have hd:d < (n:Int):=hp (d,t) (List.mem_cons_self ..);have hl2:(stq st (d,t)).length=n:=by
   have:=agu [(d,t)] st;rw[<-hl];exact this
  rw[List.foldl_cons,atn ps (stq st (d,t)) (fun p hp'=>hp p (List.mem_cons_of_mem _ hp')) hl2 i hi,List.map_cons,List.sum_cons]
  have e:(stq st (d,t)).getD i 0=st.getD i 0+if d=(i:Int) then t else 0:=by
   unfold stq
   by_cases q:0<=d
   ·rw[if_pos q];show(st.set d.toNat (st.getD d.toNat 0+t)).getD i 0=_;rw[vz _ _ _ _ (by omega)]
    by_cases z:d.toNat=i
    ·rw[if_pos z,if_pos (by omega),z]
    ·rw[if_neg z,if_neg (by omega),Int.add_zero]
   ·rw[if_neg q,if_neg (by omega),Int.add_zero]
  rw[e];show st.getD i 0+(if d=(i:Int) then t else 0)+_=st.getD i 0+((if d=(i:Int) then t else 0)+_)
  omega
def cmb(qv:LL9)(as gs:List Int)(st:List Int):Nat->List Int
 | 0=>st
 | j+1=>(prs (qv.getD j []) (as.getD j 0) (gs.getD j 0)).foldl stq (cmb qv as gs st j)
theorem aan(qv:LL9)(as gs st:List Int):∀j,(cmb qv as gs st j).length=st.length
 | 0=>rfl
 | j+1=>by
  show((prs _ _ _).foldl stq (cmb qv as gs st j)).length=_;rw[agu,aan]
theorem al1{qv:LL9}(h:Hs qv){as:List Int}(ha:Arr qv as){gs st:List Int}(hg:∀g∈gs,0<=g)(hgl:gs.length=qv.length)(hl:st.length=qv.length){i:Nat}(hi:i < qv.length):∀j,j<=qv.length->(cmb qv as gs st j).getD i 0=st.getD i 0+(((List.range j).map fun(y:Nat)=>us qv as ((y:Nat):Int) (i:Int) (gs.getD y 0).toNat).sum:Nat)
 | 0,_=>by
  show st.getD i 0=st.getD i 0+((0:Nat):Int);omega
 | j+1,hj=>by
  have hdr:dr qv ((j:Nat):Int)=qv.getD j []:=by unfold dr;rw[Int.toNat_natCast]
  have har:ar as ((j:Nat):Int)=as.getD j 0:=by unfold ar;rw[Int.toNat_natCast]
  have hk:j < gs.length:=by omega
  have g0:0<=gs.getD j 0:=by
   rw[List.getD_eq_getElem?_getD,List.getElem?_eq_getElem hk];exact hg _ (List.getElem_mem hk)
  have u:=ak2 h ha (x:=((j:Nat):Int)) (by omega) (by omega) (i:Int) (gs.getD j 0).toNat
  rw[show(((gs.getD j 0).toNat:Nat):Int)=gs.getD j 0 by omega,hdr,har] at u
  have hb:∀p∈prs (qv.getD j []) (as.getD j 0) (gs.getD j 0),p.1 < (qv.length:Int):=fun p hp=>by
   obtain⟨k,hk,rfl⟩:=List.mem_map.mp hp;have hk:=List.mem_range.mp hk;obtain⟨w1,w2,w3⟩:=h.dr (x:=((j:Nat):Int)) (by omega) (by omega)
   rw[hdr] at w3;refine(w3 _ ?_).2;generalize qv.getD j []=r at *;show r.getD k 0∈r;rw[List.getD_eq_getElem?_getD,List.getElem?_eq_getElem hk];exact List.getElem_mem hk
  show((prs (qv.getD j []) (as.getD j 0) (gs.getD j 0)).foldl stq (cmb qv as gs st j)).getD i 0=_;rw[atn _ _ hb (by rw[aan];exact hl) i hi,al1 h ha hg hgl hl hi j (by omega),<-u,List.range_succ,List.map_append,List.sum_append]
  simp;omega
theorem ap6{n:Nat}{d t:Int}(hd2:d < (n:Int)){st:List Int}(h1:st.length=n)(a b c e:Sl) :
  zq [a,b,.own none (st.map D.int),c,e,.val (.int d),.val (.int t)]=some (.nx,[a,b,.own none ((stq st (d,t)).map D.int),c,e,.val (.int d),.val (.int t)]):=by
 by_cases q:0<=d
 ·have e0:stq st (d,t)=st.set d.toNat (st.getD d.toNat 0+t):=if_pos q;rw[e0];have ix:ixN (st.map D.int).length d=some d.toNat:=by rw[List.length_map];exact ab5 q (by omega)
  have hlt:d.toNat < st.length:=by omega
  have hg:(st.map D.int)[d.toNat]? = some (.int (st.getD d.toNat 0)):=by rw[List.getElem?_map,List.getD_eq_getElem?_getD,List.getElem?_eq_getElem hlt];rfl
  have m3:(st.set d.toNat (st.getD d.toNat 0+t)).map D.int=(st.map D.int).set d.toNat (.int (st.getD d.toNat 0+t)):=by rw[List.map_set]
  rw[m3];generalize st.getD d.toNat 0=v at *;generalize st.map D.int=sm at *;simp[zq,q,ix,hg]
 ·have e0:stq st (d,t)=st:=if_neg q;rw[e0];simp[zq,q]
theorem al0{n:Nat}(a b c e:Sl):∀(ps:List (Int×Int)) (st:List Int) (o1 o2:Sl),(∀p∈ps,p.1 < (n:Int))->st.length=n ->
  ∃q1 q2,forD (bTup 2 (gq (bh 5) (gq (bh 6) bNil))) zq (ps.map fun p=>.tup [.int p.1,.int p.2]) [a,b,.own none (st.map D.int),c,e,o1,o2]=some (.nx,[a,b,.own none ((ps.foldl stq st).map D.int),c,e,q1,q2])
 | [],st,o1,o2,_,_=>⟨o1,o2,rfl⟩
 | (d,t)::ps,st,o1,o2,hp,h1=>by
  have e0:=ap6 (n:=n) (d:=d) (t:=t) (hp (d,t) (List.mem_cons_self ..)) h1 a b c e;have l1:(stq st (d,t)).length=n:=by
   have:=agu [(d,t)] st;rw[<-h1];exact this
  obtain⟨q1,q2,e2⟩:=al0 (n:=n) a b c e ps (stq st (d,t)) (.val (.int d)) (.val (.int t)) (fun p hp'=>hp p (List.mem_cons_of_mem _ hp')) l1
  refine⟨q1,q2,?_⟩;rw[List.foldl_cons,List.map_cons,qy];generalize stq st (d,t)=Z at *;generalize (ps.foldl stq Z).map D.int=F1 at *;generalize Z.map D.int=z1 at *;generalize st.map D.int=sm at *;simp[e0,e2]
theorem am9{qv:LL9}(h:Hs qv){as gs:List Int}:aa2 [.val (hD qv),.val (.tup (uAll qv as gs qv.length))]=some (.ok (.fr ((cmb qv as gs (List.replicate qv.length 0) qv.length).map D.int)),[.val (hD qv),.val (.tup (uAll qv as gs qv.length))]):=by
 have hm:=h.most;have hul:∀j,(uAll qv as gs j).length=j:=fun j=>by simp[uAll]
 have loop:=aaj (b:=bTup 2 (gq (bh 3) (gq (bh 4) bNil))) (g:=adi) (fun j ρ=>∃o3 o4 o5 o6,ρ=[.val (hD qv),.val (.tup (uAll qv as gs qv.length)),.own none ((cmb qv as gs (List.replicate qv.length 0) j).map D.int),o3,o4,o5,o6])
  (l:=uz (hDs qv) (uAll qv as gs qv.length)) (ρ:=[.val (hD qv),.val (.tup (uAll qv as gs qv.length)),.own none ((List.replicate qv.length (0:Int)).map D.int),.emp,.emp,.emp,.emp]) 0 ⟨.emp,.emp,.emp,.emp,rfl⟩ ?_
 ·obtain⟨ρ',e,o3,o4,o5,o6,rfl⟩:=loop;have hl:=kh qv;have hz:(uz (hDs qv) (uAll qv as gs qv.length)).length=qv.length:=by unfold uz;rw[List.length_zipWith,hl,hul];omega
  rw[hz,Nat.zero_add] at e;have hr:=af6 qv.length;have hb1:qv.length < 9223372036854775808:=by omega
  have hb3:qv.length<=capS:=bu (by omega)
  have hle:qv.length<=(uAll qv as gs qv.length).length:=by rw[hul];exact Nat.le_refl _
  generalize (cmb qv as gs (List.replicate qv.length 0) qv.length).map D.int=cc at *;generalize uAll qv as gs qv.length=uu at *;simp only[hD] at e ⊢
  simp[aa2,ai5,hl,hb1,hb3,hr,hle,-List.map_replicate,e]
 ·rintro j d ρ hd ⟨o3,o4,o5,o6,rfl⟩
  rw[Nat.zero_add];have hj:j < qv.length:=by
   rcases Nat.lt_or_ge j qv.length with q | q
   ·exact q
   ·rw[List.getElem?_eq_none (by unfold uz;rw[List.length_zipWith,kh];omega)] at hd
    cases hd
  have hrj:qv[j]? = some (qv.getD j []):=by rw[List.getD_eq_getElem?_getD,List.getElem?_eq_getElem hj];rfl
  have ed:d=.tup [.tup ((qv.getD j []).map D.int),.tup ((ut (qv.getD j []).length (as.getD j 0) (gs.getD j 0)).map D.int)]:=by
   unfold uz at hd;rw[List.getElem?_zipWith] at hd;have e1:(hDs qv)[j]? = some (.tup ((qv.getD j []).map D.int)):=by unfold hDs;rw[List.getElem?_map,hrj];rfl
   have e2:(uAll qv as gs qv.length)[j]? = some (.tup ((ut (qv.getD j []).length (as.getD j 0) (gs.getD j 0)).map D.int)):=by unfold uAll;rw[List.getElem?_map,List.getElem?_range hj];rfl
   rw[e1,e2] at hd;exact(Option.some.inj hd).symm
  subst ed;have hb:∀p∈prs (qv.getD j []) (as.getD j 0) (gs.getD j 0),p.1 < (qv.length:Int):=fun p hp=>by
   obtain⟨k,hk,rfl⟩:=List.mem_map.mp hp;have hk:=List.mem_range.mp hk;obtain⟨_,_,w3⟩:=h.room _ (List.mem_of_getElem? hrj);refine(w3 _ ?_).2;generalize qv.getD j []=r at *;show r.getD k 0∈r;rw[List.getD_eq_getElem?_getD,List.getElem?_eq_getElem hk];exact List.getElem_mem hk
  obtain⟨q5,q6,e⟩:=al0 (n:=qv.length) (.val (hD qv)) (.val (.tup (uAll qv as gs qv.length))) (.val (.tup ((qv.getD j []).map D.int))) (.val (.tup ((ut (qv.getD j []).length (as.getD j 0) (gs.getD j 0)).map D.int))) (prs (qv.getD j []) (as.getD j 0) (gs.getD j 0)) (cmb qv as gs (List.replicate qv.length 0) j) o5 o6 hb (by rw[aan,List.length_replicate])
  rw[<-ajt] at e;refine⟨[.val (hD qv),.val (.tup (uAll qv as gs qv.length)),.own none ((cmb qv as gs (List.replicate qv.length 0) j).map D.int),.val (.tup ((qv.getD j []).map D.int)),.val (.tup ((ut (qv.getD j []).length (as.getD j 0) (gs.getD j 0)).map D.int)),o5,o6],[.val (hD qv),.val (.tup (uAll qv as gs qv.length)),.own none ((cmb qv as gs (List.replicate qv.length 0) (j+1)).map D.int),.val (.tup ((qv.getD j []).map D.int)),.val (.tup ((ut (qv.getD j []).length (as.getD j 0) (gs.getD j 0)).map D.int)),q5,q6],rfl,.inl ?_,_,_,_,_,rfl⟩;have hle:((qv.getD j []).map D.int).length<=((ut (qv.getD j []).length (as.getD j 0) (gs.getD j 0)).map D.int).length:=by rw[List.length_map,List.length_map,acd];exact Nat.le_refl _
  have ecm:cmb qv as gs (List.replicate qv.length 0) (j+1)=(prs (qv.getD j []) (as.getD j 0) (gs.getD j 0)).foldl stq (cmb qv as gs (List.replicate qv.length 0) j):=rfl;rw[ecm];generalize ((prs (qv.getD j []) (as.getD j 0) (gs.getD j 0)).foldl stq (cmb qv as gs (List.replicate qv.length 0) j)).map D.int=c2 at *;generalize (cmb qv as gs (List.replicate qv.length 0) j).map D.int=c1 at *;generalize uAll qv as gs qv.length=uu at *;generalize (ut (qv.getD j []).length (as.getD j 0) (gs.getD j 0)).map D.int=ul at *;generalize (qv.getD j []).map D.int=rl at *;generalize hD qv=hh at *;simp[adi,hle,e]
def wd(qv:LL9)(k:Int):Int:=((dr qv k).length:Int)
def ahf(qv:LL9)(as:List Int)(k:Int):Int:=(dr qv k).getD ((ar as k - 1) % wd qv k).toNat 0
theorem axh{r:List Int}{a:Int}(h0:0<=a)(h1:a < (r.length:Int)):atI (r.map D.int) (a - 1)=some (.int (r.getD ((a - 1) % (r.length:Int)).toNat 0)):=by
 by_cases z:1<=a
 ·rw[Int.emod_eq_of_lt (by omega) (by omega)]
  exact vg (by omega) (by omega)
 ·have:a=0:=by omega
  subst this;have e:((0:Int) - 1) % (r.length:Int)=(r.length:Int) - 1:=by
   have:=Int.add_emod_right ((0:Int) - 1) (r.length:Int);rw[<-this,Int.emod_eq_of_lt (by omega) (by omega)]
   omega
  rw[e];have hn:((r.length:Int) - 1).toNat=r.length - 1:=by omega
  rw[hn];have hl:r.length - 1 < r.length:=by omega
  have h3:ixN (r.map D.int).length (0 - 1)=some (r.length - 1):=by
   unfold ixN;rw[List.length_map];have a1:¬(0<=(0:Int) - 1):=by omega
   have a2 : -(r.length:Int)<=(0:Int) - 1:=by omega
   simp[a2];omega
  unfold atI;rw[h3];simp[List.getElem?_eq_getElem hl]
def lasts(qv:LL9)(as:List Int):List Int:=(List.range qv.length).map fun(i:Nat)=>ahf qv as (i:Int)
theorem aiz(qv:LL9)(as:List Int):(lasts qv as).length=qv.length:=by unfold lasts;rw[List.length_map,List.length_range]
theorem am1(qv:LL9)(as:List Int)(j:Nat):((List.range (j+1)).map fun(i:Nat)=>ahf qv as (i:Int))=((List.range j).map fun(i:Nat)=>ahf qv as (i:Int))++[ahf qv as (j:Int)]:=by
 rw[List.range_succ,List.map_append];rfl
section
variable{qv:LL9}(h:Hs qv){as:List Int}(ha:Arr qv as)
include h ha
theorem ai0:wk [.val (hD qv),.val (.tup (as.map D.int))]=some (.ok (.v (.tup ((lasts qv as).map D.int))),[.val (hD qv),.val (.tup (as.map D.int))]):=by
 have hl:=ha.len;have hm:=h.most;have hle:(as.map D.int).length<=(hDs qv).length:=by rw[kh,List.length_map];omega
 have comp:=ni (b:=bTup 2 (gq (bh 0) (gq (bh 1) bNil))) (mc:=ret true) (me:=aa5) (fun j ys ρ=>∃(o1 o2:Sl),ρ=[o1,o2]/\ys=((List.range j).map fun(i:Nat)=>ahf qv as (i:Int)).map D.int)
  (l:=uz (as.map D.int) (hDs qv)) (ys:=[]) (ρ:=[.emp,.emp]) 0 ⟨.emp,.emp,rfl,rfl⟩ ?_
 ·obtain⟨ys,ρ',e6,o1,o2,rfl,rfl⟩:=comp;rw[ahw hle,List.length_map,Nat.zero_add,hl] at e6;have hc:((lasts qv as).map D.int).length<=capS:=by rw[List.length_map,aiz];exact bu (by omega)
  have hle2:as.length<=(hDs qv).length:=by simpa using hle
  change compD _ _ _ _ _ _=some (.ok ((lasts qv as).map D.int),_) at e6
  generalize (lasts qv as).map D.int=ld at *;simp only[hD];simp[wk,afc,hle2,e6,hc]
 ·rintro j d ys ρ hd ⟨o1,o2,rfl,rfl⟩
  obtain⟨d1,d2,g1,g2,rfl⟩:=aei hd;obtain⟨r,hr,rfl⟩:=ae9 g2;rw[List.getElem?_map] at g1;obtain⟨a,ea,rfl⟩:=Option.map_eq_some_iff.mp g1;obtain⟨b0,b1⟩:=ha.ok j a r ea hr;have er:dr qv (j:Int)=r:=by unfold dr;rw[List.getD_eq_getElem?_getD,Int.toNat_natCast,hr];rfl
  have e3:ar as (j:Int)=a:=by unfold ar;rw[List.getD_eq_getElem?_getD,Int.toNat_natCast,ea];rfl
  have e4:=axh b0 b1;have e5:ahf qv as ((0+j:Nat):Int)=r.getD ((a - 1) % (r.length:Int)).toNat 0:=by rw[Nat.zero_add];unfold ahf wd;rw[er,e3]
  refine⟨[.val (.int a),.val (.tup (r.map D.int))],_,true,by simp,rfl,.inr ⟨rfl,.int (r.getD ((a - 1) % (r.length:Int)).toNat 0),[.val (.int a),.val (.tup (r.map D.int))],by simp[aa5,e4],_,_,rfl,?_⟩⟩
  rw[am1,List.map_append,e5];rfl
end
theorem akc{qv:LL9}(h:Hs qv){vs:List Int}(hl:vs.length=qv.length)(h0:∀x∈vs,0<=x):qz [.val (hD qv),.val (.tup (vs.map D.int))]=some (.ok (.v (.bl true)),[.val (hD qv),.val (.tup (vs.map D.int))]):=by
 have hm:=h.most;have hl3:=kh qv;have e1:dh [.val (.tup (vs.map D.int)),.val (.int (qv.length:Int)),.val (.int (qv.length:Int))]=some (.ok (.v (.bl true)),[.val (.tup (vs.map D.int)),.val (.int (qv.length:Int)),.val (.int (qv.length:Int))]):=by
  have:(vs.length:Int)=qv.length:=by omega
  simp[dh,ou,isTy,this]
 have e2:compD (bh 0) (ret true) ym (vs.map D.int) [] [.emp]=some (.ok (vs.map fun _=>.bl true),abr .emp (vs.map D.int)::[]):=by
  rw[aa7 (f:=fun _=>.bl true)]
  ·simp
  ·intro d hd;obtain⟨w,hwm,rfl⟩:=List.mem_map.mp hd;have:=h0 w hwm;simp[ym,ak0,this]
 have e3:rz (vs.map fun _=>D.bl true)=some (vs.map fun _=>true):=by
  have:=aac (vs.map fun _=>true)
  rwa[List.map_map] at this
 have e4:(vs.map fun _=>true).all id=true:=by
  rw[List.all_map,List.all_eq_true];intro x _;rfl
 have hc:vs.length<=capS:=bu (by omega)
 generalize hB:(vs.map fun _=>true)=bs at *
 have hc2:(vs.map fun _=>D.bl true).length<=capS:=by rw[List.length_map];exact hc
 generalize (vs.map fun _=>D.bl true)=BB at *
 generalize vs.map D.int=ww at *;simp only[hD] at *;simp[qz,acx,hl3,e1,e2,e3,e4,hc2]
def aek(qv:LL9)(as vs:List Int)(j:Nat):List Int:=(List.range j).map fun i=>(as.getD i 0+vs.getD i 0) % ((qv.getD i []).length:Int)
theorem ah1{qv:LL9}(h:Hs qv){as vs:List Int}(hal:as.length=qv.length)(hl:vs.length=qv.length):wj [.val (hD qv),.val (.tup (as.map D.int)),.val (.tup (vs.map D.int))]=some (.ok (.v (.tup ((aek qv as vs qv.length).map D.int))),[.val (hD qv),.val (.tup (as.map D.int)),.val (.tup (vs.map D.int))]):=by
 have hm:=h.most;have hdl:=kh qv;have comp:=ni (b:=bTup 3 (gq (bh 0) (gq (bh 1) (gq (bh 2) bNil)))) (mc:=ret true) (me:=aa4) (fun j ys ρ=>∃(o1 o2 o3:Sl),ρ=[o1,o2,o3]/\ys=(aek qv as vs j).map D.int)
  (l:=ab1 (as.map D.int) (vs.map D.int) (hDs qv)) (ys:=[]) (ρ:=[.emp,.emp,.emp]) 0 ⟨.emp,.emp,.emp,rfl,rfl⟩ ?_
 ·obtain⟨ys,ρ',e,o1,o2,o3,rfl,rfl⟩:=comp;have hle:(as.map D.int).length<=(vs.map D.int).length/\(as.map D.int).length<=(hDs qv).length:=by rw[List.length_map,List.length_map,hdl];omega
  rw[aeh hle,List.length_map,hal,Nat.zero_add] at e;have hc:((aek qv as vs qv.length).map D.int).length<=capS:=by rw[List.length_map];unfold aek;rw[List.length_map,List.length_range];exact bu (by omega)
  generalize (aek qv as vs qv.length).map D.int=tt at *;generalize as.map D.int=la at *;generalize vs.map D.int=lv at *;simp only[hD] at *;simp[wj,afa,hle.1,hle.2,e,hc]
 ·rintro j d ys ρ hd ⟨o1,o2,o3,rfl,rfl⟩
  obtain⟨d1,d2,d3,g1,g2,g3,rfl⟩:=acb hd;obtain⟨r,hr,rfl⟩:=ae9 g3;rw[List.getElem?_map] at g1 g2;obtain⟨a,ea,rfl⟩:=Option.map_eq_some_iff.mp g1;obtain⟨b,eb,rfl⟩:=Option.map_eq_some_iff.mp g2;obtain⟨k1,k2,_⟩:=h.room r (List.mem_of_getElem? hr);rw[Nat.zero_add];have x1:qv.getD j []=r:=by simp[hr]
  have x2:as.getD j 0=a:=by simp[ea]
  have x3:vs.getD j 0=b:=by simp[eb]
  have es:aek qv as vs (j+1)=aek qv as vs j++[(a+b) % (r.length:Int)]:=by
   unfold aek;rw[List.range_succ,List.map_append,<-x1,<-x2,<-x3];rfl
  have f1:fMod (a+b) (r.length:Int)=some ((a+b) % (r.length:Int)):=by
   have hn':(0:Int) < (r.length:Int):=by omega
   unfold fMod;rw[if_pos hn']
  refine⟨[.val (.int a),.val (.int b),.val (.tup (r.map D.int))],_,true,rfl,rfl,.inr ⟨rfl,.int ((a+b) % (r.length:Int)),[.val (.int a),.val (.int b),.val (.tup (r.map D.int))],by simp[aa4,f1],_,_,_,rfl,?_⟩⟩
  rw[es,List.map_append];rfl
theorem uq{vs:List Int}{n:Nat}(x0:0<=x)(x1:x < (n:Int)):(rowW vs n).count x=(vs.getD x.toNat 0).toNat:=by
 have:=adb vs n x.toNat;rw[if_pos (by omega),show((x.toNat:Nat):Int)=x by omega] at this
 exact this
section
variable{qv:LL9}(h:Hs qv){as:List Int}(ha:Arr qv as){vs:List Int}(hl:vs.length=qv.length)(hv:∀x∈vs,0<=x)
include h ha hl hv
omit h ha in
theorem ajv{i:Nat}(hi:i < qv.length):0<=vs.getD i 0:=by
 have hk:i < vs.length:=by omega
 rw[List.getD_eq_getElem?_getD,List.getElem?_eq_getElem hk];exact hv _ (List.getElem_mem hk)
theorem auq:aek qv as vs qv.length=go qv as (rowW vs qv.length):=by
 have hin:=yg vs qv.length;have hg:=abx h _ ha hin;apply List.ext_getElem?;intro i
 by_cases hi:i < qv.length
 ·have hlt:i < (go qv as (rowW vs qv.length)).length:=by rw[hg.len];exact hi
  have e:=ahv h (y:=(i:Int)) (by omega) (by omega) (rowW vs qv.length) ha hin
  rw[uq (by omega) (by omega),Int.toNat_natCast,show(((vs.getD i 0).toNat:Nat):Int)=vs.getD i 0 by have:=ajv hl hv hi;omega] at e
  unfold ar dr at e;rw[Int.toNat_natCast,List.getD_eq_getElem?_getD,List.getElem?_eq_getElem hlt] at e;rw[List.getElem?_eq_getElem hlt];unfold aek;rw[List.getElem?_map,List.getElem?_range hi];exact congrArg some e.symm
 ·rw[List.getElem?_eq_none (by unfold aek;rw[List.length_map,List.length_range];omega),List.getElem?_eq_none (by rw[hg.len];omega)]
theorem ap7{i:Nat}(hi:i < qv.length):(cmb qv as vs (List.replicate qv.length 0) qv.length).getD i 0=(arv qv (i:Int) as (rowW vs qv.length):Int):=by
 rw[al1 h ha hv hl (by rw[List.length_replicate]) hi _ (Nat.le_refl _),aav h (i:Int) _ ha (yg vs qv.length)]
 have e0:(List.replicate qv.length (0:Int)).getD i 0=0:=by rw[List.getD_eq_getElem?_getD,List.getElem?_replicate,if_pos hi];rfl
 rw[e0,Int.zero_add]
 congr 1
 unfold upto;rw[List.map_map]
 congr 1
 apply List.map_congr_left;intro y hy;have hy:=List.mem_range.mp hy;show _=us qv as ((y:Nat):Int) (i:Int) ((rowW vs qv.length).count ((y:Nat):Int));rw[uq (by omega) (by omega),Int.toNat_natCast]
theorem alk{x:Int}(x0:0<=x)(x1:x < (qv.length:Int)):(lasts qv (go qv as (rowW vs qv.length))).getD x.toNat 0=ldo qv as x ((rowW vs qv.length).count x):=by
 have hin:=yg vs qv.length;have hk:x.toNat < qv.length:=by omega
 unfold lasts;rw[List.getD_eq_getElem?_getD,List.getElem?_map,List.getElem?_range hk];show ahf qv (go qv as (rowW vs qv.length)) ((x.toNat:Nat):Int)=_;rw[show((x.toNat:Nat):Int)=x by omega]
 unfold ahf ldo wd;rw[ahv h x0 x1 _ ha hin]
 congr 2
 rw[show ar as x+(((rowW vs qv.length).count x:Int) - 1)=ar as x+((rowW vs qv.length).count x:Int) - 1 by omega]
 exact Int.emod_sub_emod _ _ _
end
theorem akh{qv:LL9}(h:Hs qv){as:List Int}(ha:Arr qv as){ws vs:List Int}(hl:vs.length=qv.length)(hv:∀x∈vs,0<=x){S:List Int}(lS:Lg qv as (wf ws) S)(sS:Stb qv as (wf ws) S)
  {R:List Int} (r1:∀Q:Int->Prop,(∀x,Q x->x∈(upto qv.length).filter (fun x=>decide (0 < vs.getD x.toNat 0))/\Q ((lasts qv (go qv as (rowW vs qv.length))).getD x.toNat 0))->∀x,Q x->x∈R)
  (r2:∀x∈R,x∈(upto qv.length).filter (fun x=>decide (0 < vs.getD x.toNat 0))/\(lasts qv (go qv as (rowW vs qv.length))).getD x.toNat 0∈R) :
  (Stb qv as (wf ws) (rowW vs qv.length)/\R=[])↔vs=tal qv.length S:=by
 have hin:=yg vs qv.length;constructor
 ·rintro⟨st,rfl⟩
  obtain⟨le,more⟩:=agg h ha lS sS hin st;have same:∀x,S.count x=(rowW vs qv.length).count x:=fun x=>Classical.byContradiction fun q=>by
   have hx:S.count x < (rowW vs qv.length).count x:=by have:=le x;omega
   have:=r1 (fun x=>S.count x < (rowW vs qv.length).count x) (fun y hy=>by
    have hyr:0<=y/\y < (qv.length:Int):=Classical.byContradiction fun q=>by
     rw[InR.count hin q] at hy;omega
    refine⟨List.mem_filter.mpr ⟨aae hyr.1 hyr.2,decide_eq_true ?_⟩,?_⟩
    ·rw[uq hyr.1 hyr.2] at hy;omega
    ·rw[alk h ha hl hv hyr.1 hyr.2];exact(more y hy).2) x hx
   cases this
  apply List.ext_getElem?;intro i
  by_cases hi:i < qv.length
  ·have e:=same (i:Int);rw[uq (by omega) (by omega),Int.toNat_natCast] at e
   have hk:i < vs.length:=by omega
   have h0:=ajv hl hv hi;rw[ael S hi,e];rw[List.getD_eq_getElem?_getD,List.getElem?_eq_getElem hk] at h0 ⊢
   have h0:0<=vs[i]:=h0;have e9:vs[i]=((vs[i].toNat:Nat):Int):=by omega
   exact congrArg some e9
  ·rw[List.getElem?_eq_none (by omega),List.getElem?_eq_none (by rw[ye];omega)]
 ·intro e;have same:∀x,(rowW vs qv.length).count x=S.count x:=fun x=>by
   by_cases q:0<=x/\x < (qv.length:Int)
   ·rw[uq q.1 q.2,e,List.getD_eq_getElem?_getD,ael S (by omega)]
    show((S.count ((x.toNat:Nat):Int):Nat):Int).toNat=_;rw[show((x.toNat:Nat):Int)=x by omega]
    omega
   ·rw[InR.count hin q,lS.inR.count q]
  have st:Stb qv as (wf ws) (rowW vs qv.length):=fun x x0 x1=>by
   rw[same x,sS x x0 x1,aav h x S ha lS.inR,aav h x _ ha hin]
   congr 1
   exact u6 _ _ _ fun y _=>by rw[same y]
  refine⟨st,?_⟩;cases R with
  | nil=>rfl
  | cons y R =>
   exfalso;refine amj h ha lS sS (fun x=>x∈y::R) (fun x hx =>?_) y (List.mem_cons_self ..)
   obtain⟨a,b⟩:=r2 x hx;obtain⟨a1,a2⟩:=List.mem_filter.mp a;have hxr:=km a1;rw[alk h ha hl hv hxr.1 hxr.2,same x] at b;refine⟨hxr.1,hxr.2,?_,b⟩;have:=of_decide_eq_true a2;rw[<-same x,uq hxr.1 hxr.2];omega
def eqB(ws cs vs:List Int)(j:Nat):List Bool:=(List.range j).map fun i=>decide (ws.getD i 0+cs.getD i 0=vs.getD i 0)
theorem aw4{ws cs vs:List Int}{n:Nat}(h1:ws.length=n)(h2:cs.length=n)(h3:vs.length=n):∃ρ,compD (bTup 3 (gq (bh 0) (gq (bh 1) (gq (bh 2) bNil)))) (ret true) abl (ab1 (ws.map D.int) (cs.map D.int) (vs.map D.int)) [] [.emp,.emp,.emp]=some (.ok ((eqB ws cs vs n).map D.bl),ρ):=by
 have comp:=ni (b:=bTup 3 (gq (bh 0) (gq (bh 1) (gq (bh 2) bNil)))) (mc:=ret true) (me:=abl) (fun j ys ρ=>∃(o1 o2 o3:Sl),ρ=[o1,o2,o3]/\ys=(eqB ws cs vs j).map D.bl)
  (l:=ab1 (ws.map D.int) (cs.map D.int) (vs.map D.int)) (ys:=[]) (ρ:=[.emp,.emp,.emp]) 0 ⟨.emp,.emp,.emp,rfl,rfl⟩ ?_
 ·obtain⟨ys,ρ',e,o1,o2,o3,rfl,rfl⟩:=comp;have hle:(ws.map D.int).length<=(cs.map D.int).length/\(ws.map D.int).length<=(vs.map D.int).length:=by rw[List.length_map,List.length_map,List.length_map];omega
  rw[aeh hle,List.length_map,h1,Nat.zero_add] at e;exact⟨_,e⟩
 ·rintro j d ys ρ hd ⟨o1,o2,o3,rfl,rfl⟩
  obtain⟨d1,d2,d3,g1,g2,g3,rfl⟩:=acb hd;rw[List.getElem?_map] at g1 g2 g3;obtain⟨a,ea,rfl⟩:=Option.map_eq_some_iff.mp g1;obtain⟨b,eb,rfl⟩:=Option.map_eq_some_iff.mp g2;obtain⟨c,ec,rfl⟩:=Option.map_eq_some_iff.mp g3;rw[Nat.zero_add];have x1:ws.getD j 0=a:=by simp[ea]
  have x2:cs.getD j 0=b:=by simp[eb]
  have x3:vs.getD j 0=c:=by simp[ec]
  have es:eqB ws cs vs (j+1)=eqB ws cs vs j++[decide (a+b=c)]:=by
   unfold eqB;rw[List.range_succ,List.map_append,<-x1,<-x2,<-x3];rfl
  refine⟨[.val (.int a),.val (.int b),.val (.int c)],_,true,rfl,rfl,.inr ⟨rfl,.bl (decide (a+b=c)),[.val (.int a),.val (.int b),.val (.int c)],by simp[abl];rfl,_,_,_,rfl,?_⟩⟩
  rw[es,List.map_append];rfl
def posL(vs:List Int)(n:Nat):List Int:=(upto n).filter fun x=>decide (0 < vs.getD x.toNat 0)
theorem art{vs:List Int}{n:Nat}(h3:vs.length=n):∃ρ,compD (bTup 2 (gq (bh 0) (gq (bh 1) bNil))) aab abk (afn (vs.map D.int)) [] [.emp,.emp]=some (.ok ((posL vs n).map D.int),ρ):=by
 have comp:=ni (b:=bTup 2 (gq (bh 0) (gq (bh 1) bNil))) (mc:=aab) (me:=abk) (fun j ys ρ=>∃(o1 o2:Sl),ρ=[o1,o2]/\ys=(posL vs j).map D.int)
  (l:=afn (vs.map D.int)) (ys:=[]) (ρ:=[.emp,.emp]) 0 ⟨.emp,.emp,rfl,rfl⟩ ?_
 ·obtain⟨ys,ρ',e,o1,o2,rfl,rfl⟩:=comp;rw[ac3,List.length_map,h3,Nat.zero_add] at e;exact⟨_,e⟩
 ·rintro j d ys ρ hd ⟨o1,o2,rfl,rfl⟩
  obtain⟨d0,g,rfl⟩:=afm hd;rw[List.getElem?_map] at g;obtain⟨a,ea,rfl⟩:=Option.map_eq_some_iff.mp g;rw[Nat.zero_add];have x1:vs.getD j 0=a:=by simp[ea]
  have es:posL vs (j+1)=posL vs j++if 0 < a then [(j:Int)] else []:=by
   unfold posL upto;rw[List.range_succ,List.map_append,List.filter_append]
   congr 1
   show List.filter _ [((j:Nat):Int)]=_;rw[List.filter_cons,Int.toNat_natCast,x1]
   by_cases q:0 < a <;> simp[q]
  by_cases q:0 < a
  ·refine⟨[.val (.int (j:Int)),.val (.int a)],_,true,rfl,by simp[aab,q];rfl,.inr ⟨rfl,.int (j:Int),[.val (.int (j:Int)),.val (.int a)],by simp[abk],_,_,rfl,?_⟩⟩
   rw[es,if_pos q,List.map_append];rfl
  ·refine⟨[.val (.int (j:Int)),.val (.int a)],[.val (.int (j:Int)),.val (.int a)],false,rfl,by simp[aab,q],.inl ⟨rfl,_,_,rfl,?_⟩⟩
   rw[es,if_neg q,List.append_nil]
theorem aw5{qv:LL9}(h:Hs qv){as:List Int}(ha:Arr qv as){ws vs:List Int}(hwl:ws.length=qv.length)(hw0:∀w∈ws,0<=w)(hl:vs.length=qv.length)(hv:∀x∈vs,0<=x):(eqB ws (cmb qv as vs (List.replicate qv.length 0) qv.length) vs qv.length).all id=true↔Stb qv as (wf ws) (rowW vs qv.length):=by
 unfold eqB;rw[List.all_map,List.all_eq_true];have key:∀i:Nat,i < qv.length->(ws.getD i 0+(cmb qv as vs (List.replicate qv.length 0) qv.length).getD i 0=vs.getD i 0↔(rowW vs qv.length).count (i:Int)=wf ws (i:Int)+arv qv (i:Int) as (rowW vs qv.length)):=fun i hi=>by
  rw[ap7 h ha hl hv hi,uq (by omega) (by omega),Int.toNat_natCast]
  unfold wf;rw[Int.toNat_natCast];have a:=ajv hwl hw0 hi;have b:=ajv hl hv hi;omega
 constructor
 ·intro q x x0 x1;have:=q x.toNat (List.mem_range.mpr (by omega))
  have:=(key x.toNat (by omega)).mp (of_decide_eq_true this)
  rw[show((x.toNat:Nat):Int)=x by omega] at this
  exact this
 ·intro st i hi;have hi:=List.mem_range.mp hi;exact decide_eq_true ((key i hi).mpr (st (i:Int) (by omega) (by omega)))
theorem am3{qv:LL9}(h:Hs qv){as:List Int}(ha:Arr qv as){ws vs:List Int}(hop:yr qv=[])(hW:Wk qv.length ws)(hl:vs.length=qv.length)(hv:∀x∈vs,0<=x){S:List Int}(lS:Lg qv as (wf ws) S)(sS:Stb qv as (wf ws) S) :
  wu [.val (hD qv),.val (.tup (as.map D.int)),.val (.tup (ws.map D.int)),.val (.tup (vs.map D.int))]=some (.ok (.v (.bl (decide (vs=tal qv.length S)))),[.val (hD qv),.val (.tup (as.map D.int)),.val (.tup (ws.map D.int)),.val (.tup (vs.map D.int))]):=by
 have hm:=h.most;have s0:=aly h ha hW;have q:=anu h;rw[hop] at q;have e3:gEq true (.tup []) (.tup [])=some (.v (.bl false)):=aef true [] [];have s1:gw [.val (hD qv)]=some (.ok (.v .non),[.val (hD qv)]):=by simp[gw,ud,q,e3]
 have s2:=akc h hl hv;have s3:=aej h ha.len hl;have s4:=am9 (as:=as) (gs:=vs) h;obtain⟨ρ1,s5⟩:=aw4 (ws:=ws) (cs:=cmb qv as vs (List.replicate qv.length 0) qv.length) (vs:=vs) hW.len (by rw[aan,List.length_replicate]) hl
 have s6:=ah1 h ha.len hl;rw[auq h ha hl hv] at s6;have hg:=abx h _ ha (yg vs qv.length);have s7:=ai0 h hg;obtain⟨ρ2,s8⟩:=art (n:=qv.length) hl;obtain⟨R,s9,r1,r2⟩:=aph (L:=lasts qv (go qv as (rowW vs qv.length))) (S0:=posL vs qv.length) (fun x hx=>by
  rw[aiz];exact km (List.mem_filter.mp hx).1) (Nat.le_trans (List.length_filter_le _ _) (by unfold upto;rw[List.length_map,List.length_range];omega))
 have iff:=akh h ha hl hv lS sS r1 r2;have al:=aw5 h ha hW.len (fun w hw'=>(hW.ok w hw').1) hl hv
 have s10:rz ((eqB ws (cmb qv as vs (List.replicate qv.length 0) qv.length) vs qv.length).map D.bl)=some (eqB ws (cmb qv as vs (List.replicate qv.length 0) qv.length) vs qv.length):=aac _;have s11:gEq false (.lst (R.map D.int)) (.lst [])=some (.v (.bl (decide (R=[])))):=by
  have h1:okD 30 (.lst (R.map D.int))=true:=aio 29 R;have h2:okD 30 (.lst [])=true:=rfl;have h3:eqD (.lst (R.map D.int)) (.lst [])=decide (R=[]):=by
   cases R with
   | nil=>rfl
   | cons y R=>rfl
  unfold gEq;rw[h1,h2,h3];simp
 have c1:((eqB ws (cmb qv as vs (List.replicate qv.length 0) qv.length) vs qv.length).map D.bl).length<=capS:=by rw[List.length_map];unfold eqB;rw[List.length_map,List.length_range];exact bu (by omega)
 have c2:((posL vs qv.length).map D.int).length<=capS:=by rw[List.length_map];exact bu (Nat.le_trans (List.length_filter_le _ _) (by unfold upto;rw[List.length_map,List.length_range];omega))
 have l1:(ws.map D.int).length<=((cmb qv as vs (List.replicate qv.length 0) qv.length).map D.int).length:=by rw[List.length_map,List.length_map,aan,List.length_replicate,hW.len];exact Nat.le_refl _
 have l2:(ws.map D.int).length<=(vs.map D.int).length:=by rw[List.length_map,List.length_map,hW.len,hl];exact Nat.le_refl _
 generalize uAll qv as vs qv.length=uu at *;generalize (cmb qv as vs (List.replicate qv.length 0) qv.length).map D.int=cm at *;generalize (posL vs qv.length).map D.int=pp at *;generalize (lasts qv (go qv as (rowW vs qv.length))).map D.int=ll at *;generalize (go qv as (rowW vs qv.length)).map D.int=gg at *;generalize (eqB ws (cmb qv as vs (List.replicate qv.length 0) qv.length) vs qv.length).map D.bl=EB at *;generalize eqB ws (cmb qv as vs (List.replicate qv.length 0) qv.length) vs qv.length=eb at *;generalize R.map D.int=RR at *;generalize as.map D.int=la at *;generalize ws.map D.int=lw at *;generalize hb1:eb.all id=b1 at *;have hb:decide (vs=tal qv.length S)=(b1&&decide (R=[])):=by
  rw[Bool.eq_iff_iff,Bool.and_eq_true,decide_eq_true_iff,decide_eq_true_iff,al];exact iff.symm
 rw[hb];generalize decide (R=[])=b2 at *;generalize vs.map D.int=lv at *;generalize hD qv=hh at *;cases b1 with
 | false=>simp[wu,afd,s0,s1,s2,s3,s4,l1,l2,s5,s10,c1,hb1]
 | true=>simp[wu,afd,s0,s1,s2,s3,s4,l1,l2,s5,s10,c1,hb1,s6,s7,s8,c2,s9,s11]
theorem ar9{n:Nat}{d t:Int}(hd2:d < (n:Int)){st:List Int}(h1:st.length=n)(a b c e f g:Sl) :
  p8 [a,b,c,e,.own none (st.map D.int),f,g,.val (.int d),.val (.int t)]=some (.nx,[a,b,c,e,.own none ((stq st (d,t)).map D.int),f,g,.val (.int d),.val (.int t)]):=by
 by_cases q:0<=d
 ·have e0:stq st (d,t)=st.set d.toNat (st.getD d.toNat 0+t):=if_pos q;rw[e0];have ix:ixN (st.map D.int).length d=some d.toNat:=by rw[List.length_map];exact ab5 q (by omega)
  have hlt:d.toNat < st.length:=by omega
  have ai:=vg (ns:=st) q (by omega)
  have hg:(st.map D.int)[d.toNat]? = some (.int (st.getD d.toNat 0)):=by rw[List.getElem?_map,List.getD_eq_getElem?_getD,List.getElem?_eq_getElem hlt];rfl
  have m3:(st.set d.toNat (st.getD d.toNat 0+t)).map D.int=(st.map D.int).set d.toNat (.int (st.getD d.toNat 0+t)):=by rw[List.map_set]
  rw[m3];generalize st.getD d.toNat 0=v at *;generalize st.map D.int=sm at *;simp[p8,q,ix,ai]
 ·have e0:stq st (d,t)=st:=if_neg q;rw[e0];simp[p8,q]
theorem ao0{n:Nat}(a b c e f g:Sl):∀(ps:List (Int×Int)) (st:List Int) (o1 o2:Sl),(∀p∈ps,p.1 < (n:Int))->st.length=n ->
  ∃q1 q2,forD (bTup 2 (gq (bh 7) (gq (bh 8) bNil))) p8 (ps.map fun p=>.tup [.int p.1,.int p.2]) [a,b,c,e,.own none (st.map D.int),f,g,o1,o2]=some (.nx,[a,b,c,e,.own none ((ps.foldl stq st).map D.int),f,g,q1,q2])
 | [],st,o1,o2,_,_=>⟨o1,o2,rfl⟩
 | (d,t)::ps,st,o1,o2,hp,h1=>by
  have e0:=ar9 (n:=n) (d:=d) (t:=t) (hp (d,t) (List.mem_cons_self ..)) h1 a b c e f g;have l1:(stq st (d,t)).length=n:=by
   have:=agu [(d,t)] st;rw[<-h1];exact this
  obtain⟨q1,q2,e2⟩:=ao0 (n:=n) a b c e f g ps (stq st (d,t)) (.val (.int d)) (.val (.int t)) (fun p hp'=>hp p (List.mem_cons_of_mem _ hp')) l1
  refine⟨q1,q2,?_⟩;rw[List.foldl_cons,List.map_cons,qy];generalize stq st (d,t)=Z at *;generalize (ps.foldl stq Z).map D.int=F1 at *;generalize Z.map D.int=z1 at *;generalize st.map D.int=sm at *;simp[e0,e2]
theorem axa{qv:LL9}(h:Hs qv){as:List Int}(ha:Arr qv as){ws vs:List Int}(hwl:ws.length=qv.length)(hw0:∀w∈ws,0<=w)(hl:vs.length=qv.length)(hv:∀x∈vs,0<=x):cmb qv as vs ws qv.length=vs↔Stb qv as (wf ws) (rowW vs qv.length):=by
 have key:∀i:Nat,i < qv.length->((cmb qv as vs ws qv.length).getD i 0=vs.getD i 0↔(rowW vs qv.length).count (i:Int)=wf ws (i:Int)+arv qv (i:Int) as (rowW vs qv.length)):=fun i hi=>by
  have e1:=al1 h ha hv hl hwl hi qv.length (Nat.le_refl _);have e2:=al1 h ha hv hl (st:=List.replicate qv.length 0) (by rw[List.length_replicate]) hi qv.length (Nat.le_refl _)
  have e0:(List.replicate qv.length (0:Int)).getD i 0=0:=by rw[List.getD_eq_getElem?_getD,List.getElem?_replicate,if_pos hi];rfl
  rw[ap7 h ha hl hv hi,e0] at e2;rw[uq (by omega) (by omega),Int.toNat_natCast]
  unfold wf;rw[Int.toNat_natCast];have a:=ajv hwl hw0 hi;have b:=ajv hl hv hi;omega
 constructor
 ·intro q x x0 x1;have:=(key x.toNat (by omega)).mp (by rw[q])
  rw[show((x.toNat:Nat):Int)=x by omega] at this
  exact this
 ·intro st;exact ac1 (by rw[aan];omega) fun i hi=>by
   rw[aan] at hi;exact(key i (by omega)).mpr (st (i:Int) (by omega) (by omega))
theorem aoz{qv:LL9}(h:Hs qv){as:List Int}(ha:Arr qv as){ws vs:List Int}(hwl:ws.length=qv.length)(hl:vs.length=qv.length):rn [.val (hD qv),.val (.tup (as.map D.int)),.val (.tup (ws.map D.int)),.val (.tup (vs.map D.int))]=some (.ok (.v (.bl (decide (cmb qv as vs ws qv.length=vs)))),[.val (hD qv),.val (.tup (as.map D.int)),.val (.tup (ws.map D.int)),.val (.tup (vs.map D.int))]):=by
 have hm:=h.most;have hul:∀j,(uAll qv as vs j).length=j:=fun j=>by simp[uAll]
 have loop:=aaj (b:=bTup 2 (gq (bh 5) (gq (bh 6) bNil))) (g:=yj) (fun j ρ=>∃o5 o6 o7 o8,ρ=[.val (hD qv),.val (.tup (as.map D.int)),.val (.tup (ws.map D.int)),.val (.tup (vs.map D.int)),.own none ((cmb qv as vs ws j).map D.int),o5,o6,o7,o8])
  (l:=uz (hDs qv) (uAll qv as vs qv.length)) (ρ:=[.val (hD qv),.val (.tup (as.map D.int)),.val (.tup (ws.map D.int)),.val (.tup (vs.map D.int)),.own none (ws.map D.int),.emp,.emp,.emp,.emp]) 0 ⟨.emp,.emp,.emp,.emp,rfl⟩ ?_
 ·obtain⟨ρ',e,o5,o6,o7,o8,rfl⟩:=loop;have hdl:=kh qv;have hz:(uz (hDs qv) (uAll qv as vs qv.length)).length=qv.length:=by unfold uz;rw[List.length_zipWith,hdl,hul];omega
  rw[hz,Nat.zero_add] at e;have s3:=aej h ha.len hl;have r1:gk [.val (hD qv),.val (.tup (as.map D.int))]=some (.ok (.v .non),[.val (hD qv),.val (.tup (as.map D.int))]):=by
   simp[gk,qx,ad3 h ha]
  have s4:uy [.val (hD qv),.val (.tup (as.map D.int)),.val (.tup (vs.map D.int))]=some (.ok (.v (.tup (uAll qv as vs qv.length))),[.val (hD qv),.val (.tup (as.map D.int)),.val (.tup (vs.map D.int))]):=by
   simp[uy,ad6,r1,s3]
  have q:=aef false (cmb qv as vs ws qv.length) vs;simp only[Bool.false_eq_true,if_false] at q;have c1:(ws.map D.int).length<=capS:=by rw[List.length_map];exact bu (by omega)
  have c2:((cmb qv as vs ws qv.length).map D.int).length<=capS:=by rw[List.length_map,aan];exact bu (by omega)
  have hle:qv.length<=(uAll qv as vs qv.length).length:=by rw[hul];exact Nat.le_refl _
  generalize decide (cmb qv as vs ws qv.length=vs)=bb at *;generalize (cmb qv as vs ws qv.length).map D.int=cc at *;generalize uAll qv as vs qv.length=uu at *;generalize as.map D.int=la at *;generalize ws.map D.int=lw at *;generalize vs.map D.int=lv at *;simp only[hD] at *;simp[rn,acz,c1,s4,hdl,hle,e,c2,q]
 ·rintro j d ρ hd ⟨o5,o6,o7,o8,rfl⟩
  rw[Nat.zero_add];have hj:j < qv.length:=by
   rcases Nat.lt_or_ge j qv.length with q | q
   ·exact q
   ·rw[List.getElem?_eq_none (by unfold uz;rw[List.length_zipWith,kh];omega)] at hd
    cases hd
  have hrj:qv[j]? = some (qv.getD j []):=by rw[List.getD_eq_getElem?_getD,List.getElem?_eq_getElem hj];rfl
  have ed:d=.tup [.tup ((qv.getD j []).map D.int),.tup ((ut (qv.getD j []).length (as.getD j 0) (vs.getD j 0)).map D.int)]:=by
   unfold uz at hd;rw[List.getElem?_zipWith] at hd;have e1:(hDs qv)[j]? = some (.tup ((qv.getD j []).map D.int)):=by unfold hDs;rw[List.getElem?_map,hrj];rfl
   have e2:(uAll qv as vs qv.length)[j]? = some (.tup ((ut (qv.getD j []).length (as.getD j 0) (vs.getD j 0)).map D.int)):=by unfold uAll;rw[List.getElem?_map,List.getElem?_range hj];rfl
   rw[e1,e2] at hd;exact(Option.some.inj hd).symm
  subst ed;have hb:∀p∈prs (qv.getD j []) (as.getD j 0) (vs.getD j 0),p.1 < (qv.length:Int):=fun p hp=>by
   obtain⟨k,hk,rfl⟩:=List.mem_map.mp hp;have hk:=List.mem_range.mp hk;obtain⟨_,_,w3⟩:=h.room _ (List.mem_of_getElem? hrj);refine(w3 _ ?_).2;generalize qv.getD j []=r at *;show r.getD k 0∈r;rw[List.getD_eq_getElem?_getD,List.getElem?_eq_getElem hk];exact List.getElem_mem hk
  obtain⟨q5,q6,e⟩:=ao0 (n:=qv.length) (.val (hD qv)) (.val (.tup (as.map D.int))) (.val (.tup (ws.map D.int))) (.val (.tup (vs.map D.int))) (.val (.tup ((qv.getD j []).map D.int))) (.val (.tup ((ut (qv.getD j []).length (as.getD j 0) (vs.getD j 0)).map D.int))) (prs (qv.getD j []) (as.getD j 0) (vs.getD j 0)) (cmb qv as vs ws j) o7 o8 hb (by rw[aan];exact hwl)
  rw[<-ajt] at e;refine⟨[.val (hD qv),.val (.tup (as.map D.int)),.val (.tup (ws.map D.int)),.val (.tup (vs.map D.int)),.own none ((cmb qv as vs ws j).map D.int),.val (.tup ((qv.getD j []).map D.int)),.val (.tup ((ut (qv.getD j []).length (as.getD j 0) (vs.getD j 0)).map D.int)),o7,o8],[.val (hD qv),.val (.tup (as.map D.int)),.val (.tup (ws.map D.int)),.val (.tup (vs.map D.int)),.own none ((cmb qv as vs ws (j+1)).map D.int),.val (.tup ((qv.getD j []).map D.int)),.val (.tup ((ut (qv.getD j []).length (as.getD j 0) (vs.getD j 0)).map D.int)),q5,q6],rfl,.inl ?_,_,_,_,_,rfl⟩;have hle:((qv.getD j []).map D.int).length<=((ut (qv.getD j []).length (as.getD j 0) (vs.getD j 0)).map D.int).length:=by rw[List.length_map,List.length_map,acd];exact Nat.le_refl _
  have ecm:cmb qv as vs ws (j+1)=(prs (qv.getD j []) (as.getD j 0) (vs.getD j 0)).foldl stq (cmb qv as vs ws j):=rfl;rw[ecm];generalize ((prs (qv.getD j []) (as.getD j 0) (vs.getD j 0)).foldl stq (cmb qv as vs ws j)).map D.int=c2 at *;generalize (cmb qv as vs ws j).map D.int=c1 at *;generalize (ut (qv.getD j []).length (as.getD j 0) (vs.getD j 0)).map D.int=ul at *;generalize (qv.getD j []).map D.int=rl at *;generalize as.map D.int=la at *;generalize ws.map D.int=lw at *;generalize vs.map D.int=lv at *;generalize hD qv=hh at *;simp[yj,hle,e]
theorem atd{ns:List D}(h:1<=ns.length):cutD ns none (some (-1))=ns.take (ns.length - 1):=by
 unfold cutD;have e1:HT.sIx ns.length ns.length (some (-1))=ns.length - 1:=by
  show(if (-1:Int) < 0 then ((-1:Int)+(ns.length:Int)).toNat else min (-1:Int).toNat ns.length)=_
  rw[if_pos (by decide)]
  omega
 have e0:HT.sIx ns.length 0 none=0:=rfl;rw[e1,e0,Nat.sub_zero,List.drop_zero]
theorem asu{ns:List Int}{x:Int}(hx:x∈ns):∃i:Nat,i < ns.length/\ai6 (.lst (ns.map D.int)) [.int x]=some (.int (i:Int)):=by
 have h1:=aio 30 ns;cases e:(ns.map D.int).findIdx? fun y=>eqD y (.int x) with
 | none =>
  rw[List.findIdx?_eq_none_iff] at e;have:=e (.int x) (List.mem_map.mpr ⟨_,hx,rfl⟩);rw[ako] at this;simp at this
 | some i =>
  have hi:=(List.findIdx?_eq_some_iff_getElem.mp e).1;rw[List.length_map] at hi;refine⟨i,hi,?_⟩;have ho:okD 30 (D.int x)=true:=rfl;simp only[ai6,ho,h1,Bool.and_self,if_true,e];rfl
theorem aog{qv:LL9}(h:Hs qv){as:List Int}(ha:Arr qv as){vs:List Int}(hl:vs.length=qv.length)(hv:∀x∈vs,0<=x){st:Int}(s0:0<=st)(s1:st < (qv.length:Int)) :
  ∃us:List Int,lq [.val (hD qv),.val (.tup (as.map D.int)),.val (.tup (vs.map D.int)),.val (.int st)]=some (.ok (.v (.tup (us.map D.int))),[.val (hD qv),.val (.tup (as.map D.int)),.val (.tup (vs.map D.int)),.val (.int st)])/\us.length=qv.length/\∀x∈us,0<=x:=by
 have hm:=h.most;have hal:=ha.len;have plen:∀p:List Int,p.Nodup->(∀x∈p,0<=x/\x < (qv.length:Int))->p.length<=qv.length:=fun p hp hx=>by
  have:=aey (b:=upto qv.length) hp fun x hx'=>aae (hx x hx').1 (hx x hx').2
  have e:(upto qv.length).length=qv.length:=by simp[upto]
  omega
 have loop:=vh (c:=j8) (g:=sr)
  (fun k ρ=>∃(p:List Int) (y:Int) (o5 o6:Sl),k=11 - p.length/\p.Nodup/\(∀x∈p,0<=x/\x < (qv.length:Int))/\y < (qv.length:Int)/\ρ=[.val (hD qv),.val (.tup (as.map D.int)),.val (.tup (vs.map D.int)),.val (.int st),.own none ((p++[y]).map D.int),o5,o6])
  (fun ρ=>∃(p:List Int) (y:Int) (o5 o6:Sl),p.length<=10/\ρ=[.val (hD qv),.val (.tup (as.map D.int)),.val (.tup (vs.map D.int)),.val (.int st),.own none ((p++[y]).map D.int),o5,o6])
  ?_ fuel 11 [.val (hD qv),.val (.tup (as.map D.int)),.val (.tup (vs.map D.int)),.val (.int st),.own none [.int st],.emp,.emp] (Nat.lt_trans (by decide) ac0) ⟨[],st,.emp,.emp,rfl,List.nodup_nil,by simp,s1,rfl⟩
 ·obtain⟨ρ',e,p,y,o5,o6,hp,rfl⟩:=loop;obtain⟨i,hi,ei⟩:=asu (ns:=p++[y]) (x:=y) (by simp)
  obtain⟨ring,er,erl⟩:=aje (p++[y]) (some ((i:Int)+1)) none;have ea:atI ((p++[y]).map D.int) (-1)=some (.int y):=by
   rw[List.map_append];exact al7 _ _
  have hgi:∀x:Int,gIn false (.int x) (.lst (ring.map D.int))=some (.v (.bl (decide (x∈ring)))):=fun x=>by rw[afi];simp
  have comp:=ni (b:=bTup 2 (gq (bh 0) (gq (bh 1) bNil))) (mc:=ret true) (me:=ug) (fun j ys ρ=>∃(us:List Int) (o1 o2:Sl),ρ=[o1,o2,.own (some 2) (ring.map D.int)]/\ys=us.map D.int/\us.length=j/\∀x∈us,0<=x)
   (l:=afn (vs.map D.int)) (ys:=[]) (ρ:=[.emp,.emp,.own (some 2) (ring.map D.int)]) 0 ⟨[],.emp,.emp,rfl,rfl,rfl,by simp⟩ ?_
  ·obtain⟨ys,ρ2,ec,us,o1,o2,rfl,rfl,ul,uo⟩:=comp;rw[ac3,List.length_map,hl,Nat.zero_add] at ul;refine⟨us,?_,ul,uo⟩;have c1:(us.map D.int).length<=capS:=by rw[List.length_map,ul];exact bu (by omega)
   generalize us.map D.int=uu at *;generalize ring.map D.int=rr at *;generalize (p++[y]).map D.int=pp at *;generalize as.map D.int=la at *;generalize vs.map D.int=lv at *;generalize hD qv=hh at *;simp[lq,aau,e,ea,ei,er,ec,c1]
  ·rintro j d ys ρ hd ⟨us,o1,o2,rfl,rfl,ul,uo⟩
   obtain⟨d0,g,rfl⟩:=afm hd;rw[List.getElem?_map] at g;obtain⟨a,ea2,rfl⟩:=Option.map_eq_some_iff.mp g;have a0:=hv a (List.mem_of_getElem? ea2);have hg:=hgi (j:Int);generalize ring.map D.int=rr at *;generalize decide ((j:Int)∈ring)=bb at *;refine⟨[.val (.int (j:Int)),.val (.int a),.own (some 2) rr],_,true,rfl,rfl,.inr ⟨rfl,.int (a+if bb then 1 else 0),[.val (.int (j:Int)),.val (.int a),.own (some 2) rr],by simp[ug,hg],us++[a+if bb then 1 else 0],_,_,rfl,by simp,by simp[ul],fun x hx =>?_⟩⟩
   rcases List.mem_append.mp hx with q | q
   ·exact uo x q
   ·rw[List.mem_singleton] at q;rw[q];cases bb <;> simp <;> omega
 ·rintro k ρ ⟨p,y,o5,o6,rfl,hp,hx,hy,rfl⟩
  have pl:=plen p hp hx;have ea:atI ((p++[y]).map D.int) (-1)=some (.int y):=by
   rw[List.map_append];exact al7 _ _
  have ec:cutD ((p++[y]).map D.int) none (some (-1))=p.map D.int:=by
   rw[atd (by simp),List.map_append]
   exact List.take_left' (by simp)
  have gi:gIn true (.int y) (.lst (p.map D.int))=some (.v (.bl (!decide (y∈p)))):=by rw[afi];simp
  have hpl:((p++[y]).map D.int).length=p.length+1:=by simp
  by_cases q:0<=y
  ·by_cases z:y∈p
   ·refine .inl ⟨[.val (hD qv),.val (.tup (as.map D.int)),.val (.tup (vs.map D.int)),.val (.int st),.own none ((p++[y]).map D.int),o5,o6],?_,p,y,o5,o6,by omega,rfl⟩
    rw[decide_eq_true z] at gi;generalize (p++[y]).map D.int=pp at *;generalize p.map D.int=p1 at *;generalize hD qv=hh at *;simp[j8,ea,q,ec,gi]
   ·have np:(p++[y]).Nodup:=List.nodup_append.mpr ⟨hp,by simp,fun a ha b hb=>by rw[List.mem_singleton] at hb;rintro rfl;exact z (hb▸ha)⟩
    have nx:∀x∈p++[y],0<=x/\x < (qv.length:Int):=fun x hx'=>by
     rcases List.mem_append.mp hx' with r | r
     ·exact hx x r
     ·rw[List.mem_singleton] at r;omega
    have pl2:=plen _ np nx;rw[List.length_append] at pl2;have pl2:p.length+1<=qv.length:=pl2;obtain⟨w1,w2,w3⟩:=h.dr q hy;have e1:=afy q hy;have e2:=al6 h ha q hy;have e3:=vg (ns:=vs) q (by rw[hl];exact hy)
    have e4:=ai8 h ha q hy (ar as y+vs.getD y.toNat 0);have j0:=Int.emod_nonneg (ar as y+vs.getD y.toNat 0) (show((dr qv y).length:Int)≠0 by omega)
    have j1:=Int.emod_lt_of_pos (ar as y+vs.getD y.toNat 0) (show(0:Int) < ((dr qv y).length:Int) by omega)
    have e5:=vg (ns:=dr qv y) j0 j1;have hmem:(dr qv y).getD ((ar as y+vs.getD y.toNat 0) % ((dr qv y).length:Int)).toNat 0 < (qv.length:Int):=by
     refine(w3 _ ?_).2;have hk:((ar as y+vs.getD y.toNat 0) % ((dr qv y).length:Int)).toNat < (dr qv y).length:=by omega
     rw[List.getD_eq_getElem?_getD,List.getElem?_eq_getElem hk];exact List.getElem_mem hk
    refine .inr ⟨[.val (hD qv),.val (.tup (as.map D.int)),.val (.tup (vs.map D.int)),.val (.int st),.own none ((p++[y]).map D.int),o5,o6],[.val (hD qv),.val (.tup (as.map D.int)),.val (.tup (vs.map D.int)),.val (.int st),.own none ((p++[y]++[(dr qv y).getD ((ar as y+vs.getD y.toNat 0) % ((dr qv y).length:Int)).toNat 0]).map D.int),.val (.tup ((dr qv y).map D.int)),o6],11 - (p.length+1),?_,?_,by omega,p++[y],_,_,_,by simp,np,nx,hmem,rfl⟩
    ·rw[decide_eq_false z] at gi;generalize (p++[y]).map D.int=pp at *;generalize p.map D.int=p1 at *;generalize hD qv=hh at *;simp[j8,ea,q,ec,gi]
    ·rw[List.map_append (l₁:=p++[y])];have hcap:p.length+1 < capS:=by unfold capS;omega
     have hdm:((dr qv y).map D.int).length=(dr qv y).length:=List.length_map ..
     generalize (dr qv y).getD ((ar as y+vs.getD y.toNat 0) % ((dr qv y).length:Int)).toNat 0=dd at *;generalize (p++[y]).map D.int=pp at *;generalize (dr qv y).map D.int=dm at *;generalize vs.getD y.toNat 0=vv at *;generalize as.map D.int=la at *;generalize vs.map D.int=lv at *;simp only[hD] at *;simp[sr,ea,e1,e2,e3,hdm,e4,e5,hpl,hcap]
  ·refine .inl ⟨[.val (hD qv),.val (.tup (as.map D.int)),.val (.tup (vs.map D.int)),.val (.int st),.own none ((p++[y]).map D.int),o5,o6],?_,p,y,o5,o6,by omega,rfl⟩
   generalize (p++[y]).map D.int=pp at *;generalize hD qv=hh at *;simp[j8,ea,q]
theorem a5w(a b c:D):atI [a,b,c] 2=some c:=rfl
theorem ahy(P:Int×Int){qv:LL9}(h:Hs qv):∃(ws:List Int) (P':Int×Int),qb [.own (some 0) (pen P),.val (hD qv),.val (.int 2)]=some (.ok (.v (.tup (ws.map D.int))),[.own (some 0) (pen P'),.val (hD qv),.val (.int 2)])/\ws.length=qv.length/\∀w∈ws,0<=w/\w<=2:=by
 have comp:=ni (b:=bh 0) (mc:=ret true) (me:=wz) (fun j ys ρ=>∃ns P o,ρ=[o,.own (some 1) (pen P),.val (.int 2)]/\ys=ns.map D.int/\ns.length=j/\∀w∈ns,0<=w/\w<=2)
  (l:=hDs qv) (ys:=[]) (ρ:=[.emp,.own (some 1) (pen P),.val (.int 2)]) 0 ⟨[],P,.emp,rfl,rfl,rfl,by simp⟩ ?_
 ·obtain⟨ys,ρ',e6,ns,P6,o,rfl,rfl,hn,hx⟩:=comp;rw[kh,Nat.zero_add] at hn;have hm:=h.most;have hc:(ns.map D.int).length<=capS:=by rw[List.length_map,hn];exact bu (by omega)
  refine⟨ns,P6,?_,hn,hx⟩;generalize ns.map D.int=nn at *;simp only[hD] at *;simp[qb,aby,e6,hc]
 ·rintro j d ys ρ hd ⟨ns,P6,o,rfl,rfl,hn,hx⟩
  obtain⟨r7,P7,e7,r7a,r7b⟩:=m9 P6 5 (by decide) (by decide)
  have hv:∃v:Int,(if r7 - 2 > 0 then r7 - 2 else 0)=v/\0<=v/\v<=2:=⟨_,rfl,by split <;> omega,by split <;> omega⟩
  obtain⟨v,hv,v0,v1⟩:=hv;refine⟨[.val d,.own (some 1) (pen P6),.val (.int 2)],_,true,by simp,rfl,.inr ⟨rfl,.int v,[.val d,.own (some 1) (pen P7),.val (.int 2)],by rw[<-hv];simp[wz,e7],ns++[v],P7,_,rfl,by simp,by simp[hn],fun w hw =>?_⟩⟩
  rcases List.mem_append.mp hw with q | q
  ·exact hx w q
  ·rw[List.mem_singleton] at q;omega
theorem aq5(me:M D)(hme:∀ρ,me ρ=some (.ok (.int 0),ρ))(l:List D):compD (bh 0) (ret true) me l [] [.emp]=some (.ok ((List.replicate l.length (0:Int)).map D.int),abr .emp l::[]):=by
 rw[aa7 (f:=fun _=>.int 0)]
 ·rw[List.nil_append,List.map_replicate,List.map_const']
 ·intro d _;exact hme _
structure Gd (n:Nat) (v:List Int):Prop where
 len:v.length=n
 ok:∀x∈v,0<=x
def tpl(v:List Int):D:=.tup (v.map D.int)
section
variable{qv:LL9}(h:Hs qv){as:List Int}(ha:Arr qv as)
include h
theorem atb{g:List Int}(hg:Gd qv.length g)(P:Int×Int)(a0 a1 a3 a4 a5 a8 a9 a10:Sl)(L:LL9)(hL:L.length<=100):∃v P',Gd qv.length v/\alm [a0,a1,.own none (pen P),a3,a4,a5,.val (tpl g),.own none (L.map tpl),a8,a9,a10]=some (.nx,[a0,a1,.own none (pen P'),a3,a4,a5,.val (tpl g),.own none ((L++[v]).map tpl),a8,a9,a10]):=by
 have hm:=h.most;have comp:=ni (b:=bh 0) (mc:=ret true) (me:=ap0) (fun j ys ρ=>∃ns P o,ρ=[o,.own (some 1) (pen P)]/\ys=ns.map D.int/\ns.length=j/\∀w∈ns,0<=w)
  (l:=g.map D.int) (ys:=[]) (ρ:=[.emp,.own (some 1) (pen P)]) 0 ⟨[],P,.emp,rfl,rfl,rfl,by simp⟩ ?_
 ·obtain⟨ys,ρ',e6,ns,P6,o,rfl,rfl,hn,hx⟩:=comp;rw[List.length_map,hg.len,Nat.zero_add] at hn;refine⟨ns,P6,⟨hn,hx⟩,?_⟩;have hc:(ns.map D.int).length<=capS:=by rw[List.length_map,hn];exact bu (by omega)
  have hc2:(L.map tpl).length < capS:=by rw[List.length_map];unfold capS;omega
  rw[List.map_append];show _=some (Fl.nx,[a0,a1,.own none (pen P6),a3,a4,a5,.val (tpl g),.own none (L.map tpl++[.tup (ns.map D.int)]),a8,a9,a10]);unfold tpl at *;generalize ns.map D.int=nn at *;generalize g.map D.int=gg at *;generalize (L.map fun v=>D.tup (v.map D.int))=LL at *
  simp[alm,e6,hc,hc2]
 ·rintro j d ys ρ hd ⟨ns,P6,o,rfl,rfl,hn,hx⟩
  rw[List.getElem?_map] at hd;obtain⟨a,ea,rfl⟩:=Option.map_eq_some_iff.mp hd;obtain⟨r7,P7,e7,r7a,r7b⟩:=m9 P6 5 (by decide) (by decide)
  have hv:∃v:Int,(if a+r7 - 1 > 0 then a+r7 - 1 else 0)=v/\0<=v:=⟨_,rfl,by split <;> omega⟩
  obtain⟨v,hv,v0⟩:=hv;refine⟨[.val (.int a),.own (some 1) (pen P6)],_,true,by simp,rfl,.inr ⟨rfl,.int v,[.val (.int a),.own (some 1) (pen P7)],by rw[<-hv];simp[ap0,e7],ns++[v],P7,_,rfl,by simp,by simp[hn],fun w hw =>?_⟩⟩
  rcases List.mem_append.mp hw with q | q
  ·exact hx w q
  ·rw[List.mem_singleton] at q;omega
include ha
theorem arl{g:List Int}(hg:Gd qv.length g)(P:Int×Int)(a0 a1 a5 a6 a9 a10:Sl)(L:LL9)(hL:L.length<=100):∃v P',Gd qv.length v/\aln [a0,a1,.own none (pen P),.val (hD qv),.val (.tup (as.map D.int)),a5,a6,.own none (L.map tpl),.val (tpl g),a9,a10]=some (.nx,[a0,a1,.own none (pen P'),.val (hD qv),.val (.tup (as.map D.int)),a5,a6,.own none ((L++[v]).map tpl),.val (tpl v),a9,a10]):=by
 have hm:=h.most;have h1:=h.one;have hl:=kh qv;obtain⟨r7,P7,e7,r7a,r7b⟩:=m9 P (qv.length:Int) (by omega) (by omega)
 obtain⟨v,e,vl,vo⟩:=aog h ha hg.len hg.ok r7a r7b;refine⟨v,P7,⟨vl,vo⟩,?_⟩;have hc2:(L.map tpl).length < capS:=by rw[List.length_map];unfold capS;omega
 rw[List.map_append];show _=some (Fl.nx,[a0,a1,.own none (pen P7),.val (hD qv),.val (.tup (as.map D.int)),a5,a6,.own none (L.map tpl++[.tup (v.map D.int)]),.val (.tup (v.map D.int)),a9,a10]);unfold tpl at *;generalize v.map D.int=vv at *;generalize g.map D.int=gg at *;generalize as.map D.int=la at *;generalize (L.map fun v=>D.tup (v.map D.int))=LL at *
 simp only[hD] at *;simp[aln,hl,e7,e,hc2]
theorem axi{ws v S:List Int}(hop:yr qv=[])(hW:Wk qv.length ws)(hg:Gd qv.length v)(lS:Lg qv as (wf ws) S)(sS:Stb qv as (wf ws) S)(a0 a1 a2 a7 a8 a9:Sl) :
  ai1 [a0,a1,a2,.val (hD qv),.val (.tup (as.map D.int)),.val (.tup (ws.map D.int)),.val (tpl (tal qv.length S)),a7,a8,a9,.val (tpl v)]=some (.nx,[a0,a1,a2,.val (hD qv),.val (.tup (as.map D.int)),.val (.tup (ws.map D.int)),.val (tpl (tal qv.length S)),a7,a8,a9,.val (tpl v)]):=by
 have hm:=h.most;have hl:=kh qv;have hb':qv.length < 4611686018427387904:=by omega
 have e1:=aoz h ha hW.len hg.len;have e2:=am3 h ha hop hW hg.len hg.ok lS sS;have st:=axa h ha hW.len (fun w hw'=>(hW.ok w hw').1) hg.len hg.ok
 have q1:=aef false v (tal qv.length S);simp only[Bool.false_eq_true,if_false] at q1
 by_cases c:Stb qv as (wf ws) (rowW v qv.length)
 ·rw[decide_eq_true (st.mpr c)] at e1;have le:=(agg h ha lS sS (yg v qv.length) c).1;have ec:compD (bh 0) aqk auc (jx 0 qv.length) [] [.emp,.val (tpl v),.val (tpl (tal qv.length S))]=some (.ok [],abr .emp (jx 0 qv.length)::[.val (tpl v),.val (tpl (tal qv.length S))]):=by
   rw[aaf,qp (p:=fun _=>false) (f:=id)]
   ·simp
   ·intro d hd;obtain⟨k,hk,rfl⟩:=List.mem_map.mp hd;have hk':=km hk;have i1:=vg (ns:=v) hk'.1 (by rw[hg.len];exact hk'.2)
    have i2:=vg (ns:=tal qv.length S) hk'.1 (by rw[ye];exact hk'.2)
    have nl:¬v.getD k.toNat 0 < (tal qv.length S).getD k.toNat 0:=by
     have a:=le k;rw[uq hk'.1 hk'.2] at a;rw[List.getD_eq_getElem?_getD (l:=tal qv.length S),ael S (by omega)]
     show ¬v.getD k.toNat 0 < ((S.count ((k.toNat:Nat):Int):Nat):Int);rw[show((k.toNat:Nat):Int)=k by omega]
     have:=ajv hg.len hg.ok (i:=k.toNat) (by omega)
     omega
    unfold tpl;generalize v.getD k.toNat 0=x1 at *;generalize (tal qv.length S).getD k.toNat 0=x2 at *;generalize v.map D.int=vv at *;generalize (tal qv.length S).map D.int=tt at *;simp[aqk,i1,i2,nl]
   ·intro d hd z;cases z
  have q2:gEq true (.lst []) (.lst [])=some (.v (.bl false)):=rfl;unfold tpl at *;generalize hbb:decide (v=tal qv.length S)=bb at *;generalize v.map D.int=vv at *;generalize (tal qv.length S).map D.int=tt at *;generalize as.map D.int=la at *;generalize ws.map D.int=lw at *;have q3:gEq true (.bl bb) (.bl bb)=some (.v (.bl false)):=by cases bb <;> rfl
  simp only[hD] at *;simp[ai1,e1,hl,hb',ec,q2,e2,q1,q3]
 ·rw[decide_eq_false fun z=>c (st.mp z)] at e1
  have hne:¬v=tal qv.length S:=fun z=>c (by
   intro x x0 x1;have same:∀x,(rowW v qv.length).count x=S.count x:=fun x=>by
    by_cases q:0<=x/\x < (qv.length:Int)
    ·rw[uq q.1 q.2,z,List.getD_eq_getElem?_getD,ael S (by omega)]
     show((S.count ((x.toNat:Nat):Int):Nat):Int).toNat=_;rw[show((x.toNat:Nat):Int)=x by omega]
     omega
    ·rw[InR.count (yg v qv.length) q,lS.inR.count q]
   rw[same x,sS x x0 x1,aav h x S ha lS.inR,aav h x _ ha (yg v qv.length)]
   congr 1
   exact u6 _ _ _ fun y _=>by rw[same y])
  rw[decide_eq_false hne] at e2 q1;have q3:gEq true (.bl false) (.bl false)=some (.v (.bl false)):=rfl;unfold tpl at *;generalize v.map D.int=vv at *;generalize (tal qv.length S).map D.int=tt at *;generalize as.map D.int=la at *;generalize ws.map D.int=lw at *;generalize hD qv=hh at *;simp[ai1,e1,e2,q1,q3]
end
section
variable{qv:LL9}(h:Hs qv){as:List Int}(ha:Arr qv as)
include h
theorem ajd{g:List Int}(hg:Gd qv.length g)(a0 a1 a3 a4 a5 a8 a10:Sl):∀(l:List D) (P:Int×Int) (L:LL9) (a9:Sl),L.length+l.length<=100->(∀v∈L,Gd qv.length v)->∃(L':LL9) (P':Int×Int) (q9:Sl),(∀v∈L',Gd qv.length v)/\L'.length=L.length+l.length/\forD (bh 9) alm l [a0,a1,.own none (pen P),a3,a4,a5,.val (tpl g),.own none (L.map tpl),a8,a9,a10]=some (.nx,[a0,a1,.own none (pen P'),a3,a4,a5,.val (tpl g),.own none (L'.map tpl),a8,q9,a10])
 | [],P,L,a9,_,hL=>⟨L,P,a9,hL,rfl,rfl⟩
 | d::r,P,L,a9,hn,hL=>by
  obtain⟨v,P1,hv,e1⟩:=atb h hg P a0 a1 a3 a4 a5 a8 (.val d) a10 L (by simp at hn;omega)
  obtain⟨L2,P2,q9,h2,h3,e2⟩:=ajd hg a0 a1 a3 a4 a5 a8 a10 r P1 (L++[v]) (.val d) (by simp at hn ⊢;omega) fun x hx=>by
   rcases List.mem_append.mp hx with q | q
   ·exact hL x q
   ·rw[List.mem_singleton] at q;rw[q];exact hv
  refine⟨L2,P2,q9,h2,by rw[h3];simp;omega,?_⟩
  rw[qy];generalize (L++[v]).map tpl=l1 at *;generalize L.map tpl=l0 at *;generalize L2.map tpl=l2 at *;simp[e1,e2]
include ha
theorem aia(a0 a1 a5 a6 a10:Sl):∀(l:List D) (P:Int×Int) (L:LL9) (g:List Int) (a9:Sl),Gd qv.length g->L.length+l.length<=100->(∀v∈L,Gd qv.length v)->∃(L':LL9) (g':List Int) (P':Int×Int) (q9:Sl),Gd qv.length g'/\(∀v∈L',Gd qv.length v)/\L'.length=L.length+l.length/\forD (bh 9) aln l [a0,a1,.own none (pen P),.val (hD qv),.val (.tup (as.map D.int)),a5,a6,.own none (L.map tpl),.val (tpl g),a9,a10]=some (.nx,[a0,a1,.own none (pen P'),.val (hD qv),.val (.tup (as.map D.int)),a5,a6,.own none (L'.map tpl),.val (tpl g'),q9,a10])
 | [],P,L,g,a9,hg,_,hL=>⟨L,g,P,a9,hg,hL,rfl,rfl⟩
 | d::r,P,L,g,a9,hg,hn,hL=>by
  obtain⟨v,P1,hv,e1⟩:=arl h ha hg P a0 a1 a5 a6 (.val d) a10 L (by simp at hn;omega)
  obtain⟨L2,g2,P2,q9,h1,h2,h3,e2⟩:=aia a0 a1 a5 a6 a10 r P1 (L++[v]) v (.val d) hv (by simp at hn ⊢;omega) fun x hx=>by
   rcases List.mem_append.mp hx with q | q
   ·exact hL x q
   ·rw[List.mem_singleton] at q;rw[q];exact hv
  refine⟨L2,g2,P2,q9,h1,h2,by rw[h3];simp;omega,?_⟩
  rw[qy];generalize (L++[v]).map tpl=l1 at *;generalize L.map tpl=l0 at *;generalize L2.map tpl=l2 at *;generalize hD qv=hh at *;simp[e1,e2]
theorem al8{ws S:List Int}(hop:yr qv=[])(hW:Wk qv.length ws)(lS:Lg qv as (wf ws) S)(sS:Stb qv as (wf ws) S)(a0 a1 a2 a7 a8 a9:Sl):∀(L:LL9) (a10:Sl),(∀v∈L,Gd qv.length v)->∃q10,
  forD (bh 10) ai1 (L.map tpl) [a0,a1,a2,.val (hD qv),.val (.tup (as.map D.int)),.val (.tup (ws.map D.int)),.val (tpl (tal qv.length S)),a7,a8,a9,a10]=some (.nx,[a0,a1,a2,.val (hD qv),.val (.tup (as.map D.int)),.val (.tup (ws.map D.int)),.val (tpl (tal qv.length S)),a7,a8,a9,q10])
 | [],a10,_=>⟨a10,rfl⟩
 | v::L,a10,hL=>by
  have e1:=axi h ha hop hW (hL v (List.mem_cons_self ..)) lS sS a0 a1 a2 a7 a8 a9;obtain⟨q10,e2⟩:=al8 hop hW lS sS a0 a1 a2 a7 a8 a9 L (.val (tpl v)) fun x hx=>hL x (List.mem_cons_of_mem _ hx)
  refine⟨q10,?_⟩;rw[List.map_cons,qy];generalize L.map tpl=l0 at *;generalize tpl v=tv at *;generalize tpl (tal qv.length S)=tS at *;generalize hD qv=hh at *;simp[e1,e2]
end
theorem sx4:∀k,k<=4->2*k*sx 4 k < 100000:=by decide +kernel
theorem a4f(S:D)(n:Int)(a2 a3 a4 a5 a6 a7 a8 a9 a10:Sl):∃b2 b3 b4 b5 b6 b7 b8 b9 b10,l4_law [.val S,.val (.int n),a2,a3,a4,a5,a6,a7,a8,a9,a10]=some (.nx,[.val S,.val (.int n),b2,b3,b4,b5,b6,b7,b8,b9,b10]):=by
 obtain⟨P,e0⟩:=arz n;obtain⟨r1,P1,e1,r1a,r1b⟩:=m9 P 3 (by decide) (by decide)
 have hmw:∃m:Int,atI [D.int 2,D.int 3,D.int 4] r1=some (.int m)/\1<=m/\m<=4:=by
  have:r1=0∨r1=1∨r1=2:=by omega
  rcases this with rfl | rfl | rfl
  ·exact⟨2,rfl,by decide,by decide⟩
  ·exact⟨3,rfl,by decide,by decide⟩
  ·exact⟨4,rfl,by decide,by decide⟩
 obtain⟨m,em,m1,m2⟩:=hmw;obtain⟨qv,P2,e2,h,hop,hle,hw⟩:=open_spec P1 4 m (by decide) (by decide) m1 (by omega)
 have hw:∀r∈qv,r.length<=4:=fun r hr=>by have:=hw r hr;omega
 obtain⟨as,P3,e3,ha⟩:=aky P2 h;obtain⟨ws,P4,e4,wl,w0⟩:=ahy P3 h;have hm:=h.most;have hl:=kh qv;have w2:∀w∈ws,0<=w/\w<=((2:Nat):Int):=fun w hw'=>by have:=w0 w hw';omega
 have hB:=sx4 qv.length (by omega)
 obtain⟨T,lT,sT⟩:=au3 h ha hop (W:=4) (by decide) hw wl w2 (by decide) hB
 have k1:=rest_eq h ha hop (W:=4) (by decide) hw wl w2 (by decide) hB lT sT
 have hW:Wk qv.length ws:=⟨wl,fun w hw'=>by have:=w0 w hw';omega⟩
 have gT:Gd qv.length (tal qv.length T):=⟨ye _ _,fun x hx=>by
  unfold tal at hx;obtain⟨i,_,rfl⟩:=List.mem_map.mp hx;omega⟩
 have gW:Gd qv.length ws:=⟨wl,fun w hw'=>(w0 w hw').1⟩
 have gZ:Gd qv.length (List.replicate qv.length 0):=⟨List.length_replicate,fun w hw'=>by have:=(List.mem_replicate.mp hw').2;omega⟩
 obtain⟨L1,g1,P5,q9,hg1,hL1,ll1,k2⟩:=aia h ha (.val S) (.val (.int n)) (.val (.tup (ws.map D.int))) (.val (tpl (tal qv.length T))) a10 [.int 0,.int 1,.int 2,.int 3] P4 [] (tal qv.length T) a9 gT (by decide) (by simp)
 obtain⟨L2,P6,p9,hL2,ll2,k3⟩:=ajd h gT (.val S) (.val (.int n)) (.val (hD qv)) (.val (.tup (as.map D.int))) (.val (.tup (ws.map D.int))) (.val (tpl g1)) a10 [.int 0,.int 1,.int 2,.int 3,.int 4,.int 5,.int 6,.int 7,.int 8,.int 9,.int 10,.int 11] P5 L1 q9 (by rw[ll1];decide) hL1
 obtain⟨q10,k4⟩:=al8 h ha hop hW lT sT (.val S) (.val (.int n)) (.own none (pen P6)) (.own none (L2.map tpl)) (.val (tpl g1)) p9 (L2++[tal qv.length T,ws,List.replicate qv.length 0]) a10 fun v hv=>by
  rcases List.mem_append.mp hv with q | q
  ·exact hL2 v q
  ·simp only[List.mem_cons,List.not_mem_nil,or_false] at q;rcases q with rfl | rfl | rfl
   ·exact gT
   ·exact gW
   ·exact gZ
 have r4:jx 0 4=[.int 0,.int 1,.int 2,.int 3]:=rfl;have r12:jx 0 12=[.int 0,.int 1,.int 2,.int 3,.int 4,.int 5,.int 6,.int 7,.int 8,.int 9,.int 10,.int 11]:=rfl;have zc:compD (bh 0) (ret true) apz (hDs qv) [] [.emp]=_:=aq5 apz (fun ρ=>rfl) (hDs qv)
 rw[hl] at zc;have c4:((List.replicate qv.length (0:Int)).map D.int).length<=capS:=by rw[List.length_map,List.length_replicate];exact bu (by omega)
 have c5:(L2.map tpl).length+3<=capS:=by
  rw[List.length_map,ll2,ll1];exact bu (by decide)
 rw[List.map_append] at k4;have ea:(L2.map tpl++List.map tpl [tal qv.length T,ws,List.replicate qv.length 0])=L2.map tpl++[.tup ((tal qv.length T).map D.int),.tup (ws.map D.int),.tup ((List.replicate qv.length (0:Int)).map D.int)]:=rfl;rw[ea] at k4;have et:tpl (tal qv.length T)=.tup ((tal qv.length T).map D.int):=rfl;rw[et] at k2 k3 k4;have en:([]:LL9).map tpl=[]:=rfl;rw[en] at k2;generalize (tal qv.length T).map D.int=tt at *;generalize (gts qv as T).map D.int=gt at *;generalize (go qv as T).map D.int=gg at *;generalize (List.replicate qv.length (0:Int)).map D.int=zz at *;generalize L1.map tpl=l1 at *;generalize L2.map tpl=l2 at *;generalize tpl g1=tg at *;generalize ws.map D.int=lw at *;generalize as.map D.int=la at *;refine⟨.own none (pen P6),.val (hD qv),.val (.tup la),.val (.tup lw),.val (.tup tt),.own none l2,.val tg,p9,q10,?_⟩;simp only[hD] at *;simp[l4_law,e0,e1,em,e2,e3,e4,k1,a5w,r4,k2,r12,k3,zc,c4,c5,k4]
theorem azn(S:D):∀(ns:List Int) (q a2 a3 a4 a5 a6 a7 a8 a9 a10:Sl),∃ρ,forD (bh 1) l4_law (ns.map D.int) [.val S,q,a2,a3,a4,a5,a6,a7,a8,a9,a10]=some (.nx,.val S::ρ)
 | [],q,a2,a3,a4,a5,a6,a7,a8,a9,a10=>⟨_,rfl⟩
 | n::r,q,a2,a3,a4,a5,a6,a7,a8,a9,a10=>by
  obtain⟨b2,b3,b4,b5,b6,b7,b8,b9,b10,z⟩:=a4f S n a2 a3 a4 a5 a6 a7 a8 a9 a10;obtain⟨ρ,z2⟩:=azn S r (.val (.int n)) b2 b3 b4 b5 b6 b7 b8 b9 b10;exact⟨ρ,by rw[List.map_cons,qy];simp[z,z2]⟩
theorem asi:akz apt:=fun ns hn=>by
 obtain⟨n0,e0⟩:=aqa ns 0 (by decide)
 obtain⟨ms,em,hm⟩:=aje ns (some 1) (some 3);have hc:1+ms.length<=capS:=bu (by omega)
 obtain⟨ρ,q⟩:=azn (.kst (ns.map D.int)) (n0::ms) .emp .emp .emp .emp .emp .emp .emp .emp .emp .emp;simp only[List.map_cons] at q;simp[apt,az3,e0,em,hc,q]
end My
set_option maxHeartbeats 0
namespace My
open PySem L2 Mn Dn
def top(i:Nat):Stmt:=PySem.Challenge.pw_turnarrows_k22_whole_the_least_leavings.main.body.getD i (.Pass ⟨0,0,0,0⟩)
abbrev vp:Stmt:=top 6
theorem aj2:FnScope ["thing"] ["thing"] (aj vp):=mkSc rfl rfl rfl rfl (by decide +kernel)
abbrev jm:Stmt:=top 7
theorem acg:FnScope ["thing","least","most"] ["thing","least","most"] (aj jm):=mkSc rfl rfl rfl rfl (by decide +kernel)
abbrev jn:Stmt:=top 8
theorem ach:FnScope ["thing","least","most"] ["thing","least","most"] (aj jn):=mkSc rfl rfl rfl rfl (by decide +kernel)
abbrev agb:Stmt:=top 11
theorem aes:FnScope ["house","staying","many"] ["house"] (aj agb):=mkSc rfl rfl rfl rfl (by decide +kernel)
abbrev jk:Stmt:=top 12
theorem xn:FnScope ["house","rooms"] ["house"] (aj jk):=mkSc rfl rfl rfl rfl (by decide +kernel)
abbrev tu:Stmt:=top 14
theorem ah8:FnScope ["house","thing"] ["house","thing"] (aj tu):=mkSc rfl rfl rfl rfl (by decide +kernel)
abbrev jf:Stmt:=top 15
theorem ab2:FnScope ["house","thing"] ["house","thing"] (aj jf):=mkSc rfl rfl rfl rfl (by decide +kernel)
abbrev su:Stmt:=top 16
theorem ah6:FnScope ["house","arrows","turns"] ["house","arrows","turns"] (aj su):=mkSc rfl rfl rfl rfl (by decide +kernel)
abbrev sy:Stmt:=top 17
theorem ah7:FnScope ["house","arrows"] ["house","arrows"] (aj sy):=mkSc rfl rfl rfl rfl (by decide +kernel)
abbrev n8:Stmt:=top 18
theorem p6:FnScope ["last","rooms","staying","many"] ["last","rooms"] (aj n8):=mkSc rfl rfl rfl rfl (by decide +kernel)
abbrev qe:Stmt:=top 21
theorem agx:FnScope ["house","thing","most"] ["house","thing","most"] (aj qe):=mkSc rfl rfl rfl rfl (by decide +kernel)
abbrev jd:Stmt:=top 22
theorem abo:FnScope ["house","thing"] ["house","thing"] (aj jd):=mkSc rfl rfl rfl rfl (by decide +kernel)
abbrev yw:Stmt:=top 23
theorem abd:FnScope ["doors_many","arrow","leavings","uses","door","behind"] ["doors_many","arrow","leavings"] (aj yw):=mkSc rfl rfl rfl rfl (by decide +kernel)
abbrev nu:Stmt:=top 24
theorem pq:FnScope ["house","arrows","leavings","told","doors","arrow","many"] ["house","arrows","leavings"] (aj nu):=mkSc rfl rfl rfl rfl (by decide +kernel)
abbrev yx:Stmt:=top 26
theorem ac9:FnScope ["house","arrows","walkers","crowd","room","crowd.turning","crowd.standing","crowd.gone","crowd.left"] ["house","arrows","walkers"] (aj yx):=mkSc rfl rfl rfl rfl (by decide +kernel)
abbrev jl:Stmt:=top 27
theorem acf:FnScope ["house","arrows","walkers"] ["house","arrows","walkers"] (aj jl):=mkSc rfl rfl rfl rfl (by decide +kernel)
abbrev agc:Stmt:=top 28
theorem au2:FnScope ["house","arrows","walkers"] ["house","arrows","walkers"] (aj agc):=mkSc rfl rfl rfl rfl (by decide +kernel)
abbrev qg:Stmt:=top 29
theorem agy:FnScope ["house","arrows","leavings"] ["house","arrows","leavings"] (aj qg):=mkSc rfl rfl rfl rfl (by decide +kernel)
abbrev n6:Stmt:=top 30
theorem af0:FnScope ["house","thing"] ["house","thing"] (aj n6):=mkSc rfl rfl rfl rfl (by decide +kernel)
abbrev za:Stmt:=top 31
theorem vm:FnScope ["house","uses","come","doors","times","door","many"] ["house","uses"] (aj za):=mkSc rfl rfl rfl rfl (by decide +kernel)
abbrev yz:Stmt:=top 32
theorem ada:FnScope ["house","arrows","walkers","thing","come","last"] ["house","arrows","walkers","thing"] (aj yz):=mkSc rfl rfl rfl rfl (by decide +kernel)
abbrev t8:Stmt:=top 34
theorem ah9:FnScope ["script","k"] ["script","k"] (aj t8):=mkSc rfl rfl rfl rfl (by decide +kernel)
abbrev vq:Stmt:=top 35
theorem aeu:FnScope ["cell","left"] ["cell"] (aj vq):=mkSc rfl rfl rfl rfl (by decide +kernel)
abbrev t7:Stmt:=top 36
theorem uv:FnScope ["pen","many","left","found","stir"] ["pen","many"] (aj t7):=mkSc rfl rfl rfl rfl (by decide +kernel)
abbrev qi:Stmt:=top 37
theorem nq:FnScope ["pen","most","doors","many","gates","house","room","wide"] ["pen","most","doors"] (aj qi):=mkSc rfl rfl rfl rfl (by decide +kernel)
abbrev mj:Stmt:=top 38
theorem m5:FnScope ["house","room","found","at"] ["house","room"] (aj mj):=mkSc rfl rfl rfl rfl (by decide +kernel)
abbrev t6:Stmt:=top 39
theorem xq:FnScope ["pen","most","doors","house","room","at"] ["pen","most","doors"] (aj t6):=mkSc rfl rfl rfl rfl (by decide +kernel)
abbrev qj:Stmt:=top 40
theorem agz:FnScope ["pen","house"] ["pen","house"] (aj qj):=mkSc rfl rfl rfl rfl (by decide +kernel)
abbrev lu:Stmt:=top 41
theorem aet:FnScope ["pen","house","most"] ["pen","house","most"] (aj lu):=mkSc rfl rfl rfl rfl (by decide +kernel)
abbrev oh:Stmt:=top 42
theorem lr:FnScope ["house","some","there","gone","left","room","row","door","many"] ["house","some","there","gone"] (aj oh):=mkSc rfl rfl rfl rfl (by decide +kernel)
abbrev j4:Stmt:=top 43
theorem nj:FnScope ["house","some","gone","start","way","room","ring"] ["house","some","gone","start"] (aj j4):=mkSc rfl rfl rfl rfl (by decide +kernel)
abbrev ag1:Stmt:=top 44
theorem aar:FnScope ["script","cell","pen","house","some","there","gone","rows","more","turn","row"] ["script"] (aj ag1):=mkSc rfl rfl rfl rfl (by decide +kernel)
abbrev ql:Stmt:=aue (top 25) 0
theorem ag0:FnScope ["self","house","arrows","walkers"] ["self","house","arrows","walkers"] (aj ql):=mkSc rfl rfl rfl rfl (by decide +kernel)
abbrev jo:Stmt:=aue (top 25) 1
theorem j5:FnScope ["self","room","many","self.turning","self.standing","self.gone","self.left","doors","uses","door","times"] ["self","room","many"] (aj jo):=mkSc rfl rfl rfl rfl (by decide +kernel)
theorem lnS{k:Nat}{us:List Value}(h:us.length=k+1):∃a r,us=a::r/\r.length=k:=by
 cases us with
 | nil=>cases h
 | cons a r=>exact⟨a,r,rfl,Nat.succ.inj h⟩
theorem ln1{us:List Value}(h:us.length=1):∃a0,us=[a0]:=by
 obtain⟨a,r,rfl,h'⟩:=lnS h;cases List.eq_nil_of_length_eq_zero h';exact⟨a,rfl⟩
theorem ln2{us:List Value}(h:us.length=2):∃a0 a1,us=[a0,a1]:=by
 obtain⟨a,r,rfl,h'⟩:=lnS h;obtain⟨_,rfl⟩:=ln1 h';exact⟨_,_,rfl⟩
theorem ln3{us:List Value}(h:us.length=3):∃a0 a1 a2,us=[a0,a1,a2]:=by
 obtain⟨a,r,rfl,h'⟩:=lnS h;obtain⟨_,_,rfl⟩:=ln2 h';exact⟨_,_,_,rfl⟩
theorem ln4{us:List Value}(h:us.length=4):∃a0 a1 a2 a3,us=[a0,a1,a2,a3]:=by
 obtain⟨a,r,rfl,h'⟩:=lnS h;obtain⟨_,_,_,rfl⟩:=ln3 h';exact⟨_,_,_,_,rfl⟩
structure Txt (K:Fg9) (mg:Str->Option Value):Prop where
 c_GATES_MANY:∃t,mg "GATES_MANY" = some (.int 3 t)
 c_MOST_WALKERS:∃t,mg "MOST_WALKERS" = some (.int 100 t)
 z_all:mg "all" = none
 z_any:mg "any" = none
 z_bool:mg "bool" = none
 z_divmod:mg "divmod" = none
 z_enumerate:mg "enumerate" = none
 z_int:mg "int" = none
 z_isinstance:mg "isinstance" = none
 z_len:mg "len" = none
 z_list:mg "list" = none
 z_max:mg "max" = none
 z_min:mg "min" = none
 z_range:mg "range" = none
 z_set:mg "set" = none
 z_sorted:mg "sorted" = none
 z_tuple:mg "tuple" = none
 z_zip:mg "zip" = none
 f_Crowd_house:FldT K "Crowd" "house"
 f_Crowd_turning:FldT K "Crowd" "turning"
 f_Crowd_standing:FldT K "Crowd" "standing"
 f_Crowd_gone:FldT K "Crowd" "gone"
 f_Crowd_left:FldT K "Crowd" "left"
abbrev Dd0(P:Program)(w:World)(K:Fg9)(mg:Str->Option Value)(base:Heap):Prop:=Dfn P w K mg base "is_whole" ["thing"] 1 (spOf K 1 v4)
abbrev Dd3(P:Program)(w:World)(K:Fg9)(mg:Str->Option Value)(base:Heap):Prop:=Dfn P w K mg base "trap" ["house"] 1 (spOf K 1 ai9)
abbrev Dd2(P:Program)(w:World)(K:Fg9)(mg:Str->Option Value)(base:Heap):Prop:=Dfn P w K mg base "is_tuple_within" ["thing","least","most"] 1 (spOf K 3 dh)
abbrev Dd1(P:Program)(w:World)(K:Fg9)(mg:Str->Option Value)(base:Heap):Prop:=Dfn P w K mg base "is_whole_within" ["thing","least","most"] 2 (spOf K 3 jr)
abbrev Dd5(P:Program)(w:World)(K:Fg9)(mg:Str->Option Value)(base:Heap):Prop:=Dfn P w K mg base "is_arrows" ["house","thing"] 3 (spOf K 2 wy)
abbrev Dd10(P:Program)(w:World)(K:Fg9)(mg:Str->Option Value)(base:Heap):Prop:=Dfn P w K mg base "is_walkers" ["house","thing","most"] 3 (spOf K 3 ux)
abbrev Dd12(P:Program)(w:World)(K:Fg9)(mg:Str->Option Value)(base:Heap):Prop:=Dfn P w K mg base "uses_of" ["doors_many","arrow","leavings"] 1 (spOf K 3 z9)
abbrev Dd6(P:Program)(w:World)(K:Fg9)(mg:Str->Option Value)(base:Heap):Prop:=Dfn P w K mg base "refuse_no_arrows" ["house","thing"] 4 (spOf K 2 gk)
abbrev Dd11(P:Program)(w:World)(K:Fg9)(mg:Str->Option Value)(base:Heap):Prop:=Dfn P w K mg base "refuse_no_walkers" ["house","thing"] 4 (spOf K 2 ju)
abbrev Dd15(P:Program)(w:World)(K:Fg9)(mg:Str->Option Value)(base:Heap):Prop:=Dfn P w K mg base "refuse_no_crowd" ["house","arrows","walkers"] 5 (spOf K 3 jq)
abbrev Dd4(P:Program)(w:World)(K:Fg9)(mg:Str->Option Value)(base:Heap):Prop:=Dfn P w K mg base "refuse_not_open" ["house"] 2 (spOf K 1 gw)
abbrev Dd14(P:Program)(w:World)(K:Fg9)(mg:Str->Option Value)(base:Heap):Prop:=Dfn P w K mg base "rest_of" ["house","arrows","walkers"] 3 (spOf K 3 aa1)
abbrev Dd13(P:Program)(w:World)(K:Fg9)(mg:Str->Option Value)(base:Heap):Prop:=Dfn P w K mg base "uses_of_all" ["house","arrows","leavings"] 2 (spOf K 3 o9)
abbrev Dd18(P:Program)(w:World)(K:Fg9)(mg:Str->Option Value)(base:Heap):Prop:=Dfn P w K mg base "is_leavings" ["house","thing"] 2 (spOf K 2 qz)
abbrev Dd19(P:Program)(w:World)(K:Fg9)(mg:Str->Option Value)(base:Heap):Prop:=Dfn P w K mg base "come_by" ["house","uses"] 1 (spOf K 2 aa2)
abbrev Dd7(P:Program)(w:World)(K:Fg9)(mg:Str->Option Value)(base:Heap):Prop:=Dfn P w K mg base "turned_by" ["house","arrows","turns"] 1 (spOf K 3 wj)
abbrev Dd8(P:Program)(w:World)(K:Fg9)(mg:Str->Option Value)(base:Heap):Prop:=Dfn P w K mg base "last_ways" ["house","arrows"] 1 (spOf K 2 wk)
abbrev Dd9(P:Program)(w:World)(K:Fg9)(mg:Str->Option Value)(base:Heap):Prop:=Dfn P w K mg base "going_round" ["last","rooms"] 1 (spOf K 2 rm)
abbrev Dd23(P:Program)(w:World)(K:Fg9)(mg:Str->Option Value)(base:Heap):Prop:=Dfn P w K mg base "_law_draw" ["pen","many"] 1 (spOf K 2 f__law_draw)
abbrev Dd24(P:Program)(w:World)(K:Fg9)(mg:Str->Option Value)(base:Heap):Prop:=Dfn P w K mg base "_law_house" ["pen","most","doors"] 2 (spOf K 3 f__law_house)
abbrev Dd25(P:Program)(w:World)(K:Fg9)(mg:Str->Option Value)(base:Heap):Prop:=Dfn P w K mg base "_law_reached" ["house","room"] 1 (spOf K 2 qd)
abbrev Dd17(P:Program)(w:World)(K:Fg9)(mg:Str->Option Value)(base:Heap):Prop:=Dfn P w K mg base "doors_used" ["house","arrows","leavings"] 5 (spOf K 3 uy)
abbrev Dd21(P:Program)(w:World)(K:Fg9)(mg:Str->Option Value)(base:Heap):Prop:=Dfn P w K mg base "_law_cell" ["script","k"] 1 (spOf K 2 f__law_cell)
abbrev Dd22(P:Program)(w:World)(K:Fg9)(mg:Str->Option Value)(base:Heap):Prop:=Dfn P w K mg base "_law_pen" ["cell"] 1 (spOf K 1 f__law_pen)
abbrev Dd26(P:Program)(w:World)(K:Fg9)(mg:Str->Option Value)(base:Heap):Prop:=Dfn P w K mg base "_law_open" ["pen","most","doors"] 3 (spOf K 3 f__law_open)
abbrev Dd27(P:Program)(w:World)(K:Fg9)(mg:Str->Option Value)(base:Heap):Prop:=Dfn P w K mg base "_law_drawn" ["pen","house"] 2 (spOf K 2 f__law_drawn)
abbrev Dd28(P:Program)(w:World)(K:Fg9)(mg:Str->Option Value)(base:Heap):Prop:=Dfn P w K mg base "_law_walkers" ["pen","house","most"] 2 (spOf K 3 qb)
abbrev Dd16(P:Program)(w:World)(K:Fg9)(mg:Str->Option Value)(base:Heap):Prop:=Dfn P w K mg base "rest" ["house","arrows","walkers"] 6 (spOf K 3 aja)
abbrev Dd30(P:Program)(w:World)(K:Fg9)(mg:Str->Option Value)(base:Heap):Prop:=Dfn P w K mg base "_law_ring_more" ["house","some","gone","start"] 1 (spOf K 4 lq)
abbrev Dd29(P:Program)(w:World)(K:Fg9)(mg:Str->Option Value)(base:Heap):Prop:=Dfn P w K mg base "_law_nobody" ["house","some","there","gone"] 6 (spOf K 4 rn)
abbrev Dd20(P:Program)(w:World)(K:Fg9)(mg:Str->Option Value)(base:Heap):Prop:=Dfn P w K mg base "is_rest" ["house","arrows","walkers","thing"] 6 (spOf K 4 wu)
section
variable{P:Program}{w:World}{K:Fg9}{mg:Str->Option Value}{base:Heap}{f:Addr}{fd:FuncData}
theorem aj6(F:Fun K "is_whole" "is_whole" vp f fd)(T:Txt K mg):FnOk P w K mg base CX0 1 f fd ["thing"] (spOf K 1 v4) :=
 jj F aj2 rfl rfl fun cdv A outer s H E hr =>
  (au (iu (EV.toR (alw (apv (t:=.int) (avl (by rfl) T.z_int aqn) (by rfl) T.z_isinstance aap (gn (pv 0))) (alu (a0f (apv (t:=.bool) (avl (by rfl) T.z_bool axf) (by rfl) T.z_isinstance aap (gn (pv 0)))))))))
theorem acp(F:Fun K "is_whole_within" "is_whole_within" jm f fd)(T:Txt K mg)(d0:Dd0 P w K mg base):FnOk P w K mg base CX0 2 f fd ["thing","least","most"] (spOf K 3 jr) :=
 jj F acg rfl rfl fun cdv A outer s H E hr =>
  (au (iu (EV.toR (alw (ER.toD (ji d0 (hr.mono (by decide)) (by rfl) (eg_n (pv 0) dj))) (alu (alv ar6 ar6 (ao (pv 1)) (ao (pv 0)) (ao (pv 2))))))))
theorem acq(F:Fun K "is_tuple_within" "is_tuple_within" jn f fd)(T:Txt K mg):FnOk P w K mg base CX0 1 f fd ["thing","least","most"] (spOf K 3 dh) :=
 jj F ach rfl rfl fun cdv A outer s H E hr =>
  (au (iu (EV.toR (alw (apv (t:=.tuple) (avl (by rfl) T.z_tuple jw) (by rfl) T.z_isinstance aap (gn (pv 0))) (alu (alv ar6 ar6 (ao (pv 1)) (ER.toD (bj jy (by rfl) T.z_len jz (ea_n (pv 0) bw))) (ao (pv 2))))))))
theorem avy(F:Fun K "trap" "trap" agb f fd)(T:Txt K mg):FnOk P w K mg base CX0 1 f fd ["house"] (spOf K 1 ai9) :=
 jj F aes rfl rfl fun cdv A outer s H E hr =>
  (ak (ig (i:=1) aes.nd rfl (Or.inr rfl) (ajc rfl (by rfl) T.z_list (by rfl) T.z_range (az (ER.toD (bj jy (by rfl) T.z_len jz (ea_n (pv 0) bw))) f9))) (ak (ig (i:=2) aes.nd rfl (Or.inl rfl) (di jh (e2_v (ER.toD (bj jy (by rfl) T.z_len jz (ea_n (pv 1) bw))) (EV.toB bf)))) (ak (ace fuel PassesOwn.never (qm aig (e2_v (ER.toD (bj jy (by rfl) T.z_len jz (ea_n (pv 1) bw))) (gn (pv 2))) (m7 _)) (ak (ig (i:=2) aes.nd rfl (Or.inl rfl) (bj jy (by rfl) T.z_len jz (ea_n (pv 1) bw))) (au (ig (i:=1) aes.nd rfl (Or.inr rfl) (my ["staying","house"] ["room","staying","house"] [none,some 1,some 0] rfl (aat (ao (pv 1))) (fun _ _ _=>(bz (i:=0) (show(["room","staying","house"]:List Str).Nodup by decide +kernel) rfl (Or.inl rfl))) (fun _ _ _=>(afo (aa3 (ER.toD (bj (ajf rfl) (by rfl) T.z_all ajm (ea_v (ER.toD (my ["staying"] ["door","staying"] [none,some 1] rfl (aat (ER.toD (m8 (e2_n (pv 2) (gn (pv 0))) (fun _ _=>by rfl)))) (fun _ _ _=>(bz (i:=0) (show(["door","staying"]:List Str).Nodup by decide +kernel) rfl (Or.inl rfl))) (fun _ _ _=>uf) (fun _ _ _=>(ER.toD (ad9 (aow hr.units) (e2_n (pv 0) (gn (pv 1))) (by with_unfolding_all rfl)))))) bw)))))) (fun _ _ _=>(ao (pv 0)))))))) (au (iu (fu j7 (by rfl) T.z_tuple jw (ea_n (pv 1) bw)))))))
theorem acn(F:Fun K "refuse_not_open" "refuse_not_open" jk f fd)(T:Txt K mg)(d3:Dd3 P w K mg base):FnOk P w K mg base CX0 2 f fd ["house"] (spOf K 1 gw) :=
 jj F xn rfl rfl fun cdv A outer s H E hr =>
  (ak (ig (i:=1) xn.nd rfl (Or.inl rfl) (ji d3 (hr.mono (by decide)) (by rfl) (eg_n (pv 0) dj))) (au (yu (qm (aov hr.units) (e2_n (pv 1) (EV.toB (apu f9))) (m7 _)) (au ags) mq)))
theorem aik(F:Fun K "is_arrows" "is_arrows" tu f fd)(T:Txt K mg)(d2:Dd2 P w K mg base)(d1:Dd1 P w K mg base):FnOk P w K mg base CX0 3 f fd ["house","thing"] (spOf K 2 wy) :=
 jj F ah8 rfl rfl fun cdv A outer s H E hr =>
  (ak (yu (afk (aa3 (ER.toD (ji d2 (hr.mono (by decide)) (by rfl) (eg_n (pv 1) (eg_v (ER.toD (bj jy (by rfl) T.z_len jz (ea_n (pv 0) bw))) (eg_v (ER.toD (bj jy (by rfl) T.z_len jz (ea_n (pv 0) bw))) dj))))))) (au (iu (EV.toR ahm))) mq) (au (iu (bj (ajf rfl) (by rfl) T.z_all ajm (ea_v (ER.toD (my [] ["arrow","doors"] [none,none] rfl (ab6 (by rfl) T.z_zip (az (ao (pv 1)) (az (ao (pv 0)) f9))) (fun _ _ _=>(zr rfl (fj (bz (i:=0) (show(["arrow","doors"]:List Str).Nodup by decide +kernel) rfl (Or.inl rfl)) (fj (bz (i:=1) (show(["arrow","doors"]:List Str).Nodup by decide +kernel) rfl (Or.inl rfl)) uc)))) (fun _ _ _=>uf) (fun _ _ _=>(ER.toD (ji d1 (hr.mono (by decide)) (by rfl) (eg_n (pv 0) (eg_v bf (eg_v (ER.toD (di v7 (e2_v (ER.toD (bj jy (by rfl) T.z_len jz (ea_n (pv 1) bw))) (EV.toB bf)))) dj)))))))) bw)))))
theorem ab3(F:Fun K "refuse_no_arrows" "refuse_no_arrows" jf f fd)(T:Txt K mg)(d5:Dd5 P w K mg base):FnOk P w K mg base CX0 4 f fd ["house","thing"] (spOf K 2 gk) :=
 jj F ab2 rfl rfl fun cdv A outer s H E hr =>
  (au (yu (afk (aa3 (ER.toD (ji d5 (hr.mono (by decide)) (by rfl) (eg_v (ao (pv 0)) (eg_v (ao (pv 1)) dj)))))) (au ags) mq))
theorem aii(F:Fun K "turned_by" "turned_by" su f fd)(T:Txt K mg):FnOk P w K mg base CX0 1 f fd ["house","arrows","turns"] (spOf K 3 wj) :=
 jj F ah6 rfl rfl fun cdv A outer s H E hr =>
  (au (iu (fu j7 (by rfl) T.z_tuple jw (ea_v (ER.toD (my [] ["arrow","turn","doors"] [none,none,none] rfl (akg (by rfl) T.z_zip (az (ao (pv 1)) (az (ao (pv 2)) (az (ao (pv 0)) f9)))) (fun _ _ _=>(zr rfl (fj (bz (i:=0) (show(["arrow","turn","doors"]:List Str).Nodup by decide +kernel) rfl (Or.inl rfl)) (fj (bz (i:=1) (show(["arrow","turn","doors"]:List Str).Nodup by decide +kernel) rfl (Or.inl rfl)) (fj (bz (i:=2) (show(["arrow","turn","doors"]:List Str).Nodup by decide +kernel) rfl (Or.inl rfl)) uc))))) (fun _ _ _=>uf) (fun _ _ _=>(ER.toD (di aag (e2_v (ER.toD (di jh (e2_n (pv 0) (gn (pv 1))))) (EV.toB (ER.toD (bj jy (by rfl) T.z_len jz (ea_n (pv 2) bw)))))))))) bw))))
theorem aij(F:Fun K "last_ways" "last_ways" sy f fd)(T:Txt K mg):FnOk P w K mg base CX0 1 f fd ["house","arrows"] (spOf K 2 wk) :=
 jj F ah7 rfl rfl fun cdv A outer s H E hr =>
  (au (iu (fu j7 (by rfl) T.z_tuple jw (ea_v (ER.toD (my [] ["arrow","doors"] [none,none] rfl (ab6 (by rfl) T.z_zip (az (ao (pv 1)) (az (ao (pv 0)) f9))) (fun _ _ _=>(zr rfl (fj (bz (i:=0) (show(["arrow","doors"]:List Str).Nodup by decide +kernel) rfl (Or.inl rfl)) (fj (bz (i:=1) (show(["arrow","doors"]:List Str).Nodup by decide +kernel) rfl (Or.inl rfl)) uc)))) (fun _ _ _=>uf) (fun _ _ _=>(ER.toD (m8 (e2_n (pv 1) (EV.toB (ER.toD (di v7 (e2_n (pv 0) (EV.toB bf)))))) (fun _ _=>by rfl)))))) bw))))
theorem af3(F:Fun K "going_round" "going_round" n8 f fd)(T:Txt K mg):FnOk P w K mg base CX0 1 f fd ["last","rooms"] (spOf K 2 rm) :=
 jj F p6 rfl rfl fun cdv A outer s H E hr =>
  (ak (ig (i:=2) p6.nd rfl (Or.inr rfl) (fu afu (by rfl) T.z_list adu (ea_n (pv 1) bw))) (ak (ig (i:=3) p6.nd rfl (Or.inl rfl) (di jh (e2_v (ER.toD (bj jy (by rfl) T.z_len jz (ea_n (pv 2) bw))) (EV.toB bf)))) (ak (ace fuel PassesOwn.never (qm aig (e2_v (ER.toD (bj jy (by rfl) T.z_len jz (ea_n (pv 2) bw))) (gn (pv 3))) (m7 _)) (ak (ig (i:=3) p6.nd rfl (Or.inl rfl) (bj jy (by rfl) T.z_len jz (ea_n (pv 2) bw))) (au (ig (i:=2) p6.nd rfl (Or.inr rfl) (my ["staying","last"] ["room","staying","last"] [none,some 2,some 0] rfl (aat (ao (pv 2))) (fun _ _ _=>(bz (i:=0) (show(["room","staying","last"]:List Str).Nodup by decide +kernel) rfl (Or.inl rfl))) (fun _ _ _=>(afo (qm (aow hr.units) (e2_v (ER.toD (m8 (e2_n (pv 2) (gn (pv 0))) (fun _ _=>by rfl))) (gn (pv 1))) (by with_unfolding_all rfl)))) (fun _ _ _=>(ao (pv 0)))))))) (au (iu (afl (pv 2)))))))
theorem ag6(F:Fun K "is_walkers" "is_walkers" qe f fd)(T:Txt K mg)(d2:Dd2 P w K mg base)(d1:Dd1 P w K mg base):FnOk P w K mg base CX0 3 f fd ["house","thing","most"] (spOf K 3 ux) :=
 jj F agx rfl rfl fun cdv A outer s H E hr =>
  (ak (yu (afk (aa3 (ER.toD (ji d2 (hr.mono (by decide)) (by rfl) (eg_n (pv 1) (eg_v (ER.toD (bj jy (by rfl) T.z_len jz (ea_n (pv 0) bw))) (eg_v (ER.toD (bj jy (by rfl) T.z_len jz (ea_n (pv 0) bw))) dj))))))) (au (iu (EV.toR ahm))) mq) (au (iu (bj (ajf rfl) (by rfl) T.z_all ajm (ea_v (ER.toD (my ["most"] ["many","most"] [none,some 2] rfl (aat (ao (pv 1))) (fun _ _ _=>(bz (i:=0) (show(["many","most"]:List Str).Nodup by decide +kernel) rfl (Or.inl rfl))) (fun _ _ _=>uf) (fun _ _ _=>(ER.toD (ji d1 (hr.mono (by decide)) (by rfl) (eg_n (pv 0) (eg_v bf (eg_n (pv 1) dj)))))))) bw)))))
theorem abp(F:Fun K "refuse_no_walkers" "refuse_no_walkers" jd f fd)(T:Txt K mg)(d10:Dd10 P w K mg base):FnOk P w K mg base CX0 4 f fd ["house","thing"] (spOf K 2 ju) :=
 jj F abo rfl rfl fun cdv A outer s H E hr =>
  (au (yu (afk (aa3 (ER.toD (ji d10 (hr.mono (by decide)) (by rfl) (eg_n (pv 0) (eg_v (ao (pv 1)) (eg_v (ev_c (ayv (by rfl) T.c_MOST_WALKERS) fun _=>.int _) dj))))))) (au ags) mq))
theorem amr(F:Fun K "uses_of" "uses_of" yw f fd)(T:Txt K mg):FnOk P w K mg base CX0 1 f fd ["doors_many","arrow","leavings"] (spOf K 3 z9) :=
 jj F abd rfl rfl fun cdv A outer s H E hr =>
  (ak (ig (i:=3) abd.nd rfl (Or.inl rfl) (u5 f9)) (ak (xm PassesOwn.never rfl (uw (by rfl) T.z_range (az (ao (pv 0)) f9)) (bz (i:=4) abd.nd rfl (Or.inl rfl)) (ak (ig (i:=5) abd.nd rfl (Or.inl rfl) (di aag (e2_v (ER.toD (di v7 (e2_n (pv 4) (gn (pv 1))))) (gn (pv 0))))) (au (qw (EV.toR (agl vy PySem.F.slot_list_append PySem.F.type_list_append v8 (pv 3) (az (ER.toD (di aox (e2_v (ER.toD (di v7 (e2_v (ER.toD (di v7 (e2_v (ER.toD (di jh (e2_n (pv 2) (gn (pv 0))))) (EV.toB bf)))) (gn (pv 5))))) (gn (pv 0))))) f9))))))) (au (iu (afl (pv 3))))))
theorem af1(F:Fun K "uses_of_all" "uses_of_all" nu f fd)(T:Txt K mg)(d12:Dd12 P w K mg base):FnOk P w K mg base CX0 2 f fd ["house","arrows","leavings"] (spOf K 3 o9) :=
 jj F pq rfl rfl fun cdv A outer s H E hr =>
  (ak (ig (i:=3) pq.nd rfl (Or.inl rfl) (u5 f9)) (ak (xm PassesOwn.never rfl (akg (by rfl) T.z_zip (az (ao (pv 0)) (az (ao (pv 1)) (az (ao (pv 2)) f9)))) (zr rfl (fj (bz (i:=4) pq.nd rfl (Or.inl rfl)) (fj (bz (i:=5) pq.nd rfl (Or.inl rfl)) (fj (bz (i:=6) pq.nd rfl (Or.inl rfl)) uc)))) (au (qw (EV.toR (agl vy PySem.F.slot_list_append PySem.F.type_list_append v8 (pv 3) (az (ER.toD (fu j7 (by rfl) T.z_tuple jw (ea_v (ER.toD (ji d12 (hr.mono (by decide)) (by rfl) (eg_v (ER.toD (bj jy (by rfl) T.z_len jz (ea_n (pv 4) bw))) (eg_n (pv 5) (eg_n (pv 6) dj))))) bw))) f9)))))) (au (iu (fu j7 (by rfl) T.z_tuple jw (ea_n (pv 3) bw))))))
theorem acr(F:Fun K "let_leave" "Crowd.let_leave" jo f fd)(T:Txt K mg)(d12:Dd12 P w K mg base):FnOk P w K mg base CX0 2 f fd ["self","room","many"] (spBx K 3 4 ie) :=
 a5b F j5 rfl rfl (by decide) (by decide +kernel) fun cdv A outer s H E hr =>
  (ak (ig (i:=7) j5.nd rfl (Or.inl rfl) (m8 (e2_v (a5e T.f_Crowd_house (pv 0)) (gn (pv 1))) (fun _ _=>by rfl))) (ak (ig (i:=8) j5.nd rfl (Or.inl rfl) (ji d12 (hr.mono (by decide)) (by rfl) (eg_v (ER.toD (bj jy (by rfl) T.z_len jz (ea_n (pv 7) bw))) (eg_v (ER.toD (m8 (e2_f T.f_Crowd_turning (pv 0) (gn (pv 1))) (fun _ _=>by rfl))) (eg_n (pv 2) dj))))) (ak (auz T.f_Crowd_turning (ER.toD (di aag (e2_v (ER.toD (di jh (e2_v (ER.toD (m8 (e2_f T.f_Crowd_turning (pv 0) (gn (pv 1))) (fun _ _=>by rfl))) (gn (pv 2))))) (EV.toB (ER.toD (bj jy (by rfl) T.z_len jz (ea_n (pv 7) bw))))))) (pv 0) (ao (pv 1))) (ak (abb T.f_Crowd_left (pv 0) (ao (pv 1)) (ao (pv 2)) alq) (ak (abb T.f_Crowd_standing (pv 0) (ao (pv 1)) (ao (pv 2)) az0) (au (xm PassesOwn.never rfl (ab6 (by rfl) T.z_zip (az (ao (pv 7)) (az (ao (pv 8)) f9))) (zr rfl (fj (bz (i:=9) j5.nd rfl (Or.inl rfl)) (fj (bz (i:=10) j5.nd rfl (Or.inl rfl)) uc))) (au (yu (qm ad2 (e2_n (pv 9) (EV.toB bf)) (m7 _)) (au (abb T.f_Crowd_standing (pv 0) (ao (pv 9)) (ao (pv 10)) alq)) (au (abb T.f_Crowd_gone (pv 0) (ER.toD (di v7 (e2_v (ac2 (ao (pv 9))) (EV.toB bf)))) (ao (pv 10)) alq)))))))))))
theorem aha{C:Addr}(F:Fun K "__init__" "Crowd.__init__" ql f fd)(T:Txt K mg)(hC:nsIn K mainGlobals "Crowd" = some (some (.ref C))):FnOk P w K mg base CX0 1 f fd ["self","house","arrows","walkers"] (amf K 4 4 adn C) :=
 a0c F ag0 rfl rfl (by decide) (by decide) fun cdv A outer s H E hr =>
  (aeq (T.f_Crowd_house C hC).1 (T.f_Crowd_house C hC).2 (EV.toR (ao (pv 1))) (pv 0) (aeq (T.f_Crowd_turning C hC).1 (T.f_Crowd_turning C hC).2 (fu afu (by rfl) T.z_list adu (ea_n (pv 2) bw)) (pv 0) (aeq (T.f_Crowd_standing C hC).1 (T.f_Crowd_standing C hC).2 (fu afu (by rfl) T.z_list adu (ea_n (pv 3) bw)) (pv 0) (aeq (T.f_Crowd_gone C hC).1 (T.f_Crowd_gone C hC).2 (di adf (e2_v (ER.toD (u5 (az bf f9))) (EV.toB (ev_c (ayv (by rfl) T.c_GATES_MANY) fun _=>.int _)))) (pv 0) (aeq (T.f_Crowd_left C hC).1 (T.f_Crowd_left C hC).2 (di adf (e2_v (ER.toD (u5 (az bf f9))) (EV.toB (ER.toD (bj jy (by rfl) T.z_len jz (ea_n (pv 1) bw)))))) (pv 0) ax6)))))
theorem ams(F:Fun K "rest_of" "rest_of" yx f fd)(T:Txt K mg)(m_Crowd_let_leave:DfnM P w K mg base "Crowd" "let_leave" ["self","room","many"] 2 (spBx K 3 4 ie))(n_Crowd:DfnI P w K mg base "Crowd" ["self","house","arrows","walkers"] 1 (amf K 4 4 adn)):FnOk P w K mg base CX0 3 f fd ["house","arrows","walkers"] (spOf K 3 aa1) :=
 jj F ac9 rfl rfl fun cdv A outer s H E hr =>
  (auy (i:=3) (gs:=[5,6,7,8]) n_Crowd (hr.mono (by decide)) (by rfl) ac9.nd rfl (Or.inl rfl) (eg_n (pv 0) (eg_n (pv 1) (eg_n (pv 2) dj))) (ak (ace fuel PassesOwn.never (aa3 (ER.toD (bj (axc rfl) (by rfl) T.z_any a0n (ea_f T.f_Crowd_standing (pv 3) bw)))) (au (xm PassesOwn.never rfl (uw (by rfl) T.z_range (az (ER.toD (bj jy (by rfl) T.z_len jz (ea_n (pv 0) bw))) f9)) (bz (i:=4) ac9.nd rfl (Or.inl rfl)) (au (yu (qm atw (e2_v (ER.toD (m8 (e2_f T.f_Crowd_standing (pv 3) (gn (pv 4))) (fun _ _=>by rfl))) (EV.toB bf)) (m7 _)) (au (qw (aw3 m_Crowd_let_leave (hr.mono (by decide)) (pv 3) (eg_n (pv 4) (eg_v (ER.toD (m8 (e2_f T.f_Crowd_standing (pv 3) (gn (pv 4))) (fun _ _=>by rfl))) dj))))) mq))))) (au (iu (EV.toR (apu (az (ER.toD (fu j7 (by rfl) T.z_tuple jw (ea_f T.f_Crowd_gone (pv 3) bw))) (az (ER.toD (fu j7 (by rfl) T.z_tuple jw (ea_f T.f_Crowd_turning (pv 3) bw))) (az (ER.toD (fu j7 (by rfl) T.z_tuple jw (ea_f T.f_Crowd_left (pv 3) bw))) f9)))))))) (a4n (by rfl)))
theorem aco(F:Fun K "refuse_no_crowd" "refuse_no_crowd" jl f fd)(T:Txt K mg)(d6:Dd6 P w K mg base)(d11:Dd11 P w K mg base):FnOk P w K mg base CX0 5 f fd ["house","arrows","walkers"] (spOf K 3 jq) :=
 jj F acf rfl rfl fun cdv A outer s H E hr =>
  (ak (qw (ji d6 (hr.mono (by decide)) (by rfl) (eg_v (ao (pv 0)) (eg_v (ao (pv 1)) dj)))) (au (qw (ji d11 (hr.mono (by decide)) (by rfl) (eg_n (pv 0) (eg_v (ao (pv 2)) dj))))))
theorem avz(F:Fun K "rest" "rest" agc f fd)(T:Txt K mg)(d15:Dd15 P w K mg base)(d4:Dd4 P w K mg base)(d14:Dd14 P w K mg base):FnOk P w K mg base CX0 6 f fd ["house","arrows","walkers"] (spOf K 3 aja) :=
 jj F au2 rfl rfl fun cdv A outer s H E hr =>
  (ak (qw (ji d15 (hr.mono (by decide)) (by rfl) (eg_v (ao (pv 0)) (eg_v (ao (pv 1)) (eg_v (ao (pv 2)) dj))))) (ak (qw (ji d4 (hr.mono (by decide)) (by rfl) (eg_n (pv 0) dj))) (au (iu (ji d14 (hr.mono (by decide)) (by rfl) (eg_n (pv 0) (eg_n (pv 1) (eg_n (pv 2) dj))))))))
theorem ag7(F:Fun K "doors_used" "doors_used" qg f fd)(T:Txt K mg)(d6:Dd6 P w K mg base)(d13:Dd13 P w K mg base):FnOk P w K mg base CX0 5 f fd ["house","arrows","leavings"] (spOf K 3 uy) :=
 jj F agy rfl rfl fun cdv A outer s H E hr =>
  (ak (qw (ji d6 (hr.mono (by decide)) (by rfl) (eg_v (ao (pv 0)) (eg_v (ao (pv 1)) dj)))) (au (iu (ji d13 (hr.mono (by decide)) (by rfl) (eg_v (ao (pv 0)) (eg_v (ao (pv 1)) (eg_v (ao (pv 2)) dj)))))))
theorem af2(F:Fun K "is_leavings" "is_leavings" n6 f fd)(T:Txt K mg)(d2:Dd2 P w K mg base)(d0:Dd0 P w K mg base):FnOk P w K mg base CX0 2 f fd ["house","thing"] (spOf K 2 qz) :=
 jj F af0 rfl rfl fun cdv A outer s H E hr =>
  (ak (yu (afk (aa3 (ER.toD (ji d2 (hr.mono (by decide)) (by rfl) (eg_n (pv 1) (eg_v (ER.toD (bj jy (by rfl) T.z_len jz (ea_n (pv 0) bw))) (eg_v (ER.toD (bj jy (by rfl) T.z_len jz (ea_n (pv 0) bw))) dj))))))) (au (iu (EV.toR ahm))) mq) (au (iu (bj (ajf rfl) (by rfl) T.z_all ajm (ea_v (ER.toD (my [] ["many"] [none] rfl (aat (ao (pv 1))) (fun _ _ _=>(bz (i:=0) (show(["many"]:List Str).Nodup by decide +kernel) rfl (Or.inl rfl))) (fun _ _ _=>uf) (fun _ _ _=>(alw (ER.toD (ji d0 (hr.mono (by decide)) (by rfl) (eg_n (pv 0) dj))) (alu (ER.toD (ad9 ad2 (e2_n (pv 0) (EV.toB bf)) (m7 _)))))))) bw)))))
theorem amu(F:Fun K "come_by" "come_by" za f fd)(T:Txt K mg):FnOk P w K mg base CX0 1 f fd ["house","uses"] (spOf K 2 aa2) :=
 jj F vm rfl rfl fun cdv A outer s H E hr =>
  (ak (ig (i:=2) vm.nd rfl (Or.inl rfl) (di adf (e2_v (ER.toD (u5 (az bf f9))) (EV.toB (ER.toD (bj jy (by rfl) T.z_len jz (ea_n (pv 0) bw))))))) (ak (xm PassesOwn.never rfl (ab6 (by rfl) T.z_zip (az (ao (pv 0)) (az (ao (pv 1)) f9))) (zr rfl (fj (bz (i:=3) vm.nd rfl (Or.inl rfl)) (fj (bz (i:=4) vm.nd rfl (Or.inl rfl)) uc))) (au (xm PassesOwn.never rfl (ab6 (by rfl) T.z_zip (az (ao (pv 3)) (az (ao (pv 4)) f9))) (zr rfl (fj (bz (i:=5) vm.nd rfl (Or.inl rfl)) (fj (bz (i:=6) vm.nd rfl (Or.inl rfl)) uc))) (au (yu (qm ad2 (e2_n (pv 5) (EV.toB bf)) (m7 _)) (au (anw (pv 2) (ao (pv 5)) (ao (pv 6)) alq)) mq))))) (au (iu (afl (pv 2))))))
theorem amt(F:Fun K "is_rest" "is_rest" yz f fd)(T:Txt K mg)(d15:Dd15 P w K mg base)(d4:Dd4 P w K mg base)(d18:Dd18 P w K mg base)(d13:Dd13 P w K mg base)(d19:Dd19 P w K mg base)(d7:Dd7 P w K mg base)(d8:Dd8 P w K mg base)(d9:Dd9 P w K mg base):FnOk P w K mg base CX0 6 f fd ["house","arrows","walkers","thing"] (spOf K 4 wu) :=
 jj F ada rfl rfl fun cdv A outer s H E hr =>
  (ak (qw (ji d15 (hr.mono (by decide)) (by rfl) (eg_v (ao (pv 0)) (eg_v (ao (pv 1)) (eg_v (ao (pv 2)) dj))))) (ak (qw (ji d4 (hr.mono (by decide)) (by rfl) (eg_n (pv 0) dj))) (ak (yu (afk (aa3 (ER.toD (ji d18 (hr.mono (by decide)) (by rfl) (eg_n (pv 0) (eg_v (ao (pv 3)) dj)))))) (au (iu (EV.toR ahm))) mq) (ak (ig (i:=4) ada.nd rfl (Or.inl rfl) (ji d19 (hr.mono (by decide)) (by rfl) (eg_v (ao (pv 0)) (eg_v (ER.toD (ji d13 (hr.mono (by decide)) (by rfl) (eg_v (ao (pv 0)) (eg_v (ao (pv 1)) (eg_v (ao (pv 3)) dj))))) dj)))) (ak (yu (afk (aa3 (ER.toD (bj (ajf rfl) (by rfl) T.z_all ajm (ea_v (ER.toD (my [] ["stood","by","many"] [none,none,none] rfl (akg (by rfl) T.z_zip (az (ao (pv 2)) (az (ao (pv 4)) (az (ao (pv 3)) f9)))) (fun _ _ _=>(zr rfl (fj (bz (i:=0) (show(["stood","by","many"]:List Str).Nodup by decide +kernel) rfl (Or.inl rfl)) (fj (bz (i:=1) (show(["stood","by","many"]:List Str).Nodup by decide +kernel) rfl (Or.inl rfl)) (fj (bz (i:=2) (show(["stood","by","many"]:List Str).Nodup by decide +kernel) rfl (Or.inl rfl)) uc))))) (fun _ _ _=>uf) (fun _ _ _=>(ER.toD (ad9 (aih hr.units) (e2_v (ER.toD (di jh (e2_n (pv 0) (gn (pv 1))))) (gn (pv 2))) (m7 _)))))) bw))))) (au (iu (EV.toR ahm))) mq) (ak (ig (i:=5) ada.nd rfl (Or.inl rfl) (ji d8 (hr.mono (by decide)) (by rfl) (eg_v (ao (pv 0)) (eg_v (ER.toD (ji d7 (hr.mono (by decide)) (by rfl) (eg_v (ao (pv 0)) (eg_v (ao (pv 1)) (eg_v (ao (pv 3)) dj))))) dj)))) (au (iu (ad9 (aih hr.units) (e2_v (ER.toD (ji d9 (hr.mono (by decide)) (by rfl) (eg_n (pv 5) (eg_v (ER.toD (my [] ["room","many"] [none,none] rfl (apc (by rfl) T.z_enumerate (az (ao (pv 3)) f9)) (fun _ _ _=>(zr rfl (fj (bz (i:=0) (show(["room","many"]:List Str).Nodup by decide +kernel) rfl (Or.inl rfl)) (fj (bz (i:=1) (show(["room","many"]:List Str).Nodup by decide +kernel) rfl (Or.inl rfl)) uc)))) (fun _ _ _=>(afo (qm atw (e2_n (pv 1) (EV.toB bf)) (m7 _)))) (fun _ _ _=>(ao (pv 0))))) dj)))) (EV.toB (ER.toD (u5 f9)))) (m7 _))))))))))
theorem ain(F:Fun K "_law_cell" "_law_cell" t8 f fd)(T:Txt K mg):FnOk P w K mg base CX0 1 f fd ["script","k"] (spOf K 2 f__law_cell) :=
 jj F ah9 rfl rfl fun cdv A outer s H E hr =>
  (ak (yu (qm aig (e2_n (pv 1) (EV.toB (ER.toD (bj jy (by rfl) T.z_len jz (ea_n (pv 0) bw))))) (m7 _)) (au (iu (m8 (e2_n (pv 0) (gn (pv 1))) (fun _ _=>by rfl)))) mq) (au (iu (EV.toR bf))))
theorem aj7(F:Fun K "_law_pen" "_law_pen" vq f fd)(T:Txt K mg):FnOk P w K mg base CX0 1 f fd ["cell"] (spOf K 1 f__law_pen) :=
 jj F aeu rfl rfl fun cdv A outer s H E hr =>
  (ak (ig (i:=1) aeu.nd rfl (Or.inl rfl) (bj (aqb rfl) (by rfl) T.z_max aqm (ea_n (pv 0) (ea_v (ER.toD (di v7 (e2_v bf (gn (pv 0))))) bw)))) (au (iu (u5 (az (ao (pv 1)) (az (ER.toD (fu auh (by rfl) T.z_int aqn (ea_v (ER.toD (ad9 ad2 (e2_n (pv 1) (EV.toB (ER.toD (di avv (e2_v bf (EV.toB bf)))))) (m7 _))) bw))) f9))))))
theorem aim(F:Fun K "_law_draw" "_law_draw" t7 f fd)(T:Txt K mg):FnOk P w K mg base CX0 1 f fd ["pen","many"] (spOf K 2 f__law_draw) :=
 jj F uv rfl rfl fun cdv A outer s H E hr =>
  (ak (yu (qm (aih hr.units) (e2_v (ER.toD (m8 (e2_n (pv 0) (EV.toB bf)) (fun _ _=>by rfl))) (EV.toB bf)) (m7 _)) (ak (ax3 (ER.toD (bj aqc (by rfl) T.z_divmod aqo (ea_v (ER.toD (m8 (e2_n (pv 0) (EV.toB bf)) (fun _ _=>by rfl))) (ea_n (pv 1) bw)))) (zr rfl (fj (bz (i:=2) uv.nd rfl (Or.inl rfl)) (fj (bz (i:=3) uv.nd rfl (Or.inl rfl)) uc)))) (ak (ak3 (ao (pv 2)) (pv 0) bf) (au (iu (afl (pv 3)))))) mq) (ak (ig (i:=4) uv.nd rfl (Or.inl rfl) (di aag (e2_v (ER.toD (di adf (e2_v (ER.toD (di jh (e2_v (ER.toD (di aag (e2_v (ER.toD (m8 (e2_n (pv 0) (EV.toB bf)) (fun _ _=>by rfl))) (EV.toB bf)))) (EV.toB bf)))) (EV.toB bf)))) (EV.toB bf)))) (ak (ig (i:=4) uv.nd rfl (Or.inl rfl) (di aag (e2_v (ER.toD (di jh (e2_v (ER.toD (di adf (e2_n (pv 4) (gn (pv 4))))) (EV.toB bf)))) (EV.toB bf)))) (ak (ak3 (ER.toD (di aag (e2_v (ER.toD (di jh (e2_v (ER.toD (di adf (e2_n (pv 4) (EV.toB bf)))) (EV.toB bf)))) (EV.toB bf)))) (pv 0) bf) (au (iu (di aag (e2_v (ER.toD (di aox (e2_v (ER.toD (m8 (e2_n (pv 0) (EV.toB bf)) (fun _ _=>by rfl))) (EV.toB bf)))) (gn (pv 1))))))))))
theorem ag8(F:Fun K "_law_house" "_law_house" qi f fd)(T:Txt K mg)(d23:Dd23 P w K mg base):FnOk P w K mg base CX0 2 f fd ["pen","most","doors"] (spOf K 3 f__law_house) :=
 jj F nq rfl rfl fun cdv A outer s H E hr =>
  (ak (ig (i:=3) nq.nd rfl (Or.inr rfl) (di jh (e2_v bf (EV.toB (ER.toD (ji d23 (hr.mono (by decide)) (by rfl) (eg_n (pv 0) (eg_n (pv 1) dj)))))))) (ak (ig (i:=4) nq.nd rfl (Or.inr rfl) (m8 (e2_v (ER.toD (u5 (az bf (az bf (az bf (az bf f9)))))) (EV.toB (ER.toD (ji d23 (hr.mono (by decide)) (by rfl) (eg_n (pv 0) (eg_v bf dj)))))) (fun _ _=>by rfl))) (ak (ig (i:=5) nq.nd rfl (Or.inl rfl) (u5 f9)) (ak (xm PassesOwn.never rfl (uw (by rfl) T.z_range (az (ao (pv 3)) f9)) (bz (i:=6) nq.nd rfl (Or.inl rfl)) (ak (ig (i:=7) nq.nd rfl (Or.inl rfl) (di jh (e2_v bf (EV.toB (ER.toD (ji d23 (hr.mono (by decide)) (by rfl) (eg_n (pv 0) (eg_n (pv 2) dj)))))))) (au (qw (EV.toR (agl vy PySem.F.slot_list_append PySem.F.type_list_append v8 (pv 5) (az (ER.toD (fu j7 (by rfl) T.z_tuple jw (ea_v (ER.toD (my ["pen","many","gates"] ["door","pen","many","gates"] [none,some 0,some 3,some 4] rfl (uw (by rfl) T.z_range (az (ao (pv 7)) f9)) (fun _ _ _=>(bz (i:=0) (show(["door","pen","many","gates"]:List Str).Nodup by decide +kernel) rfl (Or.inl rfl))) (fun _ _ _=>uf) (fun _ _ _=>(ER.toD (di v7 (e2_v (ER.toD (ji d23 (hr.mono (by decide)) (by rfl) (eg_n (pv 1) (eg_v (ER.toD (di jh (e2_n (pv 2) (gn (pv 3))))) dj)))) (gn (pv 3)))))))) bw))) f9))))))) (au (iu (fu j7 (by rfl) T.z_tuple jw (ea_n (pv 5) bw))))))))
theorem aex(F:Fun K "_law_reached" "_law_reached" mj f fd)(T:Txt K mg):FnOk P w K mg base CX0 1 f fd ["house","room"] (spOf K 2 qd) :=
 jj F m5 rfl rfl fun cdv A outer s H E hr =>
  (ak (ig (i:=2) m5.nd rfl (Or.inr rfl) (u5 (az (ao (pv 1)) f9))) (ak (ig (i:=3) m5.nd rfl (Or.inl rfl) (EV.toR bf)) (ak (ace fuel PassesOwn.never (qm aig (e2_n (pv 3) (EV.toB (ER.toD (bj jy (by rfl) T.z_len jz (ea_n (pv 2) bw))))) (m7 _)) (ak (yu (qm ad2 (e2_v (ER.toD (m8 (e2_n (pv 2) (gn (pv 3))) (fun _ _=>by rfl))) (EV.toB bf)) (m7 _)) (au (ig (i:=2) m5.nd rfl (Or.inr rfl) (di jh (e2_n (pv 2) (EV.toB (ER.toD (my ["found"] ["door","found"] [none,some 2] rfl (aat (ER.toD (ajb rfl (by rfl) T.z_sorted aql (by rfl) T.z_set a0l (ea_v (ER.toD (m8 (e2_n (pv 0) (EV.toB (ER.toD (m8 (e2_n (pv 2) (gn (pv 3))) (fun _ _=>by rfl))))) (fun _ _=>by rfl))) bw)))) (fun _ _ _=>(bz (i:=0) (show(["door","found"]:List Str).Nodup by decide +kernel) rfl (Or.inl rfl))) (fun _ _ _=>(afo (qm (aif hr.units) (e2_n (pv 0) (gn (pv 1))) (by with_unfolding_all rfl)))) (fun _ _ _=>(ao (pv 0)))))))))) mq) (au (ig (i:=3) m5.nd rfl (Or.inl rfl) (di jh (e2_n (pv 3) (EV.toB bf))))))) (au (iu (afl (pv 2)))))))
theorem ail(F:Fun K "_law_open" "_law_open" t6 f fd)(T:Txt K mg)(d24:Dd24 P w K mg base)(d25:Dd25 P w K mg base)(d23:Dd23 P w K mg base):FnOk P w K mg base CX0 3 f fd ["pen","most","doors"] (spOf K 3 f__law_open) :=
 jj F xq rfl rfl fun cdv A outer s H E hr =>
  (ak (ig (i:=3) xq.nd rfl (Or.inl rfl) (fu afu (by rfl) T.z_list adu (ea_v (ER.toD (ji d24 (hr.mono (by decide)) (by rfl) (eg_n (pv 0) (eg_n (pv 1) (eg_n (pv 2) dj))))) bw))) (ak (xm PassesOwn.never rfl (uw (by rfl) T.z_range (az (ER.toD (bj jy (by rfl) T.z_len jz (ea_n (pv 3) bw))) f9)) (bz (i:=4) xq.nd rfl (Or.inl rfl)) (au (yu (qm ad2 (e2_v (ER.toD (bj (axb rfl) (by rfl) T.z_min a0m (ea_v (ER.toD (ji d25 (hr.mono (by decide)) (by rfl) (eg_n (pv 3) (eg_v (ao (pv 4)) dj)))) bw))) (EV.toB bf)) (m7 _)) (ak (ig (i:=5) xq.nd rfl (Or.inl rfl) (ji d23 (hr.mono (by decide)) (by rfl) (eg_n (pv 0) (eg_v (ER.toD (bj jy (by rfl) T.z_len jz (ea_v (ER.toD (m8 (e2_n (pv 3) (gn (pv 4))) (fun _ _=>by rfl))) bw))) dj)))) (au (ak3 (ER.toD (di jh (e2_v (ER.toD (di jh (e2_v (ER.toD (aub (ER.toD (m8 (e2_n (pv 3) (gn (pv 4))) (fun _ _=>by rfl))) aho (adt (ao (pv 5))))) (EV.toB (apu (az (ER.toD (di v7 (e2_v (ac2 bf) (EV.toB (ER.toD (ji d23 (hr.mono (by decide)) (by rfl) (eg_n (pv 0) (eg_v bf dj)))))))) f9)))))) (EV.toB (ER.toD (aub (ER.toD (m8 (e2_n (pv 3) (gn (pv 4))) (fun _ _=>by rfl))) (adt (ER.toD (di jh (e2_n (pv 5) (EV.toB bf))))) aho)))))) (pv 3) (ao (pv 4))))) mq))) (au (iu (fu j7 (by rfl) T.z_tuple jw (ea_n (pv 3) bw))))))
theorem ag9(F:Fun K "_law_drawn" "_law_drawn" qj f fd)(T:Txt K mg)(d23:Dd23 P w K mg base):FnOk P w K mg base CX0 2 f fd ["pen","house"] (spOf K 2 f__law_drawn) :=
 jj F agz rfl rfl fun cdv A outer s H E hr =>
  (au (iu (fu j7 (by rfl) T.z_tuple jw (ea_v (ER.toD (my ["pen"] ["room","pen"] [none,some 0] rfl (aat (ao (pv 1))) (fun _ _ _=>(bz (i:=0) (show(["room","pen"]:List Str).Nodup by decide +kernel) rfl (Or.inl rfl))) (fun _ _ _=>uf) (fun _ _ _=>(ER.toD (ji d23 (hr.mono (by decide)) (by rfl) (eg_n (pv 1) (eg_v (ER.toD (bj jy (by rfl) T.z_len jz (ea_n (pv 0) bw))) dj))))))) bw))))
theorem aew(F:Fun K "_law_walkers" "_law_walkers" lu f fd)(T:Txt K mg)(d23:Dd23 P w K mg base):FnOk P w K mg base CX0 2 f fd ["pen","house","most"] (spOf K 3 qb) :=
 jj F aet rfl rfl fun cdv A outer s H E hr =>
  (au (iu (fu j7 (by rfl) T.z_tuple jw (ea_v (ER.toD (my ["pen","most"] ["room","pen","most"] [none,some 0,some 2] rfl (aat (ao (pv 1))) (fun _ _ _=>(bz (i:=0) (show(["room","pen","most"]:List Str).Nodup by decide +kernel) rfl (Or.inl rfl))) (fun _ _ _=>uf) (fun _ _ _=>(ER.toD (bj (aqb rfl) (by rfl) T.z_max aqm (ea_v bf (ea_v (ER.toD (di v7 (e2_v (ER.toD (ji d23 (hr.mono (by decide)) (by rfl) (eg_n (pv 1) (eg_v (ER.toD (di jh (e2_n (pv 2) (EV.toB bf)))) dj)))) (EV.toB bf)))) bw))))))) bw))))
theorem af4(F:Fun K "_law_nobody" "_law_nobody" oh f fd)(T:Txt K mg)(d17:Dd17 P w K mg base):FnOk P w K mg base CX0 6 f fd ["house","some","there","gone"] (spOf K 4 rn) :=
 jj F lr rfl rfl fun cdv A outer s H E hr =>
  (ak (ig (i:=4) lr.nd rfl (Or.inl rfl) (fu afu (by rfl) T.z_list adu (ea_n (pv 2) bw))) (ak (xm PassesOwn.never rfl (ab6 (by rfl) T.z_zip (az (ao (pv 0)) (az (ER.toD (ji d17 (hr.mono (by decide)) (by rfl) (eg_v (ao (pv 0)) (eg_v (ao (pv 1)) (eg_v (ao (pv 3)) dj))))) f9))) (zr rfl (fj (bz (i:=5) lr.nd rfl (Or.inl rfl)) (fj (bz (i:=6) lr.nd rfl (Or.inl rfl)) uc))) (au (xm PassesOwn.never rfl (ab6 (by rfl) T.z_zip (az (ao (pv 5)) (az (ao (pv 6)) f9))) (zr rfl (fj (bz (i:=7) lr.nd rfl (Or.inl rfl)) (fj (bz (i:=8) lr.nd rfl (Or.inl rfl)) uc))) (au (yu (qm ad2 (e2_n (pv 7) (EV.toB bf)) (m7 _)) (au (ak3 (ER.toD (di jh (e2_v (ER.toD (m8 (e2_n (pv 4) (gn (pv 7))) (fun _ _=>by rfl))) (gn (pv 8))))) (pv 4) (ao (pv 7)))) mq))))) (au (iu (ad9 (aih hr.units) (e2_v (ER.toD (fu j7 (by rfl) T.z_tuple jw (ea_n (pv 4) bw))) (gn (pv 3))) (m7 _))))))
theorem adg(F:Fun K "_law_ring_more" "_law_ring_more" j4 f fd)(T:Txt K mg):FnOk P w K mg base CX0 1 f fd ["house","some","gone","start"] (spOf K 4 lq) :=
 jj F nj rfl rfl fun cdv A outer s H E hr =>
  (ak (ig (i:=4) nj.nd rfl (Or.inl rfl) (u5 (az (ao (pv 3)) f9))) (ak (ace fuel PassesOwn.never (EW.pt (a0e (qm ad2 (e2_v (ER.toD (m8 (e2_n (pv 4) (EV.toB (ac2 bf))) (fun _ _=>by rfl))) (EV.toB bf)) (m7 _)) (aw1 (qm (aif hr.units) (e2_v (ER.toD (m8 (e2_n (pv 4) (EV.toB (ac2 bf))) (fun _ _=>by rfl))) (EV.toB (ER.toD (akn (pv 4) aho (adt (ac2 bf)))))) (by with_unfolding_all rfl))))) (ak (ig (i:=5) nj.nd rfl (Or.inl rfl) (m8 (e2_n (pv 0) (EV.toB (ER.toD (m8 (e2_n (pv 4) (EV.toB (ac2 bf))) (fun _ _=>by rfl))))) (fun _ _=>by rfl))) (au (qw (EV.toR (agl vy PySem.F.slot_list_append PySem.F.type_list_append v8 (pv 4) (az (ER.toD (m8 (e2_n (pv 5) (EV.toB (ER.toD (di aag (e2_v (ER.toD (di jh (e2_v (ER.toD (m8 (e2_n (pv 1) (EV.toB (ER.toD (m8 (e2_n (pv 4) (EV.toB (ac2 bf))) (fun _ _=>by rfl))))) (fun _ _=>by rfl))) (EV.toB (ER.toD (m8 (e2_n (pv 2) (EV.toB (ER.toD (m8 (e2_n (pv 4) (EV.toB (ac2 bf))) (fun _ _=>by rfl))))) (fun _ _=>by rfl))))))) (EV.toB (ER.toD (bj jy (by rfl) T.z_len jz (ea_n (pv 5) bw))))))))) (fun _ _=>by rfl))) f9))))))) (ak (ig (i:=6) nj.nd rfl (Or.inr rfl) (akn (pv 4) (adt (ER.toD (di jh (e2_v (aw2 PySem.F.slot_list_index PySem.F.type_list_index (asa hr.units) (pv 4) (az (ER.toD (m8 (e2_n (pv 4) (EV.toB (ac2 bf))) (fun _ _=>by rfl))) f9)) (EV.toB bf))))) aho)) (au (iu (fu j7 (by rfl) T.z_tuple jw (ea_v (ER.toD (my ["ring"] ["at","one","ring"] [none,none,some 6] rfl (apc (by rfl) T.z_enumerate (az (ao (pv 2)) f9)) (fun _ _ _=>(zr rfl (fj (bz (i:=0) (show(["at","one","ring"]:List Str).Nodup by decide +kernel) rfl (Or.inl rfl)) (fj (bz (i:=1) (show(["at","one","ring"]:List Str).Nodup by decide +kernel) rfl (Or.inl rfl)) uc)))) (fun _ _ _=>uf) (fun _ _ _=>(ER.toD (di jh (e2_n (pv 1) (EV.toB (ER.toD (fu auh (by rfl) T.z_int aqn (ea_v (ER.toD (ad9 (aow hr.units) (e2_n (pv 0) (gn (pv 2))) (by with_unfolding_all rfl))) bw)))))))))) bw)))))))
theorem ay6(F:Fun K "law" "law" ag1 f fd)(T:Txt K mg)(d21:Dd21 P w K mg base)(d22:Dd22 P w K mg base)(d23:Dd23 P w K mg base)(d26:Dd26 P w K mg base)(d27:Dd27 P w K mg base)(d28:Dd28 P w K mg base)(d16:Dd16 P w K mg base)(d30:Dd30 P w K mg base)(d29:Dd29 P w K mg base)(d20:Dd20 P w K mg base):FnOk P w K mg base CX0 7 f fd ["script"] (spOf K 1 apt) :=
 jj F aar rfl rfl fun cdv A outer s H E hr =>
  (ak (xm PassesOwn.never rfl (aat (ER.toD (di jh (e2_v (ER.toD (u5 (az (ER.toD (ji d21 (hr.mono (by decide)) (by rfl) (eg_n (pv 0) (eg_v bf dj)))) f9))) (EV.toB (ER.toD (akn (pv 0) (adt bf) (adt bf)))))))) (bz (i:=1) aar.nd rfl (Or.inl rfl)) (ak (ig (i:=2) aar.nd rfl (Or.inr rfl) (ji d22 (hr.mono (by decide)) (by rfl) (eg_n (pv 1) dj))) (ak (ig (i:=3) aar.nd rfl (Or.inl rfl) (ji d26 (hr.mono (by decide)) (by rfl) (eg_n (pv 2) (eg_v bf (eg_v (ER.toD (m8 (e2_v (ER.toD (u5 (az bf (az bf (az bf f9))))) (EV.toB (ER.toD (ji d23 (hr.mono (by decide)) (by rfl) (eg_n (pv 2) (eg_v bf dj)))))) (fun _ _=>by rfl))) dj))))) (ak (ax2 (i:=4) (j:=5) rfl aar.nd rfl rfl (by decide) rfl rfl (az (ER.toD (ji d27 (hr.mono (by decide)) (by rfl) (eg_n (pv 2) (eg_v (ao (pv 3)) dj)))) (az (ER.toD (ji d28 (hr.mono (by decide)) (by rfl) (eg_n (pv 2) (eg_v (ao (pv 3)) (eg_v bf dj))))) f9))) (ak (ig (i:=6) aar.nd rfl (Or.inr rfl) (m8 (e2_v (ER.toD (ji d16 (hr.mono (by decide)) (by rfl) (eg_v (ao (pv 3)) (eg_v (ao (pv 4)) (eg_v (ao (pv 5)) dj))))) (EV.toB bf)) (fun _ _=>by rfl))) (ak (ig (i:=7) aar.nd rfl (Or.inl rfl) (u5 f9)) (ak (ig (i:=8) aar.nd rfl (Or.inl rfl) (EV.toR (ao (pv 6)))) (ak (xm PassesOwn.never rfl (uw (by rfl) T.z_range (az bf f9)) (bz (i:=9) aar.nd rfl (Or.inl rfl)) (ak (ig (i:=8) aar.nd rfl (Or.inl rfl) (ji d30 (hr.mono (by decide)) (by rfl) (eg_n (pv 3) (eg_n (pv 4) (eg_v (ao (pv 8)) (eg_v (ER.toD (ji d23 (hr.mono (by decide)) (by rfl) (eg_n (pv 2) (eg_v (ER.toD (bj jy (by rfl) T.z_len jz (ea_n (pv 3) bw))) dj)))) dj)))))) (au (qw (EV.toR (agl vy PySem.F.slot_list_append PySem.F.type_list_append v8 (pv 7) (az (ao (pv 8)) f9))))))) (ak (xm PassesOwn.never rfl (uw (by rfl) T.z_range (az bf f9)) (bz (i:=9) aar.nd rfl (Or.inl rfl)) (au (qw (EV.toR (agl vy PySem.F.slot_list_append PySem.F.type_list_append v8 (pv 7) (az (ER.toD (fu j7 (by rfl) T.z_tuple jw (ea_v (ER.toD (my ["pen"] ["one","pen"] [none,some 2] rfl (aat (ao (pv 6))) (fun _ _ _=>(bz (i:=0) (show(["one","pen"]:List Str).Nodup by decide +kernel) rfl (Or.inl rfl))) (fun _ _ _=>uf) (fun _ _ _=>(ER.toD (bj (aqb rfl) (by rfl) T.z_max aqm (ea_v bf (ea_v (ER.toD (di v7 (e2_v (ER.toD (di jh (e2_n (pv 0) (EV.toB (ER.toD (ji d23 (hr.mono (by decide)) (by rfl) (eg_n (pv 1) (eg_v bf dj)))))))) (EV.toB bf)))) bw))))))) bw))) f9)))))) (au (xm PassesOwn.never rfl (aat (ER.toD (di jh (e2_n (pv 7) (EV.toB (ER.toD (u5 (az (ao (pv 6)) (az (ao (pv 5)) (az (ER.toD (fu j7 (by rfl) T.z_tuple jw (ea_v (ER.toD (my [] ["room"] [none] rfl (aat (ao (pv 3))) (fun _ _ _=>(bz (i:=0) (show(["room"]:List Str).Nodup by decide +kernel) rfl (Or.inl rfl))) (fun _ _ _=>uf) (fun _ _ _=>bf))) bw))) f9)))))))))) (bz (i:=10) aar.nd rfl (Or.inr rfl)) (ak (yu (aa3 (ER.toD (ji d29 (hr.mono (by decide)) (by rfl) (eg_v (ao (pv 3)) (eg_v (ao (pv 4)) (eg_n (pv 5) (eg_v (ao (pv 10)) dj))))))) (au (yu (qm (aov hr.units) (e2_v (ER.toD (my ["row","gone"] ["at","row","gone"] [none,some 10,some 6] rfl (uw (by rfl) T.z_range (az (ER.toD (bj jy (by rfl) T.z_len jz (ea_n (pv 3) bw))) f9)) (fun _ _ _=>(bz (i:=0) (show(["at","row","gone"]:List Str).Nodup by decide +kernel) rfl (Or.inl rfl))) (fun _ _ _=>(afo (qm aig (e2_v (ER.toD (m8 (e2_n (pv 1) (gn (pv 0))) (fun _ _=>by rfl))) (EV.toB (ER.toD (m8 (e2_n (pv 2) (gn (pv 0))) (fun _ _=>by rfl))))) (m7 _)))) (fun _ _ _=>(ao (pv 0))))) (EV.toB (ER.toD (u5 f9)))) (m7 _)) (au (iu (EV.toR ahm))) mq)) (au (yu (aa3 (ER.toD (ji d20 (hr.mono (by decide)) (by rfl) (eg_v (ao (pv 3)) (eg_v (ao (pv 4)) (eg_v (ao (pv 5)) (eg_v (ao (pv 10)) dj))))))) (au (iu (EV.toR ahm))) mq))) (au (yu (qm (aov hr.units) (e2_v (ER.toD (ji d20 (hr.mono (by decide)) (by rfl) (eg_v (ao (pv 3)) (eg_v (ao (pv 4)) (eg_v (ao (pv 5)) (eg_v (ao (pv 10)) dj)))))) (EV.toB (ER.toD (ad9 (aih hr.units) (e2_n (pv 10) (gn (pv 6))) (m7 _))))) (m7 _)) (au (iu (EV.toR ahm))) mq)))))))))))))) (au (iu (EV.toR ahm))))
end
theorem a0s{l:PySem.W.OpenLaw}{w:World}{K:Fg9}{h:Heap}{mg:Str->Option Value}{fa f0' f1' f2' f3' f4' f5' f6' f7' f8' f9' f10' f11' f12' f13' f14' f15' f16' f17' f18' f19' f20' f21' f22' f23' f24' f25' f26' f27' f28' f29' f30' f31' f32' f33':Addr}(X:K.In h)(G:h.Ns mainGlobals mg)(hfa:mg "law" = some (.ref fa))
  {od0 an0 od1 an1 od2 an2 od3 an3 od4 an4 od5 an5 od6 an6 od7 an7 od8 an8 od9 an9 od10 an10 od11 an11 od12 an12 od13 an13 od14 an14 od15 an15 od16 an16 od17 an17 od18 an18 od19 an19 od20 an20 od21 an21 od22 an22 od23 an23 od24 an24 od25 an25 od26 an26 od27 an27 od28 an28 od29 an29 od30 an30 od31 an31 od32 an32 od33 an33:Option Addr} {sl0 sl1 sl2 sl3 sl4 sl5 sl6 sl7 sl8 sl9 sl10 sl11 sl12 sl13 sl14 sl15 sl16 sl17 sl18 sl19 sl20 sl21 sl22 sl23 sl24 sl25 sl26 sl27 sl28 sl29 sl30 sl31 sl32 sl33:Array (Option Value)} {oc0 kV0 dc0 pm0 cd0 ct0 oc1 kV1 dc1 pm1 cd1 ct1 oc2 kV2 dc2 pm2 cd2 ct2 oc3 kV3 dc3 pm3 cd3 ct3 oc4 kV4 dc4 pm4 cd4 ct4 oc5 kV5 dc5 pm5 cd5 ct5 oc6 kV6 dc6 pm6 cd6 ct6 oc7 kV7 dc7 pm7 cd7 ct7 oc8 kV8 dc8 pm8 cd8 ct8 oc9 kV9 dc9 pm9 cd9 ct9 oc10 kV10 dc10 pm10 cd10 ct10 oc11 kV11 dc11 pm11 cd11 ct11 oc12 kV12 dc12 pm12 cd12 ct12 oc13 kV13 dc13 pm13 cd13 ct13 oc14 kV14 dc14 pm14 cd14 ct14 oc15 kV15 dc15 pm15 cd15 ct15 oc16 kV16 dc16 pm16 cd16 ct16 oc17 kV17 dc17 pm17 cd17 ct17 oc18 kV18 dc18 pm18 cd18 ct18 oc19 kV19 dc19 pm19 cd19 ct19 oc20 kV20 dc20 pm20 cd20 ct20 oc21 kV21 dc21 pm21 cd21 ct21 oc22 kV22 dc22 pm22 cd22 ct22 oc23 kV23 dc23 pm23 cd23 ct23 oc24 kV24 dc24 pm24 cd24 ct24 oc25 kV25 dc25 pm25 cd25 ct25 oc26 kV26 dc26 pm26 cd26 ct26 oc27 kV27 dc27 pm27 cd27 ct27 oc28 kV28 dc28 pm28 cd28 ct28 oc29 kV29 dc29 pm29 cd29 ct29 oc30 kV30 dc30 pm30 cd30 ct30 oc31 kV31 dc31 pm31 cd31 ct31 oc32 kV32 dc32 pm32 cd32 ct32 oc33 kV33 dc33 pm33 cd33 ct33:Value}
  {tk_GATES_MANY tk_MOST_WALKERS:Tok}
  {B_Crowd:Addr} (aB_Crowd:nsIn K mainGlobals "Crowd" = some (some (.ref B_Crowd))) (e_B_Crowd:boxB K B_Crowd ["house","turning","standing","gone","left"]=true)
  (a0:nsIn K mainGlobals "is_whole" = some (some (.ref f0'))) (l0:K.lookup f0'=some ⟨oc0,od0,.func (fnOf "is_whole" "is_whole" (dq vp) (cz vp) (aj vp) .none kV0 dc0 pm0 an0 cd0 ct0),sl0⟩) (c0:codeIn K cd0 "is_whole" = true) (k0:keepIn K (.ref f0')=true)
  (a1:nsIn K mainGlobals "is_whole_within" = some (some (.ref f1'))) (l1:K.lookup f1'=some ⟨oc1,od1,.func (fnOf "is_whole_within" "is_whole_within" (dq jm) (cz jm) (aj jm) .none kV1 dc1 pm1 an1 cd1 ct1),sl1⟩) (c1:codeIn K cd1 "is_whole_within" = true) (k1:keepIn K (.ref f1')=true)
  (a2:nsIn K mainGlobals "is_tuple_within" = some (some (.ref f2'))) (l2:K.lookup f2'=some ⟨oc2,od2,.func (fnOf "is_tuple_within" "is_tuple_within" (dq jn) (cz jn) (aj jn) .none kV2 dc2 pm2 an2 cd2 ct2),sl2⟩) (c2:codeIn K cd2 "is_tuple_within" = true) (k2:keepIn K (.ref f2')=true)
  (a3:nsIn K mainGlobals "trap" = some (some (.ref f3'))) (l3:K.lookup f3'=some ⟨oc3,od3,.func (fnOf "trap" "trap" (dq agb) (cz agb) (aj agb) .none kV3 dc3 pm3 an3 cd3 ct3),sl3⟩) (c3:codeIn K cd3 "trap" = true) (k3:keepIn K (.ref f3')=true)
  (a4:nsIn K mainGlobals "refuse_not_open" = some (some (.ref f4'))) (l4:K.lookup f4'=some ⟨oc4,od4,.func (fnOf "refuse_not_open" "refuse_not_open" (dq jk) (cz jk) (aj jk) .none kV4 dc4 pm4 an4 cd4 ct4),sl4⟩) (c4:codeIn K cd4 "refuse_not_open" = true) (k4:keepIn K (.ref f4')=true)
  (a5:nsIn K mainGlobals "is_arrows" = some (some (.ref f5'))) (l5:K.lookup f5'=some ⟨oc5,od5,.func (fnOf "is_arrows" "is_arrows" (dq tu) (cz tu) (aj tu) .none kV5 dc5 pm5 an5 cd5 ct5),sl5⟩) (c5:codeIn K cd5 "is_arrows" = true) (k5:keepIn K (.ref f5')=true)
  (a6:nsIn K mainGlobals "refuse_no_arrows" = some (some (.ref f6'))) (l6:K.lookup f6'=some ⟨oc6,od6,.func (fnOf "refuse_no_arrows" "refuse_no_arrows" (dq jf) (cz jf) (aj jf) .none kV6 dc6 pm6 an6 cd6 ct6),sl6⟩) (c6:codeIn K cd6 "refuse_no_arrows" = true) (k6:keepIn K (.ref f6')=true)
  (a7:nsIn K mainGlobals "turned_by" = some (some (.ref f7'))) (l7:K.lookup f7'=some ⟨oc7,od7,.func (fnOf "turned_by" "turned_by" (dq su) (cz su) (aj su) .none kV7 dc7 pm7 an7 cd7 ct7),sl7⟩) (c7:codeIn K cd7 "turned_by" = true) (k7:keepIn K (.ref f7')=true)
  (a8:nsIn K mainGlobals "last_ways" = some (some (.ref f8'))) (l8:K.lookup f8'=some ⟨oc8,od8,.func (fnOf "last_ways" "last_ways" (dq sy) (cz sy) (aj sy) .none kV8 dc8 pm8 an8 cd8 ct8),sl8⟩) (c8:codeIn K cd8 "last_ways" = true) (k8:keepIn K (.ref f8')=true)
  (a9:nsIn K mainGlobals "going_round" = some (some (.ref f9'))) (l9:K.lookup f9'=some ⟨oc9,od9,.func (fnOf "going_round" "going_round" (dq n8) (cz n8) (aj n8) .none kV9 dc9 pm9 an9 cd9 ct9),sl9⟩) (c9:codeIn K cd9 "going_round" = true) (k9:keepIn K (.ref f9')=true)
  (a10:nsIn K mainGlobals "is_walkers" = some (some (.ref f10'))) (l10:K.lookup f10'=some ⟨oc10,od10,.func (fnOf "is_walkers" "is_walkers" (dq qe) (cz qe) (aj qe) .none kV10 dc10 pm10 an10 cd10 ct10),sl10⟩) (c10:codeIn K cd10 "is_walkers" = true) (k10:keepIn K (.ref f10')=true)
  (a11:nsIn K mainGlobals "refuse_no_walkers" = some (some (.ref f11'))) (l11:K.lookup f11'=some ⟨oc11,od11,.func (fnOf "refuse_no_walkers" "refuse_no_walkers" (dq jd) (cz jd) (aj jd) .none kV11 dc11 pm11 an11 cd11 ct11),sl11⟩) (c11:codeIn K cd11 "refuse_no_walkers" = true) (k11:keepIn K (.ref f11')=true)
  (a12:nsIn K mainGlobals "uses_of" = some (some (.ref f12'))) (l12:K.lookup f12'=some ⟨oc12,od12,.func (fnOf "uses_of" "uses_of" (dq yw) (cz yw) (aj yw) .none kV12 dc12 pm12 an12 cd12 ct12),sl12⟩) (c12:codeIn K cd12 "uses_of" = true) (k12:keepIn K (.ref f12')=true)
  (a13:nsIn K mainGlobals "uses_of_all" = some (some (.ref f13'))) (l13:K.lookup f13'=some ⟨oc13,od13,.func (fnOf "uses_of_all" "uses_of_all" (dq nu) (cz nu) (aj nu) .none kV13 dc13 pm13 an13 cd13 ct13),sl13⟩) (c13:codeIn K cd13 "uses_of_all" = true) (k13:keepIn K (.ref f13')=true)
  (a14:nsIn K mainGlobals "rest_of" = some (some (.ref f14'))) (l14:K.lookup f14'=some ⟨oc14,od14,.func (fnOf "rest_of" "rest_of" (dq yx) (cz yx) (aj yx) .none kV14 dc14 pm14 an14 cd14 ct14),sl14⟩) (c14:codeIn K cd14 "rest_of" = true) (k14:keepIn K (.ref f14')=true)
  (a15:nsIn K mainGlobals "refuse_no_crowd" = some (some (.ref f15'))) (l15:K.lookup f15'=some ⟨oc15,od15,.func (fnOf "refuse_no_crowd" "refuse_no_crowd" (dq jl) (cz jl) (aj jl) .none kV15 dc15 pm15 an15 cd15 ct15),sl15⟩) (c15:codeIn K cd15 "refuse_no_crowd" = true) (k15:keepIn K (.ref f15')=true)
  (a16:nsIn K mainGlobals "rest" = some (some (.ref f16'))) (l16:K.lookup f16'=some ⟨oc16,od16,.func (fnOf "rest" "rest" (dq agc) (cz agc) (aj agc) .none kV16 dc16 pm16 an16 cd16 ct16),sl16⟩) (c16:codeIn K cd16 "rest" = true) (k16:keepIn K (.ref f16')=true)
  (a17:nsIn K mainGlobals "doors_used" = some (some (.ref f17'))) (l17:K.lookup f17'=some ⟨oc17,od17,.func (fnOf "doors_used" "doors_used" (dq qg) (cz qg) (aj qg) .none kV17 dc17 pm17 an17 cd17 ct17),sl17⟩) (c17:codeIn K cd17 "doors_used" = true) (k17:keepIn K (.ref f17')=true)
  (a18:nsIn K mainGlobals "is_leavings" = some (some (.ref f18'))) (l18:K.lookup f18'=some ⟨oc18,od18,.func (fnOf "is_leavings" "is_leavings" (dq n6) (cz n6) (aj n6) .none kV18 dc18 pm18 an18 cd18 ct18),sl18⟩) (c18:codeIn K cd18 "is_leavings" = true) (k18:keepIn K (.ref f18')=true)
  (a19:nsIn K mainGlobals "come_by" = some (some (.ref f19'))) (l19:K.lookup f19'=some ⟨oc19,od19,.func (fnOf "come_by" "come_by" (dq za) (cz za) (aj za) .none kV19 dc19 pm19 an19 cd19 ct19),sl19⟩) (c19:codeIn K cd19 "come_by" = true) (k19:keepIn K (.ref f19')=true)
  (a20:nsIn K mainGlobals "is_rest" = some (some (.ref f20'))) (l20:K.lookup f20'=some ⟨oc20,od20,.func (fnOf "is_rest" "is_rest" (dq yz) (cz yz) (aj yz) .none kV20 dc20 pm20 an20 cd20 ct20),sl20⟩) (c20:codeIn K cd20 "is_rest" = true) (k20:keepIn K (.ref f20')=true)
  (a21:nsIn K mainGlobals "_law_cell" = some (some (.ref f21'))) (l21:K.lookup f21'=some ⟨oc21,od21,.func (fnOf "_law_cell" "_law_cell" (dq t8) (cz t8) (aj t8) .none kV21 dc21 pm21 an21 cd21 ct21),sl21⟩) (c21:codeIn K cd21 "_law_cell" = true) (k21:keepIn K (.ref f21')=true)
  (a22:nsIn K mainGlobals "_law_pen" = some (some (.ref f22'))) (l22:K.lookup f22'=some ⟨oc22,od22,.func (fnOf "_law_pen" "_law_pen" (dq vq) (cz vq) (aj vq) .none kV22 dc22 pm22 an22 cd22 ct22),sl22⟩) (c22:codeIn K cd22 "_law_pen" = true) (k22:keepIn K (.ref f22')=true)
  (a23:nsIn K mainGlobals "_law_draw" = some (some (.ref f23'))) (l23:K.lookup f23'=some ⟨oc23,od23,.func (fnOf "_law_draw" "_law_draw" (dq t7) (cz t7) (aj t7) .none kV23 dc23 pm23 an23 cd23 ct23),sl23⟩) (c23:codeIn K cd23 "_law_draw" = true) (k23:keepIn K (.ref f23')=true)
  (a24:nsIn K mainGlobals "_law_house" = some (some (.ref f24'))) (l24:K.lookup f24'=some ⟨oc24,od24,.func (fnOf "_law_house" "_law_house" (dq qi) (cz qi) (aj qi) .none kV24 dc24 pm24 an24 cd24 ct24),sl24⟩) (c24:codeIn K cd24 "_law_house" = true) (k24:keepIn K (.ref f24')=true)
  (a25:nsIn K mainGlobals "_law_reached" = some (some (.ref f25'))) (l25:K.lookup f25'=some ⟨oc25,od25,.func (fnOf "_law_reached" "_law_reached" (dq mj) (cz mj) (aj mj) .none kV25 dc25 pm25 an25 cd25 ct25),sl25⟩) (c25:codeIn K cd25 "_law_reached" = true) (k25:keepIn K (.ref f25')=true)
  (a26:nsIn K mainGlobals "_law_open" = some (some (.ref f26'))) (l26:K.lookup f26'=some ⟨oc26,od26,.func (fnOf "_law_open" "_law_open" (dq t6) (cz t6) (aj t6) .none kV26 dc26 pm26 an26 cd26 ct26),sl26⟩) (c26:codeIn K cd26 "_law_open" = true) (k26:keepIn K (.ref f26')=true)
  (a27:nsIn K mainGlobals "_law_drawn" = some (some (.ref f27'))) (l27:K.lookup f27'=some ⟨oc27,od27,.func (fnOf "_law_drawn" "_law_drawn" (dq qj) (cz qj) (aj qj) .none kV27 dc27 pm27 an27 cd27 ct27),sl27⟩) (c27:codeIn K cd27 "_law_drawn" = true) (k27:keepIn K (.ref f27')=true)
  (a28:nsIn K mainGlobals "_law_walkers" = some (some (.ref f28'))) (l28:K.lookup f28'=some ⟨oc28,od28,.func (fnOf "_law_walkers" "_law_walkers" (dq lu) (cz lu) (aj lu) .none kV28 dc28 pm28 an28 cd28 ct28),sl28⟩) (c28:codeIn K cd28 "_law_walkers" = true) (k28:keepIn K (.ref f28')=true)
  (a29:nsIn K mainGlobals "_law_nobody" = some (some (.ref f29'))) (l29:K.lookup f29'=some ⟨oc29,od29,.func (fnOf "_law_nobody" "_law_nobody" (dq oh) (cz oh) (aj oh) .none kV29 dc29 pm29 an29 cd29 ct29),sl29⟩) (c29:codeIn K cd29 "_law_nobody" = true) (k29:keepIn K (.ref f29')=true)
  (a30:nsIn K mainGlobals "_law_ring_more" = some (some (.ref f30'))) (l30:K.lookup f30'=some ⟨oc30,od30,.func (fnOf "_law_ring_more" "_law_ring_more" (dq j4) (cz j4) (aj j4) .none kV30 dc30 pm30 an30 cd30 ct30),sl30⟩) (c30:codeIn K cd30 "_law_ring_more" = true) (k30:keepIn K (.ref f30')=true)
  (a31:nsIn K mainGlobals "law" = some (some (.ref f31'))) (l31:K.lookup f31'=some ⟨oc31,od31,.func (fnOf "law" "law" (dq ag1) (cz ag1) (aj ag1) .none kV31 dc31 pm31 an31 cd31 ct31),sl31⟩) (c31:codeIn K cd31 "law" = true) (k31:keepIn K (.ref f31')=true)
  (a32:findIn K (.ref B_Crowd) "__init__" = some (some (.ref f32'))) (l32:K.lookup f32'=some ⟨oc32,od32,.func (fnOf "__init__" "Crowd.__init__" (dq ql) (cz ql) (aj ql) .none kV32 dc32 pm32 an32 cd32 ct32),sl32⟩) (c32:codeIn K cd32 "Crowd.__init__" = true) (k32:keepIn K (.ref f32')=true) (e_F_Crowd_init:PySem.W.isFn K (.ref f32')=true)
  (a33:findIn K (.ref B_Crowd) "let_leave" = some (some (.ref f33'))) (l33:K.lookup f33'=some ⟨oc33,od33,.func (fnOf "let_leave" "Crowd.let_leave" (dq jo) (cz jo) (aj jo) .none kV33 dc33 pm33 an33 cd33 ct33),sl33⟩) (c33:codeIn K cd33 "Crowd.let_leave" = true) (k33:keepIn K (.ref f33')=true) (e_F_Crowd_let_leave:PySem.W.isFn K (.ref f33')=true)
  (g_GATES_MANY:nsIn K mainGlobals "GATES_MANY" = some (some (.int 3 tk_GATES_MANY)))
  (g_MOST_WALKERS:nsIn K mainGlobals "MOST_WALKERS" = some (some (.int 100 tk_MOST_WALKERS)))
  (y_all:nsIn K mainGlobals "all" = some none)
  (y_any:nsIn K mainGlobals "any" = some none)
  (y_bool:nsIn K mainGlobals "bool" = some none)
  (y_divmod:nsIn K mainGlobals "divmod" = some none)
  (y_enumerate:nsIn K mainGlobals "enumerate" = some none)
  (y_int:nsIn K mainGlobals "int" = some none)
  (y_isinstance:nsIn K mainGlobals "isinstance" = some none)
  (y_len:nsIn K mainGlobals "len" = some none)
  (y_list:nsIn K mainGlobals "list" = some none)
  (y_max:nsIn K mainGlobals "max" = some none)
  (y_min:nsIn K mainGlobals "min" = some none)
  (y_range:nsIn K mainGlobals "range" = some none)
  (y_set:nsIn K mainGlobals "set" = some none)
  (y_sorted:nsIn K mainGlobals "sorted" = some none)
  (y_tuple:nsIn K mainGlobals "tuple" = some none)
  (y_zip:nsIn K mainGlobals "zip" = some none)
  : ∃fd:FuncData,(∀(s:Shared) (v:Value),BindsTo s fd ⟨[v],[]⟩ [("script", v)])/\∀base:Heap,K.In base->base.Ns mainGlobals mg->FnOk l.prog w K mg base CX0 7 fa fd ["script"] (spOf K 1 apt):=by
 have e:=hfa.symm.trans (mg_of X G a31);cases e;have T:Txt K mg:=⟨⟨_,mg_of X G g_GATES_MANY⟩,⟨_,mg_of X G g_MOST_WALKERS⟩,mg_none_of X G y_all,mg_none_of X G y_any,mg_none_of X G y_bool,mg_none_of X G y_divmod,mg_none_of X G y_enumerate,mg_none_of X G y_int,mg_none_of X G y_isinstance,mg_none_of X G y_len,mg_none_of X G y_list,mg_none_of X G y_max,mg_none_of X G y_min,mg_none_of X G y_range,mg_none_of X G y_set,mg_none_of X G y_sorted,mg_none_of X G y_tuple,mg_none_of X G y_zip,afj aB_Crowd e_B_Crowd (by decide +kernel),afj aB_Crowd e_B_Crowd (by decide +kernel),afj aB_Crowd e_B_Crowd (by decide +kernel),afj aB_Crowd e_B_Crowd (by decide +kernel),afj aB_Crowd e_B_Crowd (by decide +kernel)⟩
 have F0:=jg (st:=vp) l0 c0 k0;have b0:=F0.binds (ps:=["thing"]) fun _ _ _ _ _ _ us hl=>by obtain⟨_,rfl⟩:=ln1 hl;rfl
 have F1:=jg (st:=jm) l1 c1 k1;have b1:=F1.binds (ps:=["thing","least","most"]) fun _ _ _ _ _ _ us hl=>by obtain⟨_,_,_,rfl⟩:=ln3 hl;rfl
 have F2:=jg (st:=jn) l2 c2 k2;have b2:=F2.binds (ps:=["thing","least","most"]) fun _ _ _ _ _ _ us hl=>by obtain⟨_,_,_,rfl⟩:=ln3 hl;rfl
 have F3:=jg (st:=agb) l3 c3 k3;have b3:=F3.binds (ps:=["house"]) fun _ _ _ _ _ _ us hl=>by obtain⟨_,rfl⟩:=ln1 hl;rfl
 have F4:=jg (st:=jk) l4 c4 k4;have b4:=F4.binds (ps:=["house"]) fun _ _ _ _ _ _ us hl=>by obtain⟨_,rfl⟩:=ln1 hl;rfl
 have F5:=jg (st:=tu) l5 c5 k5;have b5:=F5.binds (ps:=["house","thing"]) fun _ _ _ _ _ _ us hl=>by obtain⟨_,_,rfl⟩:=ln2 hl;rfl
 have F6:=jg (st:=jf) l6 c6 k6;have b6:=F6.binds (ps:=["house","thing"]) fun _ _ _ _ _ _ us hl=>by obtain⟨_,_,rfl⟩:=ln2 hl;rfl
 have F7:=jg (st:=su) l7 c7 k7;have b7:=F7.binds (ps:=["house","arrows","turns"]) fun _ _ _ _ _ _ us hl=>by obtain⟨_,_,_,rfl⟩:=ln3 hl;rfl
 have F8:=jg (st:=sy) l8 c8 k8;have b8:=F8.binds (ps:=["house","arrows"]) fun _ _ _ _ _ _ us hl=>by obtain⟨_,_,rfl⟩:=ln2 hl;rfl
 have F9:=jg (st:=n8) l9 c9 k9;have b9:=F9.binds (ps:=["last","rooms"]) fun _ _ _ _ _ _ us hl=>by obtain⟨_,_,rfl⟩:=ln2 hl;rfl
 have F10:=jg (st:=qe) l10 c10 k10;have b10:=F10.binds (ps:=["house","thing","most"]) fun _ _ _ _ _ _ us hl=>by obtain⟨_,_,_,rfl⟩:=ln3 hl;rfl
 have F11:=jg (st:=jd) l11 c11 k11;have b11:=F11.binds (ps:=["house","thing"]) fun _ _ _ _ _ _ us hl=>by obtain⟨_,_,rfl⟩:=ln2 hl;rfl
 have F12:=jg (st:=yw) l12 c12 k12;have b12:=F12.binds (ps:=["doors_many","arrow","leavings"]) fun _ _ _ _ _ _ us hl=>by obtain⟨_,_,_,rfl⟩:=ln3 hl;rfl
 have F13:=jg (st:=nu) l13 c13 k13;have b13:=F13.binds (ps:=["house","arrows","leavings"]) fun _ _ _ _ _ _ us hl=>by obtain⟨_,_,_,rfl⟩:=ln3 hl;rfl
 have F14:=jg (st:=yx) l14 c14 k14;have b14:=F14.binds (ps:=["house","arrows","walkers"]) fun _ _ _ _ _ _ us hl=>by obtain⟨_,_,_,rfl⟩:=ln3 hl;rfl
 have F15:=jg (st:=jl) l15 c15 k15;have b15:=F15.binds (ps:=["house","arrows","walkers"]) fun _ _ _ _ _ _ us hl=>by obtain⟨_,_,_,rfl⟩:=ln3 hl;rfl
 have F16:=jg (st:=agc) l16 c16 k16;have b16:=F16.binds (ps:=["house","arrows","walkers"]) fun _ _ _ _ _ _ us hl=>by obtain⟨_,_,_,rfl⟩:=ln3 hl;rfl
 have F17:=jg (st:=qg) l17 c17 k17;have b17:=F17.binds (ps:=["house","arrows","leavings"]) fun _ _ _ _ _ _ us hl=>by obtain⟨_,_,_,rfl⟩:=ln3 hl;rfl
 have F18:=jg (st:=n6) l18 c18 k18;have b18:=F18.binds (ps:=["house","thing"]) fun _ _ _ _ _ _ us hl=>by obtain⟨_,_,rfl⟩:=ln2 hl;rfl
 have F19:=jg (st:=za) l19 c19 k19;have b19:=F19.binds (ps:=["house","uses"]) fun _ _ _ _ _ _ us hl=>by obtain⟨_,_,rfl⟩:=ln2 hl;rfl
 have F20:=jg (st:=yz) l20 c20 k20;have b20:=F20.binds (ps:=["house","arrows","walkers","thing"]) fun _ _ _ _ _ _ us hl=>by obtain⟨_,_,_,_,rfl⟩:=ln4 hl;rfl
 have F21:=jg (st:=t8) l21 c21 k21;have b21:=F21.binds (ps:=["script","k"]) fun _ _ _ _ _ _ us hl=>by obtain⟨_,_,rfl⟩:=ln2 hl;rfl
 have F22:=jg (st:=vq) l22 c22 k22;have b22:=F22.binds (ps:=["cell"]) fun _ _ _ _ _ _ us hl=>by obtain⟨_,rfl⟩:=ln1 hl;rfl
 have F23:=jg (st:=t7) l23 c23 k23;have b23:=F23.binds (ps:=["pen","many"]) fun _ _ _ _ _ _ us hl=>by obtain⟨_,_,rfl⟩:=ln2 hl;rfl
 have F24:=jg (st:=qi) l24 c24 k24;have b24:=F24.binds (ps:=["pen","most","doors"]) fun _ _ _ _ _ _ us hl=>by obtain⟨_,_,_,rfl⟩:=ln3 hl;rfl
 have F25:=jg (st:=mj) l25 c25 k25;have b25:=F25.binds (ps:=["house","room"]) fun _ _ _ _ _ _ us hl=>by obtain⟨_,_,rfl⟩:=ln2 hl;rfl
 have F26:=jg (st:=t6) l26 c26 k26;have b26:=F26.binds (ps:=["pen","most","doors"]) fun _ _ _ _ _ _ us hl=>by obtain⟨_,_,_,rfl⟩:=ln3 hl;rfl
 have F27:=jg (st:=qj) l27 c27 k27;have b27:=F27.binds (ps:=["pen","house"]) fun _ _ _ _ _ _ us hl=>by obtain⟨_,_,rfl⟩:=ln2 hl;rfl
 have F28:=jg (st:=lu) l28 c28 k28;have b28:=F28.binds (ps:=["pen","house","most"]) fun _ _ _ _ _ _ us hl=>by obtain⟨_,_,_,rfl⟩:=ln3 hl;rfl
 have F29:=jg (st:=oh) l29 c29 k29;have b29:=F29.binds (ps:=["house","some","there","gone"]) fun _ _ _ _ _ _ us hl=>by obtain⟨_,_,_,_,rfl⟩:=ln4 hl;rfl
 have F30:=jg (st:=j4) l30 c30 k30;have b30:=F30.binds (ps:=["house","some","gone","start"]) fun _ _ _ _ _ _ us hl=>by obtain⟨_,_,_,_,rfl⟩:=ln4 hl;rfl
 have F31:=jg (st:=ag1) l31 c31 k31;have F32:=jg (st:=ql) l32 c32 k32;have b32:=F32.binds (ps:=["self","house","arrows","walkers"]) fun _ _ _ _ _ _ us hl=>by obtain⟨_,_,_,_,rfl⟩:=ln4 hl;rfl
 have F33:=jg (st:=jo) l33 c33 k33;have b33:=F33.binds (ps:=["self","room","many"]) fun _ _ _ _ _ _ us hl=>by obtain⟨_,_,_,rfl⟩:=ln3 hl;rfl
 refine⟨fnOf "law" "law" (dq ag1) (cz ag1) (aj ag1) .none kV31 dc31 pm31 an31 cd31 ct31,fun s v=>.of_eq rfl,fun base _ _ =>?_⟩
 have d0:Dd0 l.prog w K mg base:=⟨f0',_,aj6 F0 T,mg_of X G a0,k0,b0⟩;have d1:Dd1 l.prog w K mg base:=⟨f1',_,acp F1 T d0,mg_of X G a1,k1,b1⟩;have d2:Dd2 l.prog w K mg base:=⟨f2',_,acq F2 T,mg_of X G a2,k2,b2⟩;have d3:Dd3 l.prog w K mg base:=⟨f3',_,avy F3 T,mg_of X G a3,k3,b3⟩;have d4:Dd4 l.prog w K mg base:=⟨f4',_,acn F4 T d3,mg_of X G a4,k4,b4⟩;have d5:Dd5 l.prog w K mg base:=⟨f5',_,aik F5 T d2 d1,mg_of X G a5,k5,b5⟩;have d6:Dd6 l.prog w K mg base:=⟨f6',_,ab3 F6 T d5,mg_of X G a6,k6,b6⟩;have d7:Dd7 l.prog w K mg base:=⟨f7',_,aii F7 T,mg_of X G a7,k7,b7⟩;have d8:Dd8 l.prog w K mg base:=⟨f8',_,aij F8 T,mg_of X G a8,k8,b8⟩;have d9:Dd9 l.prog w K mg base:=⟨f9',_,af3 F9 T,mg_of X G a9,k9,b9⟩;have d10:Dd10 l.prog w K mg base:=⟨f10',_,ag6 F10 T d2 d1,mg_of X G a10,k10,b10⟩;have d11:Dd11 l.prog w K mg base:=⟨f11',_,abp F11 T d10,mg_of X G a11,k11,b11⟩;have d12:Dd12 l.prog w K mg base:=⟨f12',_,amr F12 T,mg_of X G a12,k12,b12⟩;have d13:Dd13 l.prog w K mg base:=⟨f13',_,af1 F13 T d12,mg_of X G a13,k13,b13⟩;have m_Crowd_let_leave:DfnM l.prog w K mg base _ _ _ _ _:=aw7 aB_Crowd e_B_Crowd a33 e_F_Crowd_let_leave k33 (acr (P:=l.prog) (w:=w) (base:=base) F33 T d12) b33;have n_Crowd:DfnI l.prog w K mg base _ _ _ (amf K _ _ adn):=aw8 aB_Crowd (mg_of X G aB_Crowd) e_B_Crowd a32 e_F_Crowd_init (aha (P:=l.prog) (w:=w) (base:=base) F32 T aB_Crowd) b32;have d14:Dd14 l.prog w K mg base:=⟨f14',_,ams F14 T m_Crowd_let_leave n_Crowd,mg_of X G a14,k14,b14⟩;have d15:Dd15 l.prog w K mg base:=⟨f15',_,aco F15 T d6 d11,mg_of X G a15,k15,b15⟩;have d16:Dd16 l.prog w K mg base:=⟨f16',_,avz F16 T d15 d4 d14,mg_of X G a16,k16,b16⟩;have d17:Dd17 l.prog w K mg base:=⟨f17',_,ag7 F17 T d6 d13,mg_of X G a17,k17,b17⟩;have d18:Dd18 l.prog w K mg base:=⟨f18',_,af2 F18 T d2 d0,mg_of X G a18,k18,b18⟩;have d19:Dd19 l.prog w K mg base:=⟨f19',_,amu F19 T,mg_of X G a19,k19,b19⟩;have d20:Dd20 l.prog w K mg base:=⟨f20',_,amt F20 T d15 d4 d18 d13 d19 d7 d8 d9,mg_of X G a20,k20,b20⟩;have d21:Dd21 l.prog w K mg base:=⟨f21',_,ain F21 T,mg_of X G a21,k21,b21⟩;have d22:Dd22 l.prog w K mg base:=⟨f22',_,aj7 F22 T,mg_of X G a22,k22,b22⟩;have d23:Dd23 l.prog w K mg base:=⟨f23',_,aim F23 T,mg_of X G a23,k23,b23⟩;have d24:Dd24 l.prog w K mg base:=⟨f24',_,ag8 F24 T d23,mg_of X G a24,k24,b24⟩;have d25:Dd25 l.prog w K mg base:=⟨f25',_,aex F25 T,mg_of X G a25,k25,b25⟩;have d26:Dd26 l.prog w K mg base:=⟨f26',_,ail F26 T d24 d25 d23,mg_of X G a26,k26,b26⟩;have d27:Dd27 l.prog w K mg base:=⟨f27',_,ag9 F27 T d23,mg_of X G a27,k27,b27⟩;have d28:Dd28 l.prog w K mg base:=⟨f28',_,aew F28 T d23,mg_of X G a28,k28,b28⟩;have d29:Dd29 l.prog w K mg base:=⟨f29',_,af4 F29 T d17,mg_of X G a29,k29,b29⟩;have d30:Dd30 l.prog w K mg base:=⟨f30',_,adg F30 T,mg_of X G a30,k30,b30⟩;exact ay6 F31 T d21 d22 d23 d26 d27 d28 d16 d30 d29 d20
end My
namespace PySem.W.Fast
def tw9617597895736369344:Unit:=()
def tw16034536647583768193:Unit:=()
def tw11541759109328870337:Unit:=()
def tw5103157736053415140:Unit:=()
def tw15715240286998662693:Unit:=()
def tw13203247959370219078:Unit:=()
def tw5428612513550731974:Unit:=()
def tw18151223478213112582:Unit:=()
def tw17854407925536812039:Unit:=()
def tw13469985273916743815:Unit:=()
def tw2674632990439660871:Unit:=()
def tw10912662787045949959:Unit:=()
def tw15471510296140121863:Unit:=()
def tw8713535336827897608:Unit:=()
def tw16703940137152334824:Unit:=()
def tw9742742549053707465:Unit:=()
def tw3184738793794204938:Unit:=()
def tw7012332105960640874:Unit:=()
def tw7385129569100939018:Unit:=()
def tw7990766707869725578:Unit:=()
def tw17788554903618636875:Unit:=()
def tw2099333270229544683:Unit:=()
def tw18185176086658494541:Unit:=()
def tw9343988324558423885:Unit:=()
def tw14770107523368534126:Unit:=()
def tw1938338683046995342:Unit:=()
def tw12562416670678202926:Unit:=()
def tw6295470000472641839:Unit:=()
def tw17583327291011354448:Unit:=()
def tw47181010753054865:Unit:=()
def tw14673725708302613649:Unit:=()
def tw14596932805612809905:Unit:=()
def tw11331739653719347985:Unit:=()
def tw6465995560555767890:Unit:=()
def tw8695361159651680594:Unit:=()
def tw4160269361596350835:Unit:=()
def tw9405952011927721523:Unit:=()
def tw4098206636706282324:Unit:=()
def tw14711319796616267157:Unit:=()
def tw4156933419169842741:Unit:=()
def tw5108616977784916917:Unit:=()
def tw1755355665402447350:Unit:=()
def tw15931955344736104567:Unit:=()
def tw17048860118363716664:Unit:=()
def tw448795167735156666:Unit:=()
def tw5342642852511745435:Unit:=()
def tw16849468809193001755:Unit:=()
def tw376242381527340668:Unit:=()
def tw9317579102213173341:Unit:=()
def tw15396160396910508894:Unit:=()
def tw9569698423537682909:Unit:=()
end PySem.W.Fast
open PySem PySem.W PyProof.Rows
set_option maxRecDepth 100000 in
set_option maxHeartbeats 0 in
theorem PySem.Challenge.cw_turnarrows_k22_whole_the_least_leavings_holds : PySem.Challenge.rw_turnarrows_k22_whole_the_least_leavings.Holds := by
 w_on;o_law;k_head;(case hw=>w_witness2)
 k_fill
 refine Dn.walk (l:=PySem.Challenge.rw_turnarrows_k22_whole_the_least_leavings) (f:=My.apt) (k:=7) My.asi rfl rfl ⟨rfl,by decide,by decide,rfl⟩ (fun w h Y=>PySem.W.kIn_of Y) ?F
 case F =>
  intro w mg fa h KX G hmg;refine' My.a0s KX G hmg ?_ ?_ ?_ ?_ ?_ ?_ ?_ ?_ ?_ ?_ ?_ ?_ ?_ ?_ ?_ ?_ ?_ ?_ ?_ ?_ ?_ ?_ ?_ ?_ ?_ ?_ ?_ ?_ ?_ ?_ ?_ ?_ ?_ ?_ ?_ ?_ ?_ ?_ ?_ ?_ ?_ ?_ ?_ ?_ ?_ ?_ ?_ ?_ ?_ ?_ ?_ ?_ ?_ ?_ ?_ ?_ ?_ ?_ ?_ ?_ ?_ ?_ ?_ ?_ ?_ ?_ ?_ ?_ ?_ ?_ ?_ ?_ ?_ ?_ ?_ ?_ ?_ ?_ ?_ ?_ ?_ ?_ ?_ ?_ ?_ ?_ ?_ ?_ ?_ ?_ ?_ ?_ ?_ ?_ ?_ ?_ ?_ ?_ ?_ ?_ ?_ ?_ ?_ ?_ ?_ ?_ ?_ ?_ ?_ ?_ ?_ ?_ ?_ ?_ ?_ ?_ ?_ ?_ ?_ ?_ ?_ ?_ ?_ ?_ ?_ ?_ ?_ ?_ ?_ ?_ ?_ ?_ ?_ ?_ ?_ ?_ ?_ ?_ ?_ ?_ ?_ ?_ ?_ ?_ ?_ ?_ ?_ ?_ ?_ ?_ ?_ ?_ ?_ ?_ ?_ ?_ ?_ ?_
  any_goals k_is
  all_goals kernel_rfl
