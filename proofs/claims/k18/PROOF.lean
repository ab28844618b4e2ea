import PyProof.Rows.All
import Wide.All
import OpenK.AllK
import Wide.FinOn
import Lean
import PyProof.EqAt
import PyProof.EqKinds
import PyProof.TupleCall
import PySem.Challenge.RW_turnarrows_k18_rooms_left_one_by_one
set_option Elab.async false
set_option linter.all false
set_option maxRecDepth 100000
noncomputable section
open PySem.W (nsIn mg_of keepIn fnOf codeIn findIn mg_none_of)
abbrev Fg9:=PySem.W.Frag
abbrev LL9:=List (List Int)
section
open PySem PySem.Spec PyProof.Rows
namespace L2
abbrev Key:=Sum Int Str
def aon:Key->Value->Bool
 | .inl k,v=>Value.isInt k v
 | .inr x,v=>Value.isStrOf x v
def keyH(w:World):Key->Int
 | .inl k=>hashInt k
 | .inr x=>hashStr w x
theorem jz:∀{k:Key} {v:Value},aon k v=true->(∃i t,k=Sum.inl i/\v=Value.int i t)∨(∃x t,k=Sum.inr x/\v=Value.str x t)
 | .inl i,v,h=>by
  obtain⟨t,e⟩:=Value.isInt_shape (k:=i) (v:=v) h;exact .inl ⟨i,t,rfl,e⟩
 | .inr x,v,h=>by
  obtain⟨t,e⟩:=Value.isStrOf_shape (x:=x) (v:=v) h;exact .inr ⟨x,t,rfl,e⟩
theorem al8(x:Str)(t:Tok):aon (.inr x) (.str x t)=true:=by simp[aon,Value.isStrOf]
theorem avi(a b:Int):decide ((Sum.inl a:Key)=Sum.inl b)=(a==b):=by
 by_cases e:a=b
 ·subst e;simp
 ·have h:¬(Sum.inl a:Key)=Sum.inl b:=fun q=>e (Sum.inl.inj q)
  rw[decide_eq_false h];exact(beq_eq_false_iff_ne.mpr e).symm
theorem ave(a b:Str):decide ((Sum.inr a:Key)=Sum.inr b)=decide (a=b):=by
 by_cases e:a=b
 ·subst e;simp
 ·have h:¬(Sum.inr a:Key)=Sum.inr b:=fun q=>e (Sum.inr.inj q)
  rw[decide_eq_false h,decide_eq_false e]
theorem avh(a:Int)(b:Str):decide ((Sum.inl a:Key)=Sum.inr b)=false:=decide_eq_false (fun q=>nomatch q)
theorem avf(a:Str)(b:Int):decide ((Sum.inr a:Key)=Sum.inl b)=false:=decide_eq_false (fun q=>nomatch q)
def aae(prog:Program)(w:World):PySem.KeyKind prog w Key where
 is:=aon
 hash:=keyH w
 inj:=fun v a b ha hb=>by
  rcases jz ha with⟨i,t,rfl,rfl⟩ | ⟨x,t,rfl,rfl⟩
  ·rcases jz hb with⟨j,u,rfl,e⟩ | ⟨y,u,rfl,e⟩
   ·injection e with e1 _;rw[e1]
   ·exact nomatch e
  ·rcases jz hb with⟨j,u,rfl,e⟩ | ⟨y,u,rfl,e⟩
   ·exact nomatch e
   ·injection e with e1 _;rw[e1]
 byValue:=fun k v h=>by
  rcases jz h with⟨i,t,rfl,rfl⟩ | ⟨x,t,rfl,rfl⟩ <;> rfl
 pyHash:=fun hv h=>by
  rcases jz hv with⟨i,t,rfl,rfl⟩ | ⟨x,t,rfl,rfl⟩
  ·exact wpAny_pyHash_int h
  ·exact wpAny_pyHash_str h
 eqBool:=fun hu hv h=>by
  rcases jz hu with⟨i,t,rfl,rfl⟩ | ⟨x,t,rfl,rfl⟩
  ·rcases jz hv with⟨j,u,rfl,rfl⟩ | ⟨y,u,rfl,rfl⟩
   ·rw[avi] at h;exact wpAny_eqBool_int h
   ·rw[avh] at h;exact SeqAt.EqAt.int_str i t y u _ _ _ _ h
  ·rcases jz hv with⟨j,u,rfl,rfl⟩ | ⟨y,u,rfl,rfl⟩
   ·rw[avf] at h;exact SeqAt.EqAt.str_int x t j u _ _ _ _ h
   ·rw[ave] at h;exact wpAny_eqBool_str h
 «strs» := fun k x t v h=>by
  rcases jz h with⟨i,u,rfl,e⟩ | ⟨y,u,rfl,e⟩
  ·exact nomatch e
  ·injection e with e1 _
   subst e1;cases v <;> rfl
theorem aig(prog:Program)(w:World)(x:Str)(t:Tok):(aae prog w).is (.inr x) (.str x t)=true:=al8 x t
def IsTp(h:Heap)(a:Addr)(items:Array Value):Prop:=∃o,h.get? a=some o/\o.cls=.type "tuple" /\ o.dict=none/\∃n,o.data=.seq items n
theorem IsTp.tup{h:Heap}{a:Addr}{items:Array Value}(x:IsTp h a items):IsTup h a items:=let ⟨o,e,c,_,n,d⟩:=x;⟨o,e,c,n,d⟩
theorem IsTp.new(h:Heap)(items:Array Value):IsTp (h.push { cls:=.type "tuple", data:=.seq items }) h.objs.size items:=⟨_,Heap.get?_push_size _ rfl,rfl,rfl,_,rfl⟩
inductive V where
 | non | bl (b:Bool) | int (i:Int) | str (x:Str) | byt (b:Array UInt8) | flt (b:UInt64) | ref (a:Addr) | ty (n:String)
 deriving DecidableEq
def RelV:V->Value->Prop
 | .non,u=>u=Value.none
 | .bl b,u=>u=Value.bool b
 | .int i,u=>∃t,u=Value.int i t
 | .str x,u=>∃t,u=Value.str x t
 | .byt b,u=>∃t,u=Value.bytes b t
 | .flt b,u=>∃t,u=Value.float b t
 | .ref a,u=>u=Value.ref a
 | .ty n,u=>u=Value.type n
abbrev Vals:List V->List Value->Prop:=Paired RelV
theorem Vals.length{xs:List V}{us:List Value}(r:Vals xs us):xs.length=us.length:=Paired.length r
theorem Vals.get:∀{xs:List V} {us:List Value} {i:Nat} {x:V},Vals xs us->xs[i]? = some x->∃u,us[i]? = some u/\RelV x u
 | _,_,_,_,.nil,e=>by simp at e
 | _,_,0,_,.cons r _,e=>by simp at e;subst e;exact⟨_,rfl,r⟩
 | _,_,i+1,x,.cons _ t,e=>by
  obtain⟨u,h1,h2⟩:=Vals.get (i:=i) (x:=x) t (by simpa using e)
  exact⟨u,by simpa using h1,h2⟩
theorem Vals.set{x:V}{u:Value}(r:RelV x u):∀{xs:List V} {us:List Value} (i:Nat),Vals xs us->Vals (xs.set i x) (us.set i u)
 | _,_,_,.nil=>.nil
 | _,_,0,.cons _ t=>.cons r t
 | _,_,i+1,.cons q t=>.cons q (Vals.set r i t)
theorem Vals.append:∀{xs ys:List V} {us ws:List Value},Vals xs us->Vals ys ws->Vals (xs++ys) (us++ws)
 | _,_,_,_,.nil,s=>s
 | _,_,_,_,.cons r t,s=>.cons r (Vals.append t s)
theorem Vals.take:∀{xs:List V} {us:List Value} (n:Nat),Vals xs us->Vals (xs.take n) (us.take n)
 | _,_,0,_=>.nil
 | _,_,_+1,.nil=>.nil
 | _,_,n+1,.cons r t=>.cons r (Vals.take n t)
theorem Vals.drop:∀{xs:List V} {us:List Value} (n:Nat),Vals xs us->Vals (xs.drop n) (us.drop n)
 | _,_,0,r=>r
 | _,_,_+1,.nil=>.nil
 | _,_,n+1,.cons _ t=>Vals.drop n t
def RelO:Option V->Option Value->Prop
 | some v,some u=>RelV v u
 | none,none=>True
 | _,_=>False
def KV{κ:Type}:List (κ×V)->List (κ×Value)->Prop:=Paired fun(p:κ×V) (q:κ×Value)=>p.1=q.1/\RelV p.2 q.2
def kV:Key->V
 | .inl i=>.int i
 | .inr x=>.str x
inductive HO where
 | lst (xs:List V)
 | tup (xs:List V)
 | dK (kvs:List (Key×V)) | dT (kvs:List (List Key×V))
 | set (S:Int->Bool) (n:Nat)
 | ins (C dx:Addr) (fs:List (Str×V))
 | own (x:Addr)
 | xd (fs:List (Str×V))
 | met (f x:Addr)
 | rng (lo hi:Int)
 | frz (o:Obj) (u:HO)
 | tbl (ps:Array Value)
 | ext (φ:Heap->Prop)
abbrev Hp:=Addr->Option HO
def upd(H:Hp)(a:Addr)(o:HO):Hp:=fun b=>if b=a then some o else H b
theorem dg{H:Hp}{a:Addr}{o:HO}:upd H a o a=some o:=by unfold upd;rw[if_pos rfl]
theorem bu{H:Hp}{a b:Addr}{o:HO}(h:b≠a):upd H a o b=H b:=by unfold upd;rw[if_neg h]
theorem aqk{H:Hp}{a:Addr}{o u:HO}:upd (upd H a o) a u=upd H a u:=by
 funext b;unfold upd;split <;> rfl
theorem gr{H:Hp}{a b:Addr}{o:HO}(h:H a=some o)(h':H b=none):a≠b:=by
 intro e;subst e;rw[h] at h';cases h'
section
variable(P:Program)(w:World)
def rn(H:Hp)(h:Heap)(a:Addr):HO->Prop
 | .lst xs=>xs.length<=sizeLine/\∃(its:List Value) (n:Nat),Vals xs its/\h.get? a=some { cls:=.type "list", data:=.seq its.toArray n }
 | .tup xs=>xs.length<=sizeLine/\∃its:List Value,Vals xs its/\IsTp h a its.toArray
 | .dK kvs=>kvs.length<=sizeLine/\(a==sysModules)=false/\∃vs,KV kvs vs/\h.DictOf (aae P w) a vs
 | .dT kvs=>kvs.length<=sizeLine/\(a==sysModules)=false/\∃xs:List (List Key×Addr×Value),
   Paired (fun(p:List Key×V) (q:List Key×Addr×Value)=>p.1=q.1/\H q.2.1=some (.tup (p.1.map kV))/\RelV p.2 q.2.2) kvs xs /\
   ∃o es ep,h.get? a=some o/\o.ExactDict/\o.data=.dict es ep/\es.toList=xs.map (entryOfKey (tupleKind (aae P w)))/\(xs.map (·.1)).Nodup
 | .set S n=>h.SetOf (intKind P w) a S n
 | .ins C dx fs=>H dx=some (.own a)/\fs.length<=1000/\dx≠a/\h.get? a=some (PySem.W.instObj C dx) /\
   ∃mA,h.Ns1 dx mA/\(∀f,RelO (fs.lookup f) (mA f))/\PySem.Within mA (fs.map (·.1))
 | .own _=>∃o,h.get? a=some o
 | .xd fs=>∃mA,h.Ns1 a mA/\∀f,RelO (fs.lookup f) (mA f)
 | .rng lo hi=>∃t u v,h.get? a=some { cls:=.type "range", data:=.fields #[.int lo t,.int hi u,.int 1 v] }
 | .frz o u=>h.get? a=some o/\rn H h a u
 | .tbl ps=>h.get? a=some { cls:=.none,data:=.fields ps }
 | .met f x=>h.get? a=some (PySem.W.methodObj (.ref f) (.ref x))
 | .ext φ=>φ h/\(∃o,h.get? a=some o)/\∀h1 h2:Heap,φ h1->(∀o,h1.get? a=some o->h2.get? a=some o)->φ h2
def HOk(H:Hp)(h:Heap):Prop:=∀a o,H a=some o->rn P w H h a o
end
section
variable{P:Program}{w:World}{H H':Hp}{h h':Heap}{a:Addr}{o:HO}
theorem rn.lt(x:rn P w H h a o):a < h.objs.size:=by
 cases o with
 | lst xs=>obtain⟨_,_,_,_,e⟩:=x;exact Heap.lt_size e
 | tup xs=>obtain⟨_,_,_,p⟩:=x;exact p.tup.lt
 | dK kvs=>obtain⟨_,_,_,_,o,_,_,e,_⟩:=x;exact Heap.lt_size e
 | dT kvs=>obtain⟨_,_,_,_,o,_,_,e,_⟩:=x;exact Heap.lt_size e
 | set S n=>obtain⟨o,_,_,_,e,_⟩:=x;exact Heap.lt_size e
 | ins C dx fs=>obtain⟨_,_,_,e,_⟩:=x;exact Heap.lt_size e
 | own y=>obtain⟨_,e⟩:=x;exact Heap.lt_size e
 | xd fs=>obtain⟨_,⟨_,_,_,e,_⟩,_⟩:=x;exact Heap.lt_size e
 | rng lo hi=>obtain⟨_,_,_,e⟩:=x;exact Heap.lt_size e
 | frz ob u=>obtain⟨e,_⟩:=x;exact Heap.lt_size e
 | tbl ps=>exact Heap.lt_size (show h.get? a=some _ from x)
 | met f y=>exact Heap.lt_size (show h.get? a=some _ from x)
 | ext φ=>obtain⟨_,⟨_,e⟩,_⟩:=x;exact Heap.lt_size e
theorem Paired.mapP{α β:Type}{F G:α->β->Prop}:∀{l₁:List α} {l₂:List β},Paired F l₁ l₂->(∀a b,F a b->G a b)->Paired G l₁ l₂
 | _,_,.nil,_=>.nil
 | _,_,.cons r t,f=>.cons (f _ _ r) (Paired.mapP t f)
theorem rn.stay(x:rn P w H h a o)(k:∀b u,(b=a∨H b=some (.own a))->h.get? b=some u->h'.get? b=some u)
  (ho:∀b,H b=some (.own a)->H' b=some (.own a)) (ht:∀b xs,H b=some (.tup xs)->H' b=some (.tup xs)):rn P w H' h' a o:=by
 induction o with
 | lst xs=>obtain⟨z,its,n,r,e⟩:=x;exact⟨z,its,n,r,k _ _ (.inl rfl) e⟩
 | tup xs=>obtain⟨z,its,r,ob,e,c⟩:=x;exact⟨z,its,r,ob,k _ _ (.inl rfl) e,c⟩
 | dK kvs=>obtain⟨z,y,vs,r,ob,es,ep,e,c⟩:=x;exact⟨z,y,vs,r,ob,es,ep,k _ _ (.inl rfl) e,c⟩
 | dT kvs =>
  obtain⟨z,y,xs,r,ob,es,ep,e,c⟩:=x;exact⟨z,y,xs,Paired.mapP r fun p q z=>⟨z.1,ht _ _ z.2.1,z.2.2⟩,ob,es,ep,k _ _ (.inl rfl) e,c⟩
 | set S n=>obtain⟨ob,es,ep,t,e,c⟩:=x;exact⟨ob,es,ep,t,k _ _ (.inl rfl) e,c⟩
 | ins C dx fs =>
  obtain⟨d,z,ne,e,mA,⟨od,es,ep,e2,c⟩,r⟩:=x;exact⟨ho _ d,z,ne,k _ _ (.inl rfl) e,mA,⟨od,es,ep,k _ _ (.inr d) e2,c⟩,r⟩
 | own y=>obtain⟨ob,e⟩:=x;exact⟨ob,k _ _ (.inl rfl) e⟩
 | xd fs=>obtain⟨mA,⟨od,es,ep,e,c⟩,r⟩:=x;exact⟨mA,⟨od,es,ep,k _ _ (.inl rfl) e,c⟩,r⟩
 | rng lo hi=>obtain⟨t,u,v,e⟩:=x;exact⟨t,u,v,k _ _ (.inl rfl) e⟩
 | frz ob u ih=>obtain⟨e,q⟩:=x;exact⟨k _ _ (.inl rfl) e,ih q⟩
 | tbl ps =>
  have e:h.get? a=some { cls:=.none,data:=.fields ps }:=x;show h'.get? a=some { cls:=.none,data:=.fields ps };exact k a _ (.inl rfl) e
 | met f y =>
  have e:h.get? a=some (PySem.W.methodObj (.ref f) (.ref y)):=x;show h'.get? a=some (PySem.W.methodObj (.ref f) (.ref y));exact k a _ (.inl rfl) e
 | ext φ=>obtain⟨p,⟨o,e⟩,st⟩:=x;exact⟨st _ _ p fun o q=>k _ _ (.inl rfl) q,⟨o,k _ _ (.inl rfl) e⟩,st⟩
theorem HOk.lt(x:HOk P w H h)(e:H a=some o):a < h.objs.size:=(x a o e).lt
theorem HOk.fresh(x:HOk P w H h)(e:h.objs.size<=a):H a=none:=by
 cases q:H a with
 | none=>rfl
 | some u=>exact absurd (Nat.lt_of_lt_of_le (x.lt q) e) (Nat.lt_irrefl _)
theorem HOk.kept(x:HOk P w H h)(k:∀b u,h.get? b=some u->h'.get? b=some u):HOk P w H h':=fun a o e =>
 (x a o e).stay (fun b u _ q=>k b u q) (fun _ q=>q) fun _ _ q=>q
theorem HOk.laid(x:HOk P w H h)(k:∀b u,h.get? b=some u->h'.get? b=some u)(hp:h.objs.size<=a)(new:rn P w (upd H a o) h' a o):HOk P w (upd H a o) h':=fun b u e=>by
 have hn:=x.fresh hp
 by_cases hb:b=a
 ·subst hb;rw[dg] at e;cases e;exact new
 ·rw[bu hb] at e;exact(x b u e).stay (fun c v _ q=>k c v q) (fun c q=>by rw[bu (gr q hn)];exact q) fun c xs q=>by rw[bu (gr q hn)];exact q
end
def Rd(H:Hp)(a:Addr)(u:HO):Prop:=H a=some u∨∃o,H a=some (.frz o u)
theorem Rd.ok{P:Program}{w:World}{H:Hp}{h:Heap}{a:Addr}{u:HO}(r:Rd H a u)(x:HOk P w H h):rn P w H h a u:=by
 rcases r with r | ⟨o,r⟩
 ·exact x a u r
 ·obtain⟨_,q⟩:=x a _ r;exact q
def Mut:Option HO->Prop
 | some (.lst _)=>True
 | some (.dK _)=>True
 | some (.dT _)=>True
 | some (.set _ _)=>True
 | some (.ins _ _ _)=>True
 | some (.ext _)=>True
 | _=>False
section
variable{P:Program}{w:World}{H:Hp}{h h':Heap}{x e:Addr}{o':HO}
theorem HOk.write(ok:HOk P w H h)(mu:Mut (H x))(he:e=x∨H e=some (.own x))(k:∀b u,b≠e->h.get? b=some u->h'.get? b=some u)(heo:∃u,h'.get? e=some u)
  (new:rn P w (upd H x o') h' x o'):HOk P w (upd H x o') h':=fun b u q=>by
 have nown:∀c y,H c=some (.own y)->c≠x:=fun c y r z=>by subst z;rw[r] at mu;exact mu
 have ntup:∀c xs,H c=some (.tup xs)->c≠x:=fun c xs r z=>by subst z;rw[r] at mu;exact mu
 by_cases hb:b=x
 ·subst hb;rw[dg] at q;cases q;exact new
 ·rw[bu hb] at q
  by_cases hbe:b=e
  ·have q':H b=some (.own x):=by
    rcases he with z | z
    ·exact absurd (hbe.trans z) hb
    ·rw[hbe];exact z
   rw[q] at q';cases q';obtain⟨v,hv⟩:=heo;exact⟨v,by rw[hbe];exact hv⟩
  ·refine(ok b u q).stay (fun c v hc r=>k c v ?_ r) (fun c r=>by rw[bu (nown c b r)];exact r) fun c xs r=>by rw[bu (ntup c xs r)];exact r
   rcases hc with rfl | hc
   ·exact hbe
   ·rintro rfl
    rcases he with z | z
    ·exact nown c b hc z
    ·rw[hc] at z;cases z;exact hb rfl
end
structure Un (fs ex:List Addr) (H H':Hp) (h h':Heap):Prop where
 keep:∀b o,h.get? b=some o->H b=none->b∉fs->b∉ex->h'.get? b=some o
 slot:∀b o,h.get? b=some o->H b=none->b∈fs->b∉ex->∃sl,h'.get? b=some { o with slots:=sl }
 free:∀b o,h.get? b=some o->H b=none->b∉ex->H' b=none
 there:∀b o,h.get? b=some o->b∉ex->∃o',h'.get? b=some o'
 tups:∀b xs,H b=some (.tup xs)->H' b=some (.tup xs)
 frzs:∀b o u,H b=some (.frz o u)->H' b=some (.frz o u)
 tbls:∀b ps,H b=some (.tbl ps)->∃more,H' b=some (.tbl (ps++more))
section
variable{fs fs' ex ex':List Addr}{H H1 H2:Hp}{h h1 h2 h':Heap}{a x e:Addr}{o:HO}
theorem Un.any(u:Un fs ex H H1 h h1){b:Addr}{ob:Obj}(q:h.get? b=some ob)(n:H b=none)(hx:b∉ex):∃sl,h1.get? b=some { ob with slots:=sl }:=by
 by_cases hb:b∈fs
 ·exact u.slot b ob q n hb hx
 ·exact⟨ob.slots,u.keep b ob q n hb hx⟩
theorem Un.kept(k:∀b u,h.get? b=some u->h'.get? b=some u):Un fs ex H H h h' :=
 ⟨fun b ob q _ _ _=>k b ob q,fun b ob q _ _ _=>⟨ob.slots,k b ob q⟩,fun _ _ _ n _=>n,fun b ob q _=>⟨ob,k b ob q⟩,fun _ _ q=>q,fun _ _ _ q=>q,fun _ ps q=>⟨#[],by rw[q];simp⟩⟩
theorem Un.refl:Un fs ex H H h h:=Un.kept fun _ _ q=>q
theorem Un.laid(k:∀b u,h.get? b=some u->h'.get? b=some u)(hp:h.objs.size<=a)(hn:H a=none):Un fs ex H (upd H a o) h h' where
 keep:=fun b u q _ _ _=>k b u q
 slot:=fun b u q _ _ _=>⟨u.slots,k b u q⟩
 free:=fun b u q n _=>by rw[bu (Nat.ne_of_lt (Nat.lt_of_lt_of_le (Heap.lt_size q) hp))];exact n
 there:=fun b u q _=>⟨u,k b u q⟩
 tups:=fun b xs q=>by rw[bu (gr q hn)];exact q
 frzs:=fun b u xs q=>by rw[bu (gr q hn)];exact q
 tbls:=fun b ps q=>⟨#[],by rw[bu (gr q hn),q];simp⟩
theorem Un.write(mu:Mut (H x))(he:e=x∨H e=some (.own x))(k:∀b u,b≠e->h.get? b=some u->h'.get? b=some u)(heo:∃u,h'.get? e=some u):Un fs ex H (upd H x o) h h':=by
 have hx:∀b,H b=none->b≠x:=fun b n z=>by subst z;rw[n] at mu;exact mu
 have hb:∀b,H b=none->b≠e:=fun b n z=>by
  subst z;rcases he with r | r
  ·exact hx b n r
  ·rw[n] at r;cases r
 have hm:∀b u,H b=some u->¬Mut (some u)->b≠x:=fun b u q nm z=>by subst z;rw[q] at mu;exact nm mu
 refine⟨fun b u q n _ _=>k b u (hb b n) q,fun b u q n _ _=>⟨u.slots,k b u (hb b n) q⟩,fun b u q n _=>by rw[bu (hx b n)];exact n,fun b u q _ =>?_,
  fun b xs q=>by rw[bu (hm b _ q fun z=>z)];exact q,fun b u xs q=>by rw[bu (hm b _ q fun z=>z)];exact q,fun b ps q=>⟨#[],by rw[bu (hm b _ q fun z=>z),q];simp⟩⟩
 by_cases hbe:b=e
 ·subst hbe;exact heo
 ·exact⟨u,k b u hbe q⟩
end
def trk(h:Heap)(H:Hp):List Addr:=(List.range h.objs.size).filter fun a=>(H a).isSome
def hidT(h:Heap)(H:Hp):Heap:=PySem.W.hideAll h (trk h H)
theorem ame(h:Heap)(H:Hp):(hidT h H).objs.size=h.objs.size:=PySem.W.hideAll_size _ _
theorem aov{h:Heap}{H:Hp}{b:Addr}{o:Obj}(e:h.get? b=some o)(n:H b=none):(hidT h H).get? b=some o :=
 PySem.W.hideAll_get _ e fun hm=>by
  have q:(H b).isSome=true:=(List.mem_filter.mp hm).2;rw[n] at q;simp at q
theorem aru{h:Heap}{H:Hp}{b:Addr}{o:Obj}(e:(hidT h H).get? b=some o):h.get? b=some o/\H b=none:=by
 have e':h.get? b=some o:=PySem.W.of_hideAll (trk h H) e;refine⟨e',?_⟩;cases q:H b with
 | none=>rfl
 | some x =>
  have hm:b∈trk h H:=List.mem_filter.mpr ⟨List.mem_range.mpr (Heap.lt_size e'),by simp[q]⟩
  have z:(hidT h H).get? b=none:=PySem.W.hideAll_none (trk h H) hm;rw[z] at e;cases e
def as9(g h:Heap)(L:Addr):List (Addr×Obj):=(List.range h.objs.size).filterMap fun a=>if a=L∨(g.get? a).isSome=true then none else (h.get? a).map fun o=>(a,o)
def rest(g h:Heap)(L d:Addr):List (Addr×Obj):=(as9 g h L).filter fun p=>decide (p.1≠d)
structure Mod (K:Fg9) (mg:Str->Option Value) (base:Heap):Prop where
 kin:K.In base
 glob:base.Ns mainGlobals mg
 blt:∃mb,base.Ns builtinsNs mb/\∀x:Str,x ≠ "__name__" -> mb x=bootBuiltins x
 nolimit:base.NoLimit
structure Cx where
 prog:Program
 w:World
 K:Fg9
 mg:Str->Option Value
 base:Heap
 A:Around
 N:List Str
 s₀:Shared
 H₀:Hp
 env:Env
 outer:List Env
 stack:List Env
 ex:List Addr
 fn:Str->Bool
 calm:Bool
 pn:List (Addr×Obj)
 xe:Value->Shared->Prop
def frs(l:List Env):List Addr:=l.filterMap (·.frame)
abbrev Cx.fs(X:Cx):List Addr:=frs X.outer
def Vis(sc:Scope)(x:Str):Prop:=sc.names.lookup x=some .local∨sc.names.lookup x=some .cell∨sc.names.lookup x=some .free
def Loc(sc:Scope)(x:Str):Prop:=sc.names.lookup x=some .local∨sc.names.lookup x=some .cell
def Look(env:Env)(h:Heap)(m:Str->Option Value)(x:Str)(u:Value):Prop :=
 (env.kindOf x=some .local/\m x=some u)∨((env.kindOf x=some .cell∨env.kindOf x=some .free)/\∃c,env.cells.lookup x=some c/\h.IsCell c (some u))
structure Cx.Ok (X:Cx):Prop where
 mod:Mod X.K X.mg X.base
 kind:X.env.scope.kind=.function
 glob:X.env.globals=mainGlobals
 blt:X.env.builtins=builtinsNs
 above:X.s₀.heap.objs.size<=X.env.locals
 inj:∀x y c,X.env.cells.lookup x=some c->X.env.cells.lookup y=some c->x=y
 has:∀x,(X.env.kindOf x=some .cell∨X.env.kindOf x=some .free)->∃c,X.env.cells.lookup x=some c
 cab:∀x c,X.fn x=true->X.env.cells.lookup x=some c->X.s₀.heap.objs.size<=c
 hd:X.calm=true->X.A.handled=none
 frames:X.A.frames=some X.stack
 stk:X.stack=X.outer∨(X.stack=X.env::X.outer/\X.env.frame=some X.env.locals)
 exf:∀b∈X.ex,b≠X.env.locals/\∀x c,X.env.cells.lookup x=some c->c≠b
 bs:∀b o,X.base.get? b=some o->X.s₀.heap.get? b=some o/\X.H₀ b=none
 bsz:X.base.objs.size<=X.s₀.heap.objs.size
 noex:∀b o,X.base.get? b=some o->b∉X.ex
 exfs:∀b∈X.ex,b∉X.fs
 funs:X.s₀.heap.FunFrames X.base X.outer
 frf:∀b∈X.fs,X.H₀ b=none
structure Inv (X:Cx) (zv:List (Addr×Obj)) (σ:List (Option V)) (H:Hp) (s:Shared):Prop where
 ok:X.Ok
 os:s.os=X.s₀.os
 bare:AllBare s.gens
 base:Un X.fs X.ex X.H₀ H X.s₀.heap s.heap
 loc:∃m,s.heap.Ns X.env.locals m/\∀(i:Nat) (x:Str) (v:V),X.N[i]? = some x->σ[i]? = some (some v)->Vis X.env.scope x->∃u,RelV v u/\Look X.env s.heap m x u
 cell:∀x c,X.env.cells.lookup x=some c->∃v,s.heap.IsCell c v
 free:H X.env.locals=none
 freeC:∀x c,X.env.cells.lookup x=some c->H c=none
 pin:∀p∈X.pn++zv,s.heap.get? p.1=some p.2/\H p.1=none/\p.1≠X.env.locals/\p.1∉X.fs/\∀v,p.2.data≠.cell v
 hok:HOk X.prog X.w H s.heap
 len:σ.length=X.N.length
section
variable{X:Cx}{zv:List (Addr×Obj)}{σ:List (Option V)}{H H':Hp}{s:Shared}{h':Heap}
theorem Cx.Ok.nofr(ok:X.Ok){b:Addr}{o:Obj}(e:X.base.get? b=some o):b∉X.fs:=fun hb=>by
 have:=(ok.funs.mem hb).1;rw[e] at this;cases this
theorem Inv.bs(I:Inv X zv σ H s):∀b o,X.base.get? b=some o->s.heap.get? b=some o/\H b=none:=fun b o e =>
 ⟨I.base.keep b o (I.ok.bs b o e).1 (I.ok.bs b o e).2 (I.ok.nofr e) (I.ok.noex b o e),I.base.free b o (I.ok.bs b o e).1 (I.ok.bs b o e).2 (I.ok.noex b o e)⟩
theorem Inv.bk(I:Inv X zv σ H s):∀b o,X.base.get? b=some o->s.heap.get? b=some o:=fun b o e=>(I.bs b o e).1
theorem Inv.mod(I:Inv X zv σ H s):Mod X.K X.mg X.base:=I.ok.mod
theorem Inv.kIn(I:Inv X zv σ H s):X.K.In s.heap:=I.ok.mod.kin.keeps I.bk
theorem Inv.lt(I:Inv X zv σ H s):X.env.locals < s.heap.objs.size:=let ⟨_,hn,_⟩:=I.loc;hn.lt
theorem Inv.sz(I:Inv X zv σ H s):X.s₀.heap.objs.size<=s.heap.objs.size:=Nat.le_trans I.ok.above (Nat.le_of_lt I.lt)
theorem Inv.nofs(I:Inv X zv σ H s){a:Addr}(h:s.heap.objs.size<=a):a∉X.fs:=fun hb=>by
 obtain⟨_,o,ho,_⟩:=I.ok.funs.mem hb;exact absurd (Nat.lt_of_lt_of_le (Heap.lt_size ho) (Nat.le_trans I.sz h)) (Nat.lt_irrefl _)
theorem Inv.cne(I:Inv X zv σ H s):∀x c,X.env.cells.lookup x=some c->c≠X.env.locals:=fun x c e z=>by
 obtain⟨v,o,ho,hd⟩:=I.cell x c e;obtain⟨m,⟨o',es,ep,ho',hd',_⟩,_⟩:=I.loc;rw[z,ho'] at ho;cases ho;rw[hd'] at hd;cases hd
theorem Inv.funs(I:Inv X zv σ H s):s.heap.FunFrames X.base X.outer:=by
 have all:∀(l:List Env),(∀b∈frs l,b∈X.fs)->X.s₀.heap.FunFrames X.base l->s.heap.FunFrames X.base l:=by
  intro l
  induction l with
  | nil=>intro _ _;trivial
  | cons env r ih =>
   intro hs hl;obtain⟨hk,⟨L,o,hf,hn,ho,hd⟩,hr⟩:=hl;have hL:L∈X.fs:=hs L (by unfold frs;rw[List.filterMap_cons,hf];exact List.mem_cons_self)
   obtain⟨sl,e⟩:=I.base.slot L o ho (I.ok.frf L hL) hL fun z=>I.ok.exfs L z hL
   exact⟨hk,⟨L,_,hf,hn,e,hd⟩,ih (fun b hb=>hs b (by unfold frs;rw[List.filterMap_cons,hf];exact List.mem_cons_of_mem _ hb)) hr⟩
 exact all X.outer (fun _ hb=>hb) I.ok.funs
theorem Inv.stack(I:Inv X zv σ H s):s.heap.FunFrames X.base X.stack:=by
 rcases I.ok.stk with e | ⟨e,hf⟩
 ·rw[e];exact I.funs
 ·rw[e];obtain⟨m,hn,_⟩:=I.loc;refine .cons (by rw[I.ok.kind];decide) hf hn ?_ I.funs
  exact Heap.get?_none_of_le (Nat.le_trans I.ok.bsz I.ok.above)
theorem Inv.stkSub(I:Inv X zv σ H s):∀b∈frs X.stack,b∈X.env.locals::X.fs:=fun b hb=>by
 rcases I.ok.stk with e | ⟨e,hf⟩
 ·rw[e] at hb;exact List.mem_cons_of_mem _ hb
 ·rw[e] at hb;unfold frs at hb;rw[List.filterMap_cons,hf] at hb;exact hb
theorem Inv.stkFree(I:Inv X zv σ H s):∀b∈frs X.stack,H b=none:=fun b hb=>by
 rcases List.mem_cons.mp (I.stkSub b hb) with e | hb
 ·rw[e];exact I.free
 ·obtain⟨_,o,ho,_⟩:=I.ok.funs.mem hb;exact I.base.free b o ho (I.ok.frf b hb) fun z=>I.ok.exfs b z hb
theorem Inv.step{g':Array GenState}{t':Nat}{d':Drawn}{ch:List Addr}(I:Inv X zv σ H s)
  (hch:∀b∈ch,(b∈X.ex∨X.s₀.heap.objs.size<=b)/\b≠X.env.locals/\(∀x c,X.env.cells.lookup x=some c->c≠b)/\∀p∈X.pn++zv,p.1≠b)
  (keep:∀b o,b≠X.env.locals->b∉X.fs->b∉ch->s.heap.get? b=some o->H b=none->h'.get? b=some o)
  (slot:∀b o,b≠X.env.locals->b∈X.fs->b∉ch->s.heap.get? b=some o->H b=none->∃sl,h'.get? b=some { o with slots:=sl }) (free:∀b o,b∉ch->s.heap.get? b=some o->H b=none->H' b=none)
  (there:∀b o,b∉ch->s.heap.get? b=some o->∃o',h'.get? b=some o')
  (tups:∀b xs,H b=some (.tup xs)->H' b=some (.tup xs)) (frzs:∀b o u,H b=some (.frz o u)->H' b=some (.frz o u)) (tbls:∀b ps,H b=some (.tbl ps)->∃more,H' b=some (.tbl (ps++more)))
  (ns:∀m,s.heap.Ns X.env.locals m->h'.Ns X.env.locals m) (hok:HOk X.prog X.w H' h') (hg:AllBare g') :
  Inv X zv σ H' { s with heap:=h',gens:=g',drawn:=d',toks:=t' }:=by
 have neL:∀b o,X.s₀.heap.get? b=some o->b≠X.env.locals:=fun b o e=>Nat.ne_of_lt (Nat.lt_of_lt_of_le (Heap.lt_size e) I.ok.above)
 have neC:∀b o,X.s₀.heap.get? b=some o->b∉X.ex->b∉ch:=fun b o e hx hb=>by
  rcases(hch b hb).1 with z | z
  ·exact hx z
  ·exact absurd (Nat.lt_of_lt_of_le (Heap.lt_size e) z) (Nat.lt_irrefl _)
 have cellK:∀x c,X.env.cells.lookup x=some c->∀v,s.heap.IsCell c v->h'.IsCell c v:=fun x c e v hq0=>by
  obtain⟨o,ho,hd⟩:=hq0;have nch:c∉ch:=fun z=>(hch c z).2.2.1 x c e rfl
  by_cases hc:c∈X.fs
  ·obtain⟨sl,q⟩:=slot c o (I.cne x c e) hc nch ho (I.freeC x c e);exact⟨_,q,hd⟩
  ·exact⟨o,keep c o (I.cne x c e) hc nch ho (I.freeC x c e),hd⟩
 refine⟨I.ok,I.os,hg,⟨fun b o e n hb hx =>?_,fun b o e n hb hx =>?_,fun b o e n hx =>?_,fun b o e hx =>?_,fun b xs e=>tups b xs (I.base.tups b xs e),fun b o xs e=>frzs b o xs (I.base.frzs b o xs e),fun b ps e =>?_⟩,?_,fun x c e =>?_,?_,fun x c e =>?_,fun p hp =>?_,hok,I.len⟩
 ·exact keep b o (neL b o e) hb (neC b o e hx) (I.base.keep b o e n hb hx) (I.base.free b o e n hx)
 ·obtain⟨sl,e1⟩:=I.base.slot b o e n hb hx;obtain⟨sl',e2⟩:=slot b _ (neL b o e) hb (neC b o e hx) e1 (I.base.free b o e n hx);exact⟨sl',e2⟩
 ·obtain⟨o',e1⟩:=I.base.there b o e hx;exact free b o' (neC b o e hx) e1 (I.base.free b o e n hx)
 ·obtain⟨o',e1⟩:=I.base.there b o e hx;exact there b o' (neC b o e hx) e1
 ·obtain⟨m1,e1⟩:=I.base.tbls b ps e;obtain⟨m2,e2⟩:=tbls b _ e1;exact⟨m1++m2,by rw[e2,Array.append_assoc]⟩
 ·obtain⟨m,hn,hl⟩:=I.loc;refine⟨m,ns m hn,fun i x v e1 e2 e3 =>?_⟩
  obtain⟨u,r,l⟩:=hl i x v e1 e2 e3;refine⟨u,r,?_⟩;rcases l with l | ⟨k,c,e,z⟩
  ·exact .inl l
  ·exact .inr ⟨k,c,e,cellK x c e _ z⟩
 ·obtain⟨v,z⟩:=I.cell x c e;exact⟨v,cellK x c e v z⟩
 ·obtain⟨m,⟨o,_,_,ho,_⟩,_⟩:=I.loc;exact free _ o (fun z=>(hch _ z).2.1 rfl) ho I.free
 ·obtain⟨v,o,ho,hd⟩:=I.cell x c e;exact free c o (fun z=>(hch c z).2.2.1 x c e rfl) ho (I.freeC x c e)
 ·obtain⟨e,n,ne,nf,d⟩:=I.pin p hp;have nch:p.1∉ch:=fun z=>(hch p.1 z).2.2.2 p hp rfl
  exact⟨keep p.1 p.2 ne nf nch e n,free p.1 p.2 nch e n,ne,nf,d⟩
theorem Inv.un{t':Nat}(I:Inv X zv σ H s)(u:Un X.fs [] H H' s.heap h')(hok:HOk X.prog X.w H' h'):Inv X zv σ H' { s with heap:=h',toks:=t' }:=by
 obtain⟨m,⟨o,es,ep,ho,r⟩,_⟩:=id I.loc;obtain⟨sl,hL⟩:=u.any ho I.free (by simp)
 exact I.step (g':=s.gens) (d':=s.drawn) (ch:=[]) (fun _ z=>nomatch z) (fun b o _ hb _ e n=>u.keep b o e n hb (by simp)) (fun b o _ hb _ e n=>u.slot b o e n hb (by simp)) (fun b o _ e n=>u.free b o e n (by simp)) (fun b o _ e=>u.there b o e (by simp)) u.tups u.frzs u.tbls (fun m' hm=>by
  obtain⟨o',es',ep',ho',r'⟩:=hm;rw[ho] at ho';cases ho';exact⟨_,es',ep',hL,r'⟩) hok I.bare
theorem Inv.call{g':Array GenState}{t':Nat}{d':Drawn}{ch:List Addr}(I:Inv X zv σ H s)(u:Un (frs X.stack) ch H H' s.heap h')(hok:HOk X.prog X.w H' h')(hg:AllBare g')
  (hch:∀b∈ch,(b∈X.ex∨X.s₀.heap.objs.size<=b)/\b≠X.env.locals/\(∀x c,X.env.cells.lookup x=some c->c≠b)/\∀p∈X.pn++zv,p.1≠b) :
  Inv X zv σ H' { s with heap:=h',gens:=g',drawn:=d',toks:=t' }:=by
 obtain⟨m,⟨o,es,ep,ho,r⟩,_⟩:=id I.loc;obtain⟨sl,hL⟩:=u.any ho I.free fun z=>(hch _ z).2.1 rfl
 exact I.step (ch:=ch) hch (fun b o hL hb hc e n=>u.keep b o e n (fun z=>(List.mem_cons.mp (I.stkSub b z)).elim hL hb) hc) (fun b o _ _ hc e n=>u.any e n hc) (fun b o hc e n=>u.free b o e n hc) (fun b o hc e=>u.there b o e hc) u.tups u.frzs u.tbls (fun m' hm=>by
  obtain⟨o',es',ep',ho',r'⟩:=hm;rw[ho] at ho';cases ho';exact⟨_,es',ep',hL,r'⟩) hok hg
theorem Inv.turned{t':Nat}{it:Addr}(I:Inv X zv σ H s)(k:∀b o,b≠it->s.heap.get? b=some o->h'.get? b=some o)(hn:H it=none)(hL:it≠X.env.locals)
  (h1:it∈X.ex∨X.s₀.heap.objs.size<=it) (h2:∀x c,X.env.cells.lookup x=some c->c≠it) (h3:∀p∈X.pn++zv,p.1≠it):Inv X zv σ H { s with heap:=h',toks:=t' }:=by
 have nit:∀b u,H b=some u->b≠it:=fun b u e z=>by rw[z,hn] at e;cases e
 refine I.step (g':=s.gens) (d':=s.drawn) (ch:=[it]) (fun b hb =>?_) (fun b o _ _ hc e _=>k b o (fun z=>hc (by simp[z])) e) (fun b o _ _ hc e _=>⟨o.slots,k b o (fun z=>hc (by simp[z])) e⟩) (fun _ _ _ _ n=>n)
  (fun b o hc e=>⟨o,k b o (fun z=>hc (by simp[z])) e⟩) (fun _ _ e=>e) (fun _ _ _ e=>e) (fun b ps e=>⟨#[],by rw[e];simp⟩) (fun m hm =>?_) (fun b u e =>?_) I.bare
 ·have e:b=it:=by simpa using hb
  subst e;exact⟨h1,hL,h2,h3⟩
 ·obtain⟨o,es,ep,ho,r⟩:=hm;exact⟨o,es,ep,k _ o (Ne.symm hL) ho,r⟩
 ·refine(I.hok b u e).stay (fun c v hc q=>k c v ?_ q) (fun _ q=>q) fun _ _ q=>q
  rcases hc with z | z
  ·rw[z];exact nit b u e
  ·exact nit c _ z
theorem Inv.tok(I:Inv X zv σ H s)(t:Nat):Inv X zv σ H { s with toks:=t }:=I.un (h':=s.heap) (t':=t) Un.refl I.hok
theorem Inv.kept{t':Nat}(I:Inv X zv σ H s)(k:∀b u,s.heap.get? b=some u->h'.get? b=some u):Inv X zv σ H { s with heap:=h',toks:=t' }:=I.un (Un.kept k) (I.hok.kept k)
theorem Inv.laid{a:Addr}{o:HO}{t':Nat}(I:Inv X zv σ H s)(k:∀b u,s.heap.get? b=some u->h'.get? b=some u)(hp:s.heap.objs.size<=a)(new:rn X.prog X.w (upd H a o) h' a o) :
  Inv X zv σ (upd H a o) { s with heap:=h',toks:=t' }:=I.un (Un.laid k hp (I.hok.fresh hp)) (I.hok.laid k hp new)
theorem Inv.write{x e:Addr}{o:HO}{t':Nat}(I:Inv X zv σ H s)(mu:Mut (H x))(he:e=x∨H e=some (.own x))(k:∀b u,b≠e->s.heap.get? b=some u->h'.get? b=some u)(heo:∃u,h'.get? e=some u)
  (new:rn X.prog X.w (upd H x o) h' x o):Inv X zv σ (upd H x o) { s with heap:=h',toks:=t' }:=I.un (Un.write mu he k heo) (I.hok.write mu he k heo new)
theorem Inv.pins_of{pins':List (Addr×Obj)}(I:Inv X zv σ H s)(h:∀p∈pins',s.heap.get? p.1=some p.2/\H p.1=none/\p.1≠X.env.locals/\p.1∉X.fs/\∀v,p.2.data≠.cell v):Inv X pins' σ H s :=
 ⟨I.ok,I.os,I.bare,I.base,I.loc,I.cell,I.free,I.freeC,fun p hp=>(List.mem_append.mp hp).elim (fun z=>I.pin p (List.mem_append_left _ z)) (h p),I.hok,I.len⟩
theorem af0{N:List Str}(hN:N.Nodup){i j:Nat}{x:Str}(a:N[i]? = some x)(b:N[j]? = some x):i=j:=by
 obtain⟨h1,e1⟩:=List.getElem?_eq_some_iff.mp a;obtain⟨h2,e2⟩:=List.getElem?_eq_some_iff.mp b;exact(List.getElem_inj hN).mp (e1.trans e2.symm)
theorem agj{M:Model}{A:Around}{E:Value->Shared->Prop}{i:Nat}{x:Str}{v:V}{u:Value}{Q:Unit->Shared->Prop}(I:Inv X zv σ H s)(hN:X.N.Nodup)(hi:X.N[i]? = some x)(hx:Loc X.env.scope x)(r:RelV v u)
  (h:∀s',Inv X zv (σ.set i (some v)) H s'->(∃a,Heap.SameBut a s.heap s'.heap/\(a=X.env.locals∨X.env.cells.lookup x=some a))->Q () s') (hf:X.fn x=true∨X.env.scope.names.lookup x=some .local:=by first | exact .inl rfl | exact .inr rfl | assumption):wpAny M A (storeName X.env x u) Q E s:=by
 obtain⟨m,hn,hl⟩:=id I.loc;have hcls:(X.env.scope.kind==.class||(X.env.scope.kind==.module&&X.env.locals != X.env.globals))=false:=by rw[I.ok.kind];rfl
 have hiσ:i < σ.length:=by rw[I.len];exact(List.getElem?_eq_some_iff.mp hi).1
 have cne:=I.cne;have tracked:∀{a:Addr} {h':Heap},(∃o,s.heap.get? a=some o/\H a=none)->Heap.SameBut a s.heap h'->HOk X.prog X.w H h':=fun{a h'} ha hs b ob e=>by
  obtain⟨_,_,hfree⟩:=ha;refine(I.hok b ob e).stay (fun c w' hc q=>(hs.2 c ?_).trans q) (fun _ q=>q) fun _ _ q=>q
  rintro rfl
  rcases hc with rfl | hc
  ·rw[hfree] at e;cases e
  ·rw[hfree] at hc;cases hc
 rcases hx with hk | hk
 ·refine wpAny_storeName_local hk hn (fun h' hn' hs =>?_) hcls
  obtain⟨oL,_,_,hoL,_⟩:=id hn;refine h _ ⟨I.ok,I.os,I.bare,⟨fun b o e n hb hx =>?_,fun b o e n hb hx =>?_,I.base.free,fun b o e hx =>?_,I.base.tups,I.base.frzs,I.base.tbls⟩,⟨_,hn',fun j y v' e1 e2 e3 =>?_⟩,fun y c e =>?_,I.free,I.freeC,fun p hp =>?_,tracked ⟨oL,hoL,I.free⟩ hs,by simpa using I.len⟩ ⟨_,hs,.inl rfl⟩
  ·exact(hs.2 b (Nat.ne_of_lt (Nat.lt_of_lt_of_le (Heap.lt_size e) I.ok.above))).trans (I.base.keep b o e n hb hx)
  ·obtain⟨sl,e1⟩:=I.base.slot b o e n hb hx;exact⟨sl,(hs.2 b (Nat.ne_of_lt (Nat.lt_of_lt_of_le (Heap.lt_size e) I.ok.above))).trans e1⟩
  ·obtain⟨o',e1⟩:=I.base.there b o e hx;exact⟨o',(hs.2 b (Nat.ne_of_lt (Nat.lt_of_lt_of_le (Heap.lt_size e) I.ok.above))).trans e1⟩
  ·by_cases hj:j=i
   ·subst hj;rw[hi] at e1;cases e1;rw[List.getElem?_set_self hiσ] at e2;cases e2;exact⟨u,r,.inl ⟨hk,by simp⟩⟩
   ·rw[List.getElem?_set_ne (Ne.symm hj)] at e2;obtain⟨u',r',q⟩:=hl j y v' e1 e2 e3;refine⟨u',r',?_⟩;rcases q with⟨k,e⟩ | ⟨k,c,e,z⟩
    ·refine .inl ⟨k,?_⟩;have:y≠x:=fun e=>hj (af0 hN e1 (e▸hi))
     simp[this,e]
    ·exact .inr ⟨k,c,e,z.sameBut hs (cne y c e)⟩
  ·obtain⟨w',z⟩:=I.cell y c e;exact⟨w',z.sameBut hs (cne y c e)⟩
  ·obtain⟨e,n,ne,nf,d⟩:=I.pin p hp;exact⟨(hs.2 p.1 ne).trans e,n,ne,nf,d⟩
 ·have hfn:X.fn x=true:=by
   rcases hf with z | z
   ·exact z
   ·rw[z] at hk;cases hk
  obtain⟨c,hc⟩:=I.ok.has x (.inl hk);obtain⟨w',z⟩:=I.cell x c hc;refine wpAny_storeName_cell I.ok.kind hk hc z (fun h' hc' hs =>?_)
  obtain⟨oc,hoc,hocd⟩:=id z;refine h { s with heap:=h' } ⟨I.ok,I.os,I.bare,⟨fun b o e n hb hx =>?_,fun b o e n hb hx =>?_,I.base.free,fun b o e hx =>?_,I.base.tups,I.base.frzs,I.base.tbls⟩,⟨m,hn.sameBut hs (Ne.symm (cne x c hc)),fun j y v' e1 e2 e3 =>?_⟩,fun y c' e =>?_,I.free,I.freeC,fun p hp =>?_,tracked ⟨oc,hoc,I.freeC x c hc⟩ hs,by simpa using I.len⟩ ⟨c,hs,.inr hc⟩
  ·exact(hs.2 b (Nat.ne_of_lt (Nat.lt_of_lt_of_le (Heap.lt_size e) (I.ok.cab x c hfn hc)))).trans (I.base.keep b o e n hb hx)
  ·obtain⟨sl,e1⟩:=I.base.slot b o e n hb hx;exact⟨sl,(hs.2 b (Nat.ne_of_lt (Nat.lt_of_lt_of_le (Heap.lt_size e) (I.ok.cab x c hfn hc)))).trans e1⟩
  ·obtain⟨o',e1⟩:=I.base.there b o e hx;exact⟨o',(hs.2 b (Nat.ne_of_lt (Nat.lt_of_lt_of_le (Heap.lt_size e) (I.ok.cab x c hfn hc)))).trans e1⟩
  ·by_cases hj:j=i
   ·subst hj;rw[hi] at e1;cases e1;rw[List.getElem?_set_self hiσ] at e2;cases e2;exact⟨u,r,.inr ⟨.inl hk,c,hc,hc'⟩⟩
   ·rw[List.getElem?_set_ne (Ne.symm hj)] at e2;obtain⟨u',r',q⟩:=hl j y v' e1 e2 e3;refine⟨u',r',?_⟩;rcases q with q | ⟨k,c',e,z'⟩
    ·exact .inl q
    ·refine .inr ⟨k,c',e,z'.sameBut hs ?_⟩
     rintro rfl
     exact hj (af0 hN e1 (I.ok.inj _ _ _ e hc▸hi))
  ·by_cases hcc:c'=c
   ·subst hcc;exact⟨_,hc'⟩
   ·obtain⟨w2,z2⟩:=I.cell y c' e;exact⟨w2,z2.sameBut hs hcc⟩
  ·obtain⟨e,n,ne,nf,d⟩:=I.pin p hp;refine⟨(hs.2 p.1 ?_).trans e,n,ne,nf,d⟩;intro q;rw[q,hoc] at e;have q':oc=p.2:=Option.some.inj e;exact d w' (by rw[<-q'];exact hocd)
theorem uf{M:Model}{A:Around}{E:Value->Shared->Prop}{i:Nat}{x:Str}{v:V}{u:Value}{Q:Unit->Shared->Prop}(I:Inv X zv σ H s)(hN:X.N.Nodup)(hi:X.N[i]? = some x)(hx:Loc X.env.scope x)(r:RelV v u)
  (h:∀s',Inv X zv (σ.set i (some v)) H s'->Q () s') (hf:X.fn x=true∨X.env.scope.names.lookup x=some .local:=by first | exact .inl rfl | exact .inr rfl | assumption):wpAny M A (storeName X.env x u) Q E s :=
 agj I hN hi hx r (fun s' I' _=>h s' I') hf
theorem Inv.call'{s':Shared}{ch:List Addr}(I:Inv X zv σ H s)(ho:s'.os=s.os)(u:Un (frs X.stack) ch H H' s.heap s'.heap)(hok:HOk X.prog X.w H' s'.heap)(hg:AllBare s'.gens)
  (hch:∀b∈ch,(b∈X.ex∨X.s₀.heap.objs.size<=b)/\b≠X.env.locals/\(∀x c,X.env.cells.lookup x=some c->c≠b)/\∀p∈X.pn++zv,p.1≠b):Inv X zv σ H' s':=by
 obtain⟨h',g',d',t',o'⟩:=s';have e:o'=s.os:=ho;subst e;exact I.call (g':=g') (t':=t') (d':=d') u hok hg hch
end
abbrev XK:=Value->Option Addr->Hp->Prop
abbrev St:=List (Option V)
abbrev VK:=V->Hp->Prop
abbrev TE:=St->Hp->VK->Prop
abbrev TT:=St->Hp->(Bool->Hp->Prop)->Prop
abbrev TA:=St->Hp->(List V->Hp->Prop)->Prop
structure Ends where
 nx:St->Hp->Prop
 rt:VK
 bk:St->Hp->Prop:=fun _ _=>False
 ct:St->Hp->Prop:=fun _ _=>False
abbrev TS:=Ends->St->Hp->Prop
def EP(X:Cx)(zv:List (Addr×Obj))(σ:St)(Q:VK)(u:Value)(s':Shared):Prop:=∃v H',Inv X zv σ H' s'/\RelV v u/\Q v H'
def TP(X:Cx)(zv:List (Addr×Obj))(σ:St)(Q:Bool->Hp->Prop)(b:Bool)(s':Shared):Prop:=∃H',Inv X zv σ H' s'/\Q b H'
def AP(X:Cx)(zv:List (Addr×Obj))(σ:St)(Q:List V->Hp->Prop)(us:List Value)(s':Shared):Prop:=∃vs H',Inv X zv σ H' s'/\Vals vs us/\Q vs H'
def SP(X:Cx)(zv:List (Addr×Obj))(D:Ends)(f:Flow)(s':Shared):Prop :=
 match f with
 | .next=>∃σ' H',Inv X zv σ' H' s'/\D.nx σ' H'
 | .brk=>∃σ' H',Inv X zv σ' H' s'/\D.bk σ' H'
 | .cont=>∃σ' H',Inv X zv σ' H' s'/\D.ct σ' H'
 | .ret u=>∃v σ' H',Inv X zv σ' H' s'/\RelV v u/\D.rt v H'
def PE(X:Cx)(e:Expr)(t:TE):Prop :=
 ∀(zv:List (Addr×Obj)) (s:Shared) (σ:St) (H:Hp) (Q:VK),Inv X zv σ H s->t σ H Q->wpAny (model X.prog X.w) X.A (eval e X.env) (EP X zv σ Q) X.xe s
def PT(X:Cx)(e:Expr)(t:TT):Prop :=
 ∀(zv:List (Addr×Obj)) (s:Shared) (σ:St) (H:Hp) (Q:Bool->Hp->Prop),Inv X zv σ H s->t σ H Q->wpAny (model X.prog X.w) X.A (isTrue e X.env (eval e X.env)) (TP X zv σ Q) X.xe s
def PW(X:Cx)(e:Expr)(t:TT):Prop :=
 ∀(whole:Sem Value) (zv:List (Addr×Obj)) (s:Shared) (σ:St) (H:Hp) (Q:Bool->Hp->Prop),Inv X zv σ H s->t σ H Q->wpAny (model X.prog X.w) X.A (isTrue e X.env whole) (TP X zv σ Q) X.xe s
theorem PW.pt{X:Cx}{e:Expr}{t:TT}(h:PW X e t):PT X e t:=h _
def PA(X:Cx)(es:List Expr)(t:TA):Prop :=
 ∀(pos:Pos) (zv:List (Addr×Obj)) (s:Shared) (σ:St) (H:Hp) (Q:List V->Hp->Prop),Inv X zv σ H s->t σ H Q->wpAny (model X.prog X.w) X.A (spliced (backTo pos (starEach es X.env))) (AP X zv σ Q) X.xe s
def PS(X:Cx)(st:Stmt)(t:TS):Prop :=
 ∀(zv:List (Addr×Obj)) (s:Shared) (σ:St) (H:Hp) (D:Ends),Inv X zv σ H s->t D σ H->wpAny (model X.prog X.w) X.A (exec st X.env) (SP X zv D) X.xe s
def PSs(X:Cx)(st:List Stmt)(t:TS):Prop :=
 ∀(zv:List (Addr×Obj)) (s:Shared) (σ:St) (H:Hp) (D:Ends),Inv X zv σ H s->t D σ H->wpAny (model X.prog X.w) X.A (execs st X.env) (SP X zv D) X.xe s
theorem thn{α:Type}{t:Sem α}{Q Q':α->Shared->Prop}{M:Model}{A:Around}{E:Value->Shared->Prop}{s:Shared}(h:wpAny M A t Q E s)(hQ:∀a s,Q a s->Q' a s):wpAny M A t Q' E s:=wpAny_mono h hQ fun _ _ x=>x
section
variable{X:Cx}
def tVar(i:Nat):TE:=fun σ H Q=>∃v,σ[i]? = some (some v)/\Q v H
def tC(v:V):TE:=fun _ H Q=>Q v H
theorem aua{i:Nat}{x:Str}{pos:Pos}(hN:X.N[i]? = some x)(hv:Vis X.env.scope x)(hd:(x==("__debug__" : Str))=false:=by decide)(hcd:(x==("__classdict__" : Str))=false:=by decide):PE X (.Name x pos) (tVar i):=by
 intro zv s σ H Q I h;obtain⟨v,e,h⟩:=h;obtain⟨m,hn,hl⟩:=I.loc;obtain⟨u,r,l⟩:=hl i x v hN e hv;have fin:EP X zv σ Q u s:=⟨v,H,I,r,h⟩;rcases l with⟨hk,hm⟩ | ⟨hk,c,hc,hcell⟩
 ·exact wpAny_Name (wpAny_loadName_local I.ok.kind hk hn hm fin) hd
 ·rcases hk with hk | hk
  ·exact wpAny_Name (wpAny_loadName_cell I.ok.kind hk hc hcell fin) hd
  ·exact wpAny_Name (wpAny_loadName_free I.ok.kind hk hc hcell fin hcd) hd
theorem auh{i j pos}:PE X (.Constant (.int i) j pos) (tC (.int i)):=fun _ _ _ H _ I h=>wpAny_Constant_int ⟨.int i,H,I.tok _,⟨_,rfl⟩,h⟩
theorem axx{b j pos}:PE X (.Constant (.bool b) j pos) (tC (.bl b)):=fun _ _ _ H _ I h=>Constant_bool ⟨.bl b,H,I,rfl,h⟩
theorem aue{j pos}:PE X (.Constant .none j pos) (tC .non):=fun _ _ _ H _ I h=>Constant_none ⟨.non,H,I,rfl,h⟩
theorem aub{x j pos}:PE X (.Constant (.str x) j pos) (tC (.str x)):=fun _ _ _ H _ I h=>Calls.Constant_str ⟨.str x,H,I.tok _,⟨_,rfl⟩,h⟩
def Gl(X:Cx)(x:Str):Prop:=X.env.kindOf x=some .globalImplicit
theorem aaf{E:Value->Shared->Prop}{zv:List (Addr×Obj)}{s:Shared}{σ:St}{H:Hp}{x:Str}{u:Value}{pos:Pos}{Q:Value->Shared->Prop}(I:Inv X zv σ H s)(hg:Gl X x)(hm:X.mg x=some u)(h:Q u s)
  (hd:(x==("__debug__" : Str))=false:=by decide):wpAny (model X.prog X.w) X.A (eval (.Name x pos) X.env) Q E s :=
 Calls.Name_function_global I.ok.kind hg (Calls.loadGlobal_global (by rw[I.ok.glob];exact I.mod.glob.keeps I.bk) hm h) hd
theorem ae0{E:Value->Shared->Prop}{zv:List (Addr×Obj)}{s:Shared}{σ:St}{H:Hp}{x:Str}{u:Value}{pos:Pos}{Q:Value->Shared->Prop}(I:Inv X zv σ H s)(hg:Gl X x)(hm:X.mg x=none)(hv:bootBuiltins x=some u)(h:Q u s)
  (hn:x ≠ "__name__" := by decide) (hd:(x==("__debug__" : Str))=false:=by decide):wpAny (model X.prog X.w) X.A (eval (.Name x pos) X.env) Q E s:=by
 obtain⟨mb,h1,h2⟩:=I.mod.blt;exact Calls.Name_function_global I.ok.kind hg (Calls.loadGlobal_builtin (by rw[I.ok.glob];exact I.mod.glob.keeps I.bk) hm (by rw[I.ok.blt];exact h1.keeps I.bk) ((h2 x hn).trans hv) h) hd
theorem alo{x:Str}{v:V}{u:Value}{pos:Pos}(hg:Gl X x)(hm:X.mg x=some u)(r:RelV v u)(hd:(x==("__debug__" : Str))=false:=by decide):PE X (.Name x pos) (tC v) :=
 fun _ _ _ H _ I h=>aaf I hg hm ⟨v,H,I,r,h⟩ hd
theorem arl{x:Str}{v:V}{u:Value}{pos:Pos}(hg:Gl X x)(hm:X.mg x=none)(hv:bootBuiltins x=some u)(r:RelV v u)(hn:x ≠ "__name__" := by decide)(hd:(x==("__debug__" : Str))=false:=by decide):PE X (.Name x pos) (tC v) :=
 fun _ _ _ H _ I h=>ae0 I hg hm hv ⟨v,H,I,r,h⟩ hn hd
variable{a b:Expr}{ta tb:TE}{pos:Pos}
def tB(t:TE):TT:=fun σ H Q=>t σ H fun x H1=>∃c,x=.bl c/\Q c H1
theorem at4{e:Expr}{t:TE}(h:PE X e t)(he:∀whole,isTrue e X.env whole=(do let v <-whole;standAt e.pos;holding [v] (truthy v)):=by intro _;rfl):PT X e (tB t):=by
 intro zv s σ H Q I hw;refine isTrue_plain (thn (h zv s σ H _ I hw) fun v s1 ⟨x,H1,I1,r1,q1⟩ =>?_) (he _)
 obtain⟨d,rfl,q⟩:=q1;cases r1;exact wpAny_truthy_bool ⟨H1,I1,q⟩
variable{tA tB':TT}{rest:List Expr}
def tOr(t u:TT):TT:=fun σ H Q=>t σ H fun c H1=>if c=true then Q true H1 else u σ H1 Q
def tNot(t:TT):TT:=fun σ H Q=>t σ H fun c H1=>Q (!c) H1
theorem aty(ha:PT X a tA):PW X (.BoolOp .Or [a] pos) tA:=by
 intro wh zv s σ H Q I h;refine isTrue_or (thn (ha zv s σ H Q I h) fun c s1 e =>?_)
 cases c with
 | false=>exact isTrue_or_nil e
 | true=>exact e
theorem axp(ha:PT X a tA)(hb:PW X (.BoolOp .Or (b::rest) pos) tB'):PW X (.BoolOp .Or (a::b::rest) pos) (tOr tA tB'):=by
 intro wh zv s σ H Q I h;refine isTrue_or (thn (ha zv s σ H _ I h) fun c s1 ⟨H1,I1,q1⟩ =>?_)
 cases c with
 | true=>exact⟨H1,I1,q1⟩
 | false=>exact hb wh zv s1 σ H1 Q I1 q1
theorem at5(ha:PT X a tA):PT X (.UnaryOp .Not a pos) (tNot tA):=by
 intro zv s σ H Q I h;exact isTrue_not (ha zv s σ H (fun c H1=>Q (!c) H1) I h)
def axl(ta tb:TE):TE:=fun σ H Q=>ta σ H fun x H1=>∃c,x=.bl c/\if c=true then tb σ H1 Q else Q (.bl false) H1
def axe(ta:TE):TE:=fun σ H Q=>ta σ H fun x H1=>∃c,x=.bl c/\Q (.bl (!c)) H1
theorem auc{op}{t:TE}(h:PE X a t):PE X (.BoolOp op [a] pos) t:=fun zv s σ H Q I hw=>BoolOp_one (h zv s σ H Q I hw)
theorem auk(ha:PE X a ta)(hb:PE X (.BoolOp .And (b::rest) pos) tb):PE X (.BoolOp .And (a::b::rest) pos) (axl ta tb):=by
 intro zv s σ H Q I h;refine BoolOp_and (thn (ha zv s σ H _ I h) fun v s1 ⟨x,H1,I1,r1,q1⟩ =>?_)
 obtain⟨c,rfl,q1⟩:=q1;cases r1;refine wpAny_truthy_bool ?_;cases c with
 | true=>exact hb zv s1 σ H1 Q I1 q1
 | false=>exact⟨.bl false,H1,I1,rfl,q1⟩
theorem aud(ha:PE X a ta):PE X (.UnaryOp .Not a pos) (axe ta):=by
 intro zv s σ H Q I h;refine UnaryOp_ (thn (ha zv s σ H _ I h) fun v s1 ⟨x,H1,I1,r1,q1⟩ =>?_)
 obtain⟨c,rfl,q1⟩:=q1;cases r1;exact not_of (wpAny_truthy_bool ⟨.bl (!c),H1,I1,rfl,q1⟩)
end
def SqL(K:Fg9)(H:Hp)(a:Addr)(xs:List V):Prop :=
 Rd H a (.lst xs) ∨
  ∃(o:Obj) (its:Array Value) (n:Nat),K.lookup a=some o/\o.cls=.type "list" /\ o.dict=none/\o.data=.seq its n/\its.size<=sizeLine/\Vals xs its.toList
def SqT(K:Fg9)(H:Hp)(a:Addr)(xs:List V):Prop :=
 Rd H a (.tup xs) ∨
  ∃(o:Obj) (its:Array Value) (n:Nat),K.lookup a=some o/\o.cls=.type "tuple" /\ o.data=.seq its n/\its.size<=sizeLine/\Vals xs its.toList
def absV:Value->Option V
 | .none=>some .non
 | .bool b=>some (.bl b)
 | .int i _=>some (.int i)
 | .str x _=>some (.str x)
 | .bytes b _=>some (.byt b)
 | .float b _=>some (.flt b)
 | .ref a=>some (.ref a)
 | .type n=>some (.ty n)
 | _=>none
theorem RelV.abs{x:V}{u:Value}(r:RelV x u):absV u=some x:=by
 cases x with
 | non=>cases r;rfl
 | bl _=>cases r;rfl
 | int _=>obtain⟨t,rfl⟩:=r;rfl
 | str _=>obtain⟨t,rfl⟩:=r;rfl
 | byt _=>obtain⟨t,rfl⟩:=r;rfl
 | flt _=>obtain⟨t,rfl⟩:=r;rfl
 | ref _=>cases r;rfl
 | ty _=>cases r;rfl
theorem RelV.inj{x y:V}{u:Value}(r:RelV x u)(q:RelV y u):x=y:=Option.some.inj (r.abs.symm.trans q.abs)
theorem Vals.inj:∀{xs ys:List V} {us:List Value},Vals xs us->Vals ys us->xs=ys
 | _,_,_,.nil,.nil=>rfl
 | _,_,_,.cons r t,.cons r' t'=>by rw[r.inj r',Vals.inj t t']
section
variable{X:Cx}{zv:List (Addr×Obj)}{σ:St}{H:Hp}{s:Shared}{a:Addr}{xs ys:List V}
theorem SqL.of{K:Fg9}(h:H a=some (.lst xs)):SqL K H a xs:=.inl (.inl h)
theorem SqT.of{K:Fg9}(h:H a=some (.tup xs)):SqT K H a xs:=.inl (.inl h)
theorem Inv.list(I:Inv X zv σ H s)(h:SqL X.K H a xs):∃its:List Value,Vals xs its/\PlainL s.heap a its.toArray/\xs.length<=sizeLine:=by
 rcases h with h | ⟨o,its,n,hk,hc,hd,hs,hz,r⟩
 ·obtain⟨z,its,n,r,e⟩:=h.ok I.hok;exact⟨its,r,⟨_,n,e,rfl,rfl,rfl⟩,z⟩
 ·refine⟨its.toList,r,⟨o,n,I.kIn a o hk,hc,hd,by simpa using hs⟩,?_⟩
  have e:=r.length;simp only[Array.length_toList] at e;omega
theorem Inv.tuple(I:Inv X zv σ H s)(h:SqT X.K H a xs):∃its:List Value,Vals xs its/\IsTup s.heap a its.toArray/\xs.length<=sizeLine:=by
 rcases h with h | ⟨o,its,n,hk,hc,hs,hz,r⟩
 ·obtain⟨z,its,r,p⟩:=h.ok I.hok;exact⟨its,r,p.tup,z⟩
 ·refine⟨its.toList,r,⟨o,I.kIn a o hk,hc,n,by simpa using hs⟩,?_⟩
  have e:=r.length;simp only[Array.length_toList] at e;omega
theorem Inv.list_inj(I:Inv X zv σ H s)(h:SqL X.K H a xs)(h':SqL X.K H a ys):xs=ys:=by
 obtain⟨its,r,⟨o,n,e,_,_,d⟩,_⟩:=I.list h;obtain⟨its',r',⟨o',n',e',_,_,d'⟩,_⟩:=I.list h';rw[e] at e';cases e';rw[d] at d'
 injection d' with d1 _
 have:its=its':=by simpa using congrArg Array.toList d1
 subst this;exact r.inj r'
theorem Inv.tuple_inj(I:Inv X zv σ H s)(h:SqT X.K H a xs)(h':SqT X.K H a ys):xs=ys:=by
 obtain⟨its,r,⟨o,e,_,n,d⟩,_⟩:=I.tuple h;obtain⟨its',r',⟨o',e',_,n',d'⟩,_⟩:=I.tuple h';rw[e] at e';cases e';rw[d] at d'
 injection d' with d1 _
 have:its=its':=by simpa using congrArg Array.toList d1
 subst this;exact r.inj r'
end
abbrev Cx.wish(X:Cx)(E:Value->Shared->Prop):Cx:={ X with xe:=E }
abbrev Cx.nox(X:Cx):Cx:=X.wish fun _ _=>False
theorem Cx.Ok.wish{X:Cx}(ok:X.Ok)(E:Value->Shared->Prop):(X.wish E).Ok :=
 ⟨ok.mod,ok.kind,ok.glob,ok.blt,ok.above,ok.inj,ok.has,ok.cab,ok.hd,ok.frames,ok.stk,ok.exf,ok.bs,ok.bsz,ok.noex,ok.exfs,ok.funs,ok.frf⟩
theorem Cx.Ok.unwish{X:Cx}{E:Value->Shared->Prop}(ok:(X.wish E).Ok):X.Ok :=
 ⟨ok.mod,ok.kind,ok.glob,ok.blt,ok.above,ok.inj,ok.has,ok.cab,ok.hd,ok.frames,ok.stk,ok.exf,ok.bs,ok.bsz,ok.noex,ok.exfs,ok.funs,ok.frf⟩
section
variable{X:Cx}{zv:List (Addr×Obj)}{σ:St}{H:Hp}{s:Shared}{E:Value->Shared->Prop}
theorem Inv.wish(I:Inv X zv σ H s)(E:Value->Shared->Prop):Inv (X.wish E) zv σ H s:=⟨I.ok.wish E,I.os,I.bare,I.base,I.loc,I.cell,I.free,I.freeC,I.pin,I.hok,I.len⟩
theorem Inv.unwish(I:Inv (X.wish E) zv σ H s):Inv X zv σ H s:=⟨I.ok.unwish,I.os,I.bare,I.base,I.loc,I.cell,I.free,I.freeC,I.pin,I.hok,I.len⟩
theorem SP.unwish{D:Ends}{f:Flow}{s':Shared}(h:SP (X.wish E) zv D f s'):SP X zv D f s':=by
 cases f with
 | next=>obtain⟨σ',H',I,q⟩:=h;exact⟨σ',H',I.unwish,q⟩
 | brk=>obtain⟨σ',H',I,q⟩:=h;exact⟨σ',H',I.unwish,q⟩
 | cont=>obtain⟨σ',H',I,q⟩:=h;exact⟨σ',H',I.unwish,q⟩
 | ret u=>obtain⟨v,σ',H',I,r,q⟩:=h;exact⟨v,σ',H',I.unwish,r,q⟩
theorem PSs.nox{st:List Stmt}{t:TS}(h:PSs X.nox st t):PSs X st t:=fun zv s σ H D I hw =>
 wpAny_mono (h zv s σ H D (I.wish _) hw) (fun _ _ q=>q.unwish) fun _ _ z=>False.elim z
end
section
variable{X:Cx}{st:Stmt}{rest:List Stmt}{t u:TS}{e:Expr}{te:TE}{pos:Pos}
def axf:TS:=fun D σ H=>D.nx σ H
def tSeq(t u:TS):TS:=fun D σ H=>t { D with nx:=u D } σ H
theorem alh:PSs X [] axf:=fun _ _ σ H _ I h=>wpAny_execs_nil ⟨σ,H,I,h⟩
theorem afo(h1:PS X st t)(h2:PSs X rest u):PSs X (st::rest) (tSeq t u):=by
 intro zv s σ H D I h;refine wpAny_execs_cons (thn (h1 zv s σ H { D with nx:=u D } I h) fun f s1 q =>?_)
 cases f with
 | next =>
  obtain⟨σ',H',I',q⟩:=q;exact h2 zv s1 σ' H' D I' q
 | ret v=>exact q
 | brk=>exact q
 | cont=>exact q
theorem alg(h1:PS X st t):PSs X [st] t:=by
 intro zv s σ H D I h;refine wpAny_execs_cons (thn (h1 zv s σ H D I h) fun f s1 q =>?_)
 cases f with
 | next=>exact wpAny_execs_nil q
 | ret v=>exact q
 | brk=>exact q
 | cont=>exact q
theorem Inv.quiet{zv:List (Addr×Obj)}{σ:St}{H:Hp}{s:Shared}(I:Inv X zv σ H s):interactive X.env=false:=by simp[interactive,I.ok.kind]
def axi(te:TE):TS:=fun D σ H=>te σ H fun _ H1=>D.nx σ H1
theorem aq5(he:PE X e te)(hs:swapsWith e none pos.line X.env=pure false:=by rfl):PS X (.Expr e pos) (axi te):=by
 intro zv s σ H D I h;exact wpAny_Expr_any (thn (he zv s σ H _ I h) fun v s1 ⟨x,H1,I1,r1,q1⟩=>⟨σ,H1,I1,q1⟩) I.quiet hs
def tRet(te:TE):TS:=fun D σ H=>te σ H D.rt
theorem at6(he:PE X e te):PS X (.Return (some e) pos) (tRet te):=by
 intro zv s σ H D I h;exact wpAny_Return_some (thn (he zv s σ H _ I h) fun v s1 ⟨x,H1,I1,r1,q1⟩=>⟨x,σ,H1,I1,r1,q1⟩)
def tIfS(c:TT)(t u:TS):TS:=fun D σ H=>c σ H fun b H1=>if b=true then t D σ H1 else u D σ H1
theorem axs{c:Expr}{a b:List Stmt}{tc:TT}(hc:PT X c tc)(ha:PSs X a t)(hb:PSs X b u):PS X (.If c a b pos) (tIfS tc t u):=by
 intro zv s σ H D I h;refine wpAny_If (thn (hc zv s σ H _ I h) fun d s1 ⟨H1,I1,q1⟩ =>?_)
 cases d with
 | true=>exact ha zv s1 σ H1 D I1 q1
 | false=>exact hb zv s1 σ H1 D I1 q1
def atk:TS:=fun _ _ _=>False
theorem ai1:PS X st atk:=fun _ _ _ _ _ _ h=>h.elim
end
abbrev TG:=V->St->Hp->(St->Hp->Prop)->Prop
abbrev TGs:=List V->St->Hp->(St->Hp->Prop)->Prop
def PG(X:Cx)(target:Expr)(t:TG):Prop :=
 ∀(zv:List (Addr×Obj)) (s:Shared) (σ:St) (H:Hp) (v:V) (u:Value) (Q:St->Hp->Prop),Inv X zv σ H s->RelV v u->t v σ H Q ->
  wpAny (model X.prog X.w) X.A (assign target X.env u) (fun _ s'=>∃σ' H',Inv X zv σ' H' s'/\Q σ' H') X.xe s
def PGs(X:Cx)(ts:List Expr)(t:TGs):Prop :=
 ∀(zv:List (Addr×Obj)) (s:Shared) (σ:St) (H:Hp) (vs:List V) (us:List Value) (Q:St->Hp->Prop),Inv X zv σ H s->Vals vs us->t vs σ H Q ->
  wpAny (model X.prog X.w) X.A (assignInOrder ((assignEach ts X.env).map (·.2)) us) (fun _ s'=>∃σ' H',Inv X zv σ' H' s'/\Q σ' H') X.xe s
abbrev TSet:=V->V->V->Hp->(Hp->Prop)->Prop
def PSet(X:Cx)(t:TSet):Prop :=
 ∀(zv:List (Addr×Obj)) (s:Shared) (σ:St) (H:Hp) (o i v:V) (ov iv u:Value) (Q:Hp->Prop),Inv X zv σ H s->RelV o ov->RelV i iv->RelV v u->t o i v H Q ->
  wpAny (model X.prog X.w) X.A (setItem ov iv u) (fun _ s'=>∃H',Inv X zv σ H' s'/\Q H') X.xe s
abbrev TIp:=V->V->Hp->VK->Prop
def PIp(X:Cx)(op:Operator)(t:TIp):Prop :=
 ∀(zv:List (Addr×Obj)) (s:Shared) (σ:St) (H:Hp) (x y:V) (v u:Value) (Q:VK),Inv X zv σ H s->RelV x v->RelV y u->t x y H Q ->
  wpAny (model X.prog X.w) X.A (inplaceOp op v u) (EP X zv σ Q) X.xe s
section
variable{X:Cx}{pos:Pos}
def asl(i:Nat):TG:=fun v σ H Q=>Q (σ.set i (some v)) H
theorem afp{i:Nat}{x:Str}(hN:X.N.Nodup)(hi:X.N[i]? = some x)(hx:Loc X.env.scope x)(hf:X.fn x=true∨X.env.scope.names.lookup x=some .local:=by first | exact .inl rfl | exact .inr rfl | assumption):PG X (.Name x pos) (asl i):=by
 intro zv s σ H v u Q I r h;exact wpAny_assign_Name (uf I hN hi hx r (fun s' I'=>⟨_,H,I',h⟩) hf)
def gNil:TGs:=fun vs σ H Q=>vs=[]/\Q σ H
def ayu(t:TG)(u:TGs):TGs:=fun vs σ H Q=>∃v r,vs=v::r/\t v σ H fun σ' H'=>u r σ' H' Q
theorem aln:PGs X [] gNil:=by
 intro zv s σ H vs us Q I r h;obtain⟨e,h⟩:=h;subst e;cases r;exact assignInOrder_nil ⟨σ,H,I,h⟩
theorem adb{e:Expr}{es:List Expr}{t:TG}{u:TGs}(h1:PG X e t)(h2:PGs X es u)
  (hs:(assignEach (e::es) X.env).map (·.2)=assign e X.env::(assignEach es X.env).map (·.2):=by rfl):PGs X (e::es) (ayu t u):=by
 intro zv s σ H vs us Q I r h;obtain⟨v,vr,e1,h⟩:=h;subst e1;cases r with
 | cons r rr =>
  rw[hs];refine assignInOrder_cons (thn (h1 zv s σ H _ _ _ I r h) fun _ s1 ⟨σ1,H1,I1,q1⟩ =>?_)
  exact h2 zv s1 σ1 H1 _ _ Q I1 rr q1
def gTup(K:Fg9)(n:Nat)(t:TGs):TG:=fun v σ H Q=>∃a xs,v=.ref a/\SqT K H a xs/\xs.length=n/\t xs σ H Q
theorem apt{es:List Expr}{k:Nat}{t:TGs}{n:Nat}(hc:X.calm=true)(h:PGs X es t)
  (hn:(assignEach es X.env).length=n:=by rfl) (hst:(assignEach es X.env).findIdx? (·.1)=none:=by rfl):PG X (.Tuple es k pos) (gTup X.K n t):=by
 intro zv s σ H v u Q I r hw;obtain⟨a,xs,e1,hq,hl,hw⟩:=hw;subst e1;cases r;obtain⟨its,rv,ht,hz⟩:=I.tuple hq;refine assign_Tuple_tuple (I.ok.hd hc) ht (by simp[hn,<-hl,rv.length]) hst fun h' hx =>?_
 have I1:Inv X zv σ H { s with heap:=h' }:=I.kept (t':=s.toks) fun b o e=>hx b o (Nat.ne_of_lt (Heap.lt_size e)) e
 exact h zv _ σ H xs _ Q I1 (by simpa using rv) hw
def gSub(to ti:TE)(t:TSet):TG:=fun v σ H Q=>to σ H fun o H1=>ti σ H1 fun i H2=>t o i v H2 fun H3=>Q σ H3
theorem apu{o i:Expr}{to ti:TE}{t:TSet}(ho:PE X o to)(hi:PE X i ti)(hs:PSet X t)
  (ha:∀v,assign (.Subscript o i pos) X.env v=(do
   let ov <-holding [v] (eval o X.env)
   let iv <-holding [v,ov] (eval i X.env)
   standAt pos
   holding [v,ov,iv] (setItem ov iv v)
   release [v,ov,iv] []):=by intro _;rfl):PG X (.Subscript o i pos) (gSub to ti t):=by
 intro zv s σ H v u Q I r h;rw[ha];refine wpAny_bind (wpAny_holding (thn (ho zv s σ H _ I h) fun ov s1 ⟨x,H1,I1,r1,q1⟩ =>?_))
 refine wpAny_bind (wpAny_holding (thn (hi zv s1 σ H1 _ I1 q1) fun iv s2 ⟨y,H2,I2,r2,q2⟩ =>?_))
 refine wpAny_bind (wpAny_standAt (wpAny_bind (wpAny_holding (thn (hs zv s2 σ H2 x y v ov iv u _ I2 r1 r2 r q2) fun _ s3 ⟨H3,I3,q3⟩ =>?_))))
 exact wpAny_release ⟨σ,H3,I3,q3⟩
def tAsg(te:TE)(g:TG):TS:=fun D σ H=>te σ H fun x H1=>g x σ H1 D.nx
theorem ai2{tg e:Expr}{te:TE}{g:TG}(he:PE X e te)(hg:PG X tg g)(hs:swapsWithSole [tg] e pos.line X.env=pure false:=by rfl)(hw:swappedStores [tg] e X.env=pure none:=by rfl)
  (h1:(assignEach [tg] X.env).map (·.2)=[assign tg X.env]:=by rfl):PS X (.Assign [tg] e pos) (tAsg te g):=by
 intro zv s σ H D I h;refine wpAny_Assign_stores (thn (he zv s σ H _ I h) fun v s1 ⟨x,H1,I1,r1,q1⟩ =>?_) hs hw
 rw[h1];exact thn (hg zv s1 σ H1 x v _ I1 r1 q1) fun _ s2 q=>q
theorem apq{i:Nat}{x:Str}{e:Expr}{te:TE}{pos':Pos}(hN:X.N.Nodup)(hi:X.N[i]? = some x)(hx:Loc X.env.scope x)(he:PE X e te)(hs:swapsWith e (some (.Name x pos')) pos.line X.env=pure false:=by rfl)(hf:X.fn x=true∨X.env.scope.names.lookup x=some .local:=by first | exact .inl rfl | exact .inr rfl | assumption) :
  PS X (.Assign [.Name x pos'] e pos) (tAsg te (asl i)):=by
 intro zv s σ H D I h;refine wpAny_Assign_Name (thn (he zv s σ H _ I h) fun v s1 ⟨y,H1,I1,r1,q1⟩ =>?_) hs
 exact uf I1 hN hi hx r1 (fun s2 I2=>⟨_,H1,I2,q1⟩) hf
def tPar(i j:Nat)(ta:TA):TS:=fun D σ H=>ta σ H fun vs H1=>∃v w,vs=[v,w]/\D.nx ((σ.set i (some v)).set j (some w)) H1
theorem at7{i j:Nat}{x y:Str}{a b:Expr}{ta:TA}{px py pt:Pos}{kt k2 pt2}(hc:X.calm=true)(hN:X.N.Nodup)(hi:X.N[i]? = some x)(hj:X.N[j]? = some y)(hij:i≠j)
  (hx:X.env.scope.names.lookup x=some .local) (hy:X.env.scope.names.lookup y=some .local) (ha:PA X [a,b] ta)
  (hw:swappedStores [.Tuple [.Name x px,.Name y py] kt pt] (.Tuple [a,b] k2 pt2) X.env=pure (some [x,y]))
  (hs:swapsWithSole [.Tuple [.Name x px,.Name y py] kt pt] (.Tuple [a,b] k2 pt2) pos.line X.env=pure false:=by rfl) :
  PS X (.Assign [.Tuple [.Name x px,.Name y py] kt pt] (.Tuple [a,b] k2 pt2) pos) (tPar i j ta):=by
 intro zv s σ H D I h;rw[exec_Assign_arm];refine wpAny_bind (wpAny_standAt ?_);rw[hs];refine wpAny_bind (wpAny_pure ?_);rw[if_neg (by decide)]
 refine wpAny_bind (Tuple_ (thn (ha _ zv s σ H _ I h) fun us s1 ⟨vs,H1,I1,r1,q1⟩ =>?_))
 obtain⟨v,w,e1,q1⟩:=q1;subst e1;obtain⟨u1,u2,rfl,rv,rw'⟩:∃u1 u2,us=[u1,u2]/\RelV v u1/\RelV w u2:=by
  cases r1 with
  | cons p q =>
   cases q with
   | cons p' q' =>
    cases q';exact⟨_,_,rfl,p,p'⟩
 refine wpAny_newObj_type ?_ (by show 2<=sizeLine;decide)
 have I2:Inv X zv σ H1 { s1 with heap:=s1.heap.push { cls:=.type "tuple", data:=.seq [u1,u2].toArray } }:=I1.kept (t':=s1.toks) fun b o e=>Heap.get?_push_of_some _ e
 rw[hw];refine wpAny_bind (wpAny_pure ?_);show wpAny (model X.prog X.w) X.A (do rule "assign.swapped-stores";let items <-unpackItems (.ref s1.heap.objs.size) 2 none;assignInOrder [fun v=>bindName X.env y v,fun v=>bindName X.env x v] items.reverse;pure Flow.next) _ _ _
 refine wpAny_bind (wpAny_rule (wpAny_bind (unpackItems_tuple (items := #[u1,u2]) (I.ok.hd hc) (IsTup.new s1.heap _) fun h' hx' =>?_)))
 have I3:=I2.kept (h':=h') (t':=s1.toks) fun b o e=>hx' b o (Nat.ne_of_lt (Heap.lt_size e)) e
 show wpAny _ _ (assignInOrder [fun v=>bindName X.env y v,fun v=>bindName X.env x v] [u2,u1] >>= fun _=>pure Flow.next) _ _ _
 refine wpAny_bind (assignInOrder_cons (wpAny_bindName (uf I3 hN hj (.inl hy) rw' (fun s2 I4 =>?_) (.inr hy))))
 refine assignInOrder_cons (wpAny_bindName (uf I4 hN hi (.inl hx) rv (fun s3 I5=>assignInOrder_nil (wpAny_pure ?_)) (.inr hx)))
 rw[List.set_comm _ _ (Ne.symm hij)] at I5;exact⟨_,H1,I5,q1⟩
def axk(to ti te:TE)(tget:V->V->Hp->VK->Prop)(tip:TIp)(tset:TSet):TS:=fun D σ H=>to σ H fun o H1=>ti σ H1 fun i H2=>tget o i H2 fun x H3=>te σ H3 fun y H4=>tip x y H4 fun z H5=>tset o i z H5 fun H6=>D.nx σ H6
def PGet(X:Cx)(t:V->V->Hp->VK->Prop):Prop :=
 ∀(zv:List (Addr×Obj)) (s:Shared) (σ:St) (H:Hp) (o i:V) (ov iv:Value) (Q:VK),Inv X zv σ H s->RelV o ov->RelV i iv->t o i H Q ->
  wpAny (model X.prog X.w) X.A (getItem ov iv) (EP X zv σ Q) X.xe s
theorem aq6{o i e:Expr}{to ti te:TE}{tget:V->V->Hp->VK->Prop}{tip:TIp}{tset:TSet}{op:Operator}{tpos:Pos}(ho:PE X o to)(hi:PE X i ti)(hg:PGet X tget)(he:PE X e te)(hp:PIp X op tip)(hs:PSet X tset)
  (ha:∀ov iv new,augStore i ov iv new=(do holding [new,ov,iv] (setItem ov iv new);release [new,ov,iv] [];pure .next):=by intros;rfl):PS X (.AugAssign (.Subscript o i tpos) op e pos) (axk to ti te tget tip tset):=by
 intro zv s σ H D I h;refine wpAny_AugAssign_SubscriptAny (thn (ho zv s σ H _ I h) fun ov s1 ⟨x1,H1,I1,r1,q1⟩ =>?_) ha
 refine thn (hi zv s1 σ H1 _ I1 q1) fun iv s2 ⟨x2,H2,I2,r2,q2⟩ =>?_
 refine thn (hg zv s2 σ H2 x1 x2 ov iv _ I2 r1 r2 q2) fun old s3 ⟨x3,H3,I3,r3,q3⟩ =>?_
 refine thn (he zv s3 σ H3 _ I3 q3) fun v s4 ⟨x4,H4,I4,r4,q4⟩ =>?_
 refine thn (hp zv s4 σ H4 x3 x4 old v _ I4 r3 r4 q4) fun new s5 ⟨x5,H5,I5,r5,q5⟩ =>?_
 exact thn (hs zv s5 σ H5 x1 x2 x5 ov iv new _ I5 r1 r2 r5 q5) fun _ s6 ⟨H6,I6,q6⟩=>⟨σ,H6,I6,q6⟩
def ipI(f:Int->Int->Int):TIp:=fun x y H Q=>∃i j,x=.int i/\y=.int j/\Q (.int (f i j)) H
theorem amc:PIp X .Add (ipI fun i j=>i+j):=by
 intro zv s σ H x y v u Q I r1 r2 h;obtain⟨i,j,e1,e2,q⟩:=h;subst e1;subst e2;obtain⟨t,rfl⟩:=r1;obtain⟨t',rfl⟩:=r2;exact iadd_int ⟨.int _,H,I.tok _,⟨_,rfl⟩,q⟩
theorem avo:PIp X .Sub (ipI fun i j=>i - j):=by
 intro zv s σ H x y v u Q I r1 r2 h;obtain⟨i,j,e1,e2,q⟩:=h;subst e1;subst e2;obtain⟨t,rfl⟩:=r1;obtain⟨t',rfl⟩:=r2;exact isub_int ⟨.int _,H,I.tok _,⟨_,rfl⟩,q⟩
end
section
variable{X:Cx}{pos:Pos}
end
structure It where
 go:Nat->Hp->Prop
 yld:Nat->Hp->V->Hp->Prop
 stop:Nat->Hp->Prop
def FpOk(X:Cx)(zv:List (Addr×Obj))(H:Hp)(b:Addr):Prop :=
 H b=none/\b≠X.env.locals/\b∉X.fs/\(b∈X.ex∨X.s₀.heap.objs.size<=b)/\(∀x c,X.env.cells.lookup x=some c->c≠b)/\∀p∈X.pn++zv,p.1≠b
theorem Inv.fpOk{X:Cx}{zv:List (Addr×Obj)}{σ:St}{H H':Hp}{s:Shared}{b:Addr}(I:Inv X zv σ H s)(hb:s.heap.objs.size<=b)(hn:H' b=none):FpOk X zv H' b:=by
 refine⟨hn,Nat.ne_of_gt (Nat.lt_of_lt_of_le I.lt hb),I.nofs hb,.inr (Nat.le_trans I.sz hb),fun x c e z =>?_,fun p hp z =>?_⟩
 ·obtain⟨v,q⟩:=I.cell x c e;exact absurd (Nat.lt_of_lt_of_le q.lt (by rw[z];exact hb)) (Nat.lt_irrefl _)
 ·exact absurd (Nat.lt_of_lt_of_le (Heap.lt_size (I.pin p hp).1) (by rw[z];exact hb)) (Nat.lt_irrefl _)
structure Turn (P:Program) (w:World) (K:Fg9) (tg:Expr) (J:It) (fp:List Addr) (it:Addr) (tn:Nat->Heap->Prop):Prop where
 mem:it∈fp
 obj:∀i h,tn i h->∀b∈fp,∃o,h.get? b=some o/\∀v,o.data≠.cell v
 keep:∀i h h',tn i h->(∀b∈fp,∀o,h.get? b=some o->h'.get? b=some o)->tn i h'
 item:∀(X:Cx),X.prog=P->X.w=w->X.K=K->X.calm=true->∀(i:Nat) (zv:List (Addr×Obj)) (s:Shared) (σ:St) (H:Hp) (E:Value->Shared->Prop),Inv X zv σ H s->(∀b∈fp,FpOk X zv H b)->tn i s.heap->J.go i H ->
  wpAny (model P w) X.A (pyNext (.ref it)) (fun r s1=>∃u,r=some u /\
   wpAny (model P w) X.A (letOwnedTupleGo tg (.ref it) u) (fun _ s2=>∃x H',Inv X zv σ H' s2/\RelV x u/\J.yld i H x H'/\tn (i+1) s2.heap/\∀b∈fp,H' b=none) E s1) E s
 done:∀(X:Cx),X.prog=P->X.w=w->X.K=K->X.calm=true->∀(i:Nat) (zv:List (Addr×Obj)) (s:Shared) (σ:St) (H:Hp) (E:Value->Shared->Prop),Inv X zv σ H s->(∀b∈fp,FpOk X zv H b)->tn i s.heap->J.stop i H ->
  wpAny (model P w) X.A (pyNext (.ref it)) (fun r s1=>r=none/\Inv X zv σ H s1) E s
 self:∀(A:Around) (i:Nat) (s:Shared) (Q:Value->Shared->Prop) (E:Value->Shared->Prop),tn i s.heap->Q (.ref it) s->wpAny (model P w) A (pyIter (.ref it)) Q E s
abbrev TI:=St->Hp->(It->Hp->Prop)->Prop
def PIE(X:Cx)(zv:List (Addr×Obj))(σ:St)(tg:Expr)(R:It->Hp->Prop)(itv:Value)(s2:Shared):Prop :=
 ∃(it:Addr) (fp:List Addr) (tn:Nat->Heap->Prop) (J:It) (H':Hp),itv=.ref it/\Inv X zv σ H' s2/\Turn X.prog X.w X.K tg J fp it tn/\tn 0 s2.heap/\(∀b∈fp,FpOk X zv H' b)/\R J H'
def PI(X:Cx)(tg iter:Expr)(wi:TI):Prop :=
 ∀(zv:List (Addr×Obj)) (s:Shared) (σ:St) (H:Hp) (R:It->Hp->Prop),Inv X zv σ H s->wi σ H R ->
  wpAny (model X.prog X.w) X.A (eval iter X.env) (fun v s1=>wpAny (model X.prog X.w) X.A (pyIter v) (PIE X zv σ tg R) X.xe s1) X.xe s
theorem ash{M:Model}{A:Around}{E:Value->Shared->Prop}{s:Shared}{tg:Expr}{it:Addr}{u:Value}{o:Obj}{n:String}{vs:Array Value}{Q:Unit->Shared->Prop}(ho:s.heap.get? it=some o)(hc:o.cls=.type n)(hd:o.data=.fields vs)
  (hn:["enumerate","zip","dict_itemiterator","dict_reverseitemiterator","odict_iterator","itertools.zip_longest","itertools.pairwise"].contains n=false) (hQ:Q () s):wpAny M A (letOwnedTupleGo tg (.ref it) u) Q E s:=by
 unfold letOwnedTupleGo;cases tg <;> first
  | exact wpAny_pure hQ
  | (cases u <;> first
    | exact wpAny_pure hQ
    | (refine wpAny_bind (wpAny_load ho ?_)
       rw[hc,hd];show wpAny M A (if (["enumerate","zip","dict_itemiterator","dict_reverseitemiterator","odict_iterator","itertools.zip_longest","itertools.pairwise"].contains n&&vs[0]? == some (rawInt _))=true then _ else _) Q E s
       rw[if_neg (by intro h;rw[hn,Bool.false_and] at h;cases h)]
       exact wpAny_pure hQ))
def Itl(K:Fg9)(a:Addr):It :=
 ⟨fun i H=>∃xs x,SqL K H a xs/\xs[i]? = some x,fun i H x H'=>H'=H/\∀xs,SqL K H a xs->xs[i]? = some x,fun i H=>∃xs,SqL K H a xs/\xs.length<=i⟩
def Itt(K:Fg9)(a:Addr):It :=
 ⟨fun i H=>∃xs x,SqT K H a xs/\xs[i]? = some x,fun i H x H'=>H'=H/\∀xs,SqT K H a xs->xs[i]? = some x,fun i H=>∃xs,SqT K H a xs/\xs.length<=i⟩
def Itr(lo:Int)(n:Nat):It:=⟨fun i _=>i < n,fun i H x H'=>H'=H/\x=.int (lo+i),fun i _=>n<=i⟩
theorem ak5{P:Program}{w:World}{K:Fg9}{tg:Expr}(a it:Addr):Turn P w K tg (Itl K a) [it] it (fun i h=>h.IsListIter it a i) where
 mem:=by simp
 obj:=fun i h st b hb=>by
  have e:b=it:=by simpa using hb
  subst e;obtain⟨o,e,c,d⟩:=st;exact⟨o,e,fun v z=>by rw[d] at z;cases z⟩
 keep:=fun i h h' st k=>st.at fun o e=>k it (by simp) o e
 item:=by
  intro X hP hw hK hc i zv s σ H E I hf st hg;subst hP hw hK;obtain⟨xs,x,hq,hx⟩:=hg;obtain⟨its,rv,p,hz⟩:=I.list hq;obtain⟨u,hu,ru⟩:=rv.get hx;obtain⟨f0,f1,f2,f3,f4,f5⟩:=hf it (by simp)
  refine wpAny_pyNext_list_item st p.isList (x:=u) (by simpa using hu) fun h' st' sb =>?_
  have I1:Inv X zv σ H { s with heap:=h' }:=I.turned (t':=s.toks) (fun b o hb e=>(sb.2 b hb).trans e) f0 f1 f3 f4 f5
  obtain⟨o,e,c,d⟩:=id st';exact⟨u,rfl,ash (s:={ s with heap:=h' }) e c d (by decide) ⟨x,H,I1,ru,⟨rfl,fun ys hy=>by rw[I.list_inj hy hq];exact hx⟩,st',fun b hb=>(hf b hb).1⟩⟩
 done:=by
  intro X hP hw hK hc i zv s σ H E I hf st hg;subst hP hw hK;obtain⟨xs,hq,hx⟩:=hg;obtain⟨its,rv,p,hz⟩:=I.list hq;obtain⟨f0,f1,f2,f3,f4,f5⟩:=hf it (by simp)
  have hl:=rv.length;exact wpAny_pyNext_list_end (I.ok.hd hc) st p.isList (by simp;omega) fun h' eb=>⟨rfl,I.turned (t':=s.toks) (fun b o hb e=>eb b o hb e) f0 f1 f3 f4 f5⟩
 self:=fun _ _ _ _ _ st h=>wpAny_pyIter_listiter st h
theorem aj2{P:Program}{w:World}{K:Fg9}{tg:Expr}(a it:Addr):Turn P w K tg (Itt K a) [it] it (fun i h=>h.IsTupleIter it a i) where
 mem:=by simp
 obj:=fun i h st b hb=>by
  have e:b=it:=by simpa using hb
  subst e;obtain⟨o,e,c,d⟩:=st;exact⟨o,e,fun v z=>by rw[d] at z;cases z⟩
 keep:=fun i h h' st k=>st.at fun o e=>k it (by simp) o e
 item:=by
  intro X hP hw hK hc i zv s σ H E I hf st hg;subst hP hw hK;obtain⟨xs,x,hq,hx⟩:=hg;obtain⟨its,rv,p,hz⟩:=I.tuple hq;obtain⟨u,hu,ru⟩:=rv.get hx;obtain⟨f0,f1,f2,f3,f4,f5⟩:=hf it (by simp)
  refine wpAny_pyNext_tuple_item st (show s.heap.IsTuple a its.toArray from p) (x:=u) (by simpa using hu) fun h' st' sb =>?_
  have I1:Inv X zv σ H { s with heap:=h' }:=I.turned (t':=s.toks) (fun b o hb e=>(sb.2 b hb).trans e) f0 f1 f3 f4 f5
  obtain⟨o,e,c,d⟩:=id st';exact⟨u,rfl,ash (s:={ s with heap:=h' }) e c d (by decide) ⟨x,H,I1,ru,⟨rfl,fun ys hy=>by rw[I.tuple_inj hy hq];exact hx⟩,st',fun b hb=>(hf b hb).1⟩⟩
 done:=by
  intro X hP hw hK hc i zv s σ H E I hf st hg;subst hP hw hK;obtain⟨xs,hq,hx⟩:=hg;obtain⟨its,rv,p,hz⟩:=I.tuple hq;obtain⟨f0,f1,f2,f3,f4,f5⟩:=hf it (by simp)
  have hl:=rv.length;exact wpAny_pyNext_tuple_end (I.ok.hd hc) st (show s.heap.IsTuple a its.toArray from p) (by simp;omega) fun h' eb=>⟨rfl,I.turned (t':=s.toks) (fun b o hb e=>eb b o hb e) f0 f1 f3 f4 f5⟩
 self:=fun _ _ _ _ _ st h=>wpAny_pyIter_tupleiter st h
theorem aj3{P:Program}{w:World}{K:Fg9}{tg:Expr}(it:Addr)(lo:Int)(n:Nat):Turn P w K tg (Itr lo n) [it] it (fun i h=>IsRangeIter h it (lo+(i:Nat)*1) ((n:Int) - (i:Nat)) 1) where
 mem:=by simp
 obj:=fun i h st b hb=>by
  have e:b=it:=by simpa using hb
  subst e;exact⟨_,st,fun v z=>by
   have z':Data.fields _=Data.cell v:=z;cases z'⟩
 keep:=fun i h h' st k=>k it (by simp) _ st
 item:=by
  intro X hP hw hK hc i zv s σ H E I hf st hg;subst hP hw hK;obtain⟨f0,f1,f2,f3,f4,f5⟩:=hf it (by simp)
  have W:=Walks.range (prog:=X.prog) (w:=X.w) (I.ok.hd hc) it lo 1 n;refine W.item i s _ _ hg st fun v h' tk hv st' kk =>?_
  obtain⟨t,rfl⟩:=hv;have I1:Inv X zv σ H { s with heap:=h',toks:=tk }:=I.turned (fun b o hb e=>kk b o (by simpa using hb) e) f0 f1 f3 f4 f5
  refine⟨_,rfl,ash (s:={ s with heap:=h',toks:=tk }) (n := "range_iterator") st' rfl rfl (by decide) ⟨.int (lo+i),H,I1,⟨t,?_⟩,⟨rfl,rfl⟩,st',fun b hb=>(hf b hb).1⟩⟩
  rw[Int.mul_one]
 done:=by
  intro X hP hw hK hc i zv s σ H E I hf st hg;subst hP hw hK;obtain⟨f0,f1,f2,f3,f4,f5⟩:=hf it (by simp)
  exact wpAny_pyNext_range_end (I.ok.hd hc) st (by have:n<=i:=hg;omega) fun h' eb=>⟨rfl,I.turned (t':=s.toks) (fun b o hb e=>eb b o hb e) f0 f1 f3 f4 f5⟩
 self:=fun _ _ _ _ _ st h=>wpAny_pyIter_rangeiter st h
section
variable{X:Cx}{tg:Expr}
def ayn(K:Fg9)(tl:TE):TI:=fun σ H R=>tl σ H fun x H1=>∃a,x=.ref a/\(∃xs,SqL K H1 a xs)/\R (Itl K a) H1
def iTup(K:Fg9)(tl:TE):TI:=fun σ H R=>tl σ H fun x H1=>∃a,x=.ref a/\(∃xs,SqT K H1 a xs)/\R (Itt K a) H1
theorem alm{l:Expr}{tl:TE}(hl:PE X l tl):PI X tg l (ayn X.K tl):=by
 intro zv s σ H R I h;refine thn (hl zv s σ H _ I h) fun v s1 ⟨x,H1,I1,r1,q1⟩ =>?_
 obtain⟨a,e,⟨xs,hq⟩,q⟩:=q1;subst e;cases r1;obtain⟨its,rv,p,hz⟩:=I1.list hq;refine wpAny_pyIter_list p.isList ?_;refine⟨s1.heap.objs.size,[s1.heap.objs.size],_,_,H1,rfl,I1.kept (t':=s1.toks) fun b o e=>Heap.get?_push_of_some _ e,ak5 a _,⟨_,Heap.get?_push_size _ rfl,rfl,rfl⟩,fun b hb =>?_,q⟩
 have e:b=s1.heap.objs.size:=by simpa using hb
 subst e;exact I1.fpOk (Nat.le_refl _) (I1.hok.fresh (Nat.le_refl _))
theorem at9{l:Expr}{tl:TE}(hl:PE X l tl):PI X tg l (iTup X.K tl):=by
 intro zv s σ H R I h;refine thn (hl zv s σ H _ I h) fun v s1 ⟨x,H1,I1,r1,q1⟩ =>?_
 obtain⟨a,e,⟨xs,hq⟩,q⟩:=q1;subst e;cases r1;obtain⟨its,rv,p,hz⟩:=I1.tuple hq;refine wpAny_pyIter_tuple (show s1.heap.IsTuple a its.toArray from p) ?_
 refine⟨s1.heap.objs.size,[s1.heap.objs.size],_,_,H1,rfl,I1.kept (t':=s1.toks) fun b o e=>Heap.get?_push_of_some _ e,aj2 a _,⟨_,Heap.get?_push_size _ rfl,rfl,rfl⟩,fun b hb =>?_,q⟩
 have e:b=s1.heap.objs.size:=by simpa using hb
 subst e;exact I1.fpOk (Nat.le_refl _) (I1.hok.fresh (Nat.le_refl _))
theorem anx{zv:List (Addr×Obj)}{σ:St}{H:Hp}{s:Shared}{R:It->Hp->Prop}{E:Value->Shared->Prop}{lo hi:Int}{t u v:Tok}{tk:Nat}(I:Inv X zv σ H s)(h1 : -(2 ^ 62)<=lo)(h2:lo < 2 ^ 62)(h3 : -(2 ^ 62)<=hi)(h4:hi < 2 ^ 62)
  (q:R (Itr lo (hi - lo).toNat) H):wpAny (model X.prog X.w) X.A (pyIter (.ref s.heap.objs.size)) (PIE X zv σ tg R) E { s with heap:=s.heap.push { cls:=.type "range", data:=.fields #[.int lo t,.int hi u,.int 1 v] },toks:=tk }:=by
 refine wpAny_pyIter_range (IsRange.new ..) (small_one h1 h2 h3 h4) ?_;have I1:Inv X zv σ H { s with heap:=s.heap.push { cls:=.type "range", data:=.fields #[.int lo t,.int hi u,.int 1 v] },toks:=tk }:=I.kept fun b o e=>Heap.get?_push_of_some _ e
 refine⟨(s.heap.push { cls:=.type "range", data:=.fields #[.int lo t,.int hi u,.int 1 v] }).objs.size,[(s.heap.push { cls:=.type "range", data:=.fields #[.int lo t,.int hi u,.int 1 v] }).objs.size],_,_,H,rfl,
  I1.kept (t':=tk) fun b o e=>Heap.get?_push_of_some _ e,aj3 _ lo (hi - lo).toNat,?_,fun b hb =>?_,q⟩
 ·have e1:lo+((0:Nat):Int)*1=lo:=by simp
  have e2:(((hi - lo).toNat:Nat):Int) - ((0:Nat):Int)=Builtin.Range.rangeSize lo hi 1:=by rw[rangeSize_one];split <;> omega
  show IsRangeIter _ _ (lo+((0:Nat):Int)*1) ((((hi - lo).toNat:Nat):Int) - ((0:Nat):Int)) 1;rw[e1,e2];exact Heap.get?_push_size _ rfl
 ·have e:b=(s.heap.push { cls:=.type "range", data:=.fields #[.int lo t,.int hi u,.int 1 v] }).objs.size:=by simpa using hb
  subst e;exact I1.fpOk (Nat.le_refl _) (I1.hok.fresh (Nat.le_refl _))
def aym(ta:TA):TI:=fun σ H R=>ta σ H fun vs H1=>∃j:Int,vs=[.int j] /\ -(2 ^ 62)<=j/\j < 2 ^ 62/\R (Itr 0 j.toNat) H1
theorem alk{a:Expr}{ta:TA}{p pos:Pos}(hg:Gl X "range")(hm:X.mg "range" = none)(ha:PA X [a] ta)(hs:starEach [a] X.env=[(false,eval a X.env)]:=by rfl):PI X tg (.Call (.Name "range" p) [a] [] pos) (aym ta):=by
 intro zv s σ H R I h;refine Call_ (ae0 I hg hm boot_range (PyProof.Rows.callWith_type1 (thn (ha pos zv s σ H _ I h) fun us s1 ⟨vs,H1,I1,r1,q1⟩ =>?_) hs rfl))
 obtain⟨j,e,q1,q2,q⟩:=q1;subst e;cases r1 with
 | cons r rr =>
  cases rr;obtain⟨t,rfl⟩:=r;exact call_range_1 (anx I1 (by omega) (by omega) q1 q2 (by simpa using q))
def tFor(wi:TI)(g:TG)(tb:TS):TS:=fun D σ H=>wi σ H fun J H1=>∃W:Nat->Nat->St->Hp->Prop,(∃m,W 0 m σ H1)/\∀i m σ H,W i m σ H ->
 (J.stop i H/\D.nx σ H)∨(J.go i H/\∃N:St->Hp->Prop,(∀σ' H',N σ' H'->∃m',m' < m/\W (i+1) m' σ' H')/\∀x H',J.yld i H x H'->g x σ H' fun σ2 H2=>tb { D with nx:=N,ct:=N,bk:=D.nx } σ2 H2)
def ago(fp:List Addr)(h:Heap):List (Addr×Obj):=fp.filterMap fun b=>(h.get? b).map fun o=>(b,o)
theorem aap{fp:List Addr}{h:Heap}{b:Addr}{o:Obj}(hb:b∈fp)(e:h.get? b=some o):(b,o)∈ago fp h:=List.mem_filterMap.mpr ⟨b,hb,by rw[e];rfl⟩
theorem alv{fp:List Addr}{h:Heap}{p:Addr×Obj}(hp:p∈ago fp h):p.1∈fp/\h.get? p.1=some p.2:=by
 obtain⟨b,hb,e⟩:=List.mem_filterMap.mp hp;cases q:h.get? b with
 | none=>rw[q] at e;cases e
 | some o =>
  rw[q] at e;have e':(b,o)=p:=Option.some.inj e;subst e';exact⟨hb,q⟩
theorem Inv.pinned{zv:List (Addr×Obj)}{σ:St}{H:Hp}{s:Shared}{fp:List Addr}(I:Inv X zv σ H s)(hf:∀b∈fp,FpOk X zv H b)(ho:∀b∈fp,∃o,s.heap.get? b=some o/\∀v,o.data≠.cell v):Inv X (zv++ago fp s.heap) σ H s :=
 I.pins_of fun p hp=>(List.mem_append.mp hp).elim (fun z=>I.pin p (List.mem_append_right _ z)) fun z=>by
  obtain⟨hb,e⟩:=alv z;obtain⟨f0,f1,f2,_⟩:=hf p.1 hb;obtain⟨o,e',d⟩:=ho p.1 hb;rw[e] at e';cases e';exact⟨e,f0,f1,f2,d⟩
theorem Inv.unpinned{zv pl:List (Addr×Obj)}{σ:St}{H:Hp}{s:Shared}(I:Inv X (zv++pl) σ H s):Inv X zv σ H s:=I.pins_of fun p hp=>I.pin p (List.mem_append_right _ (List.mem_append_left _ hp))
theorem aps{iter:Expr}{body:List Stmt}{wi:TI}{g:TG}{tb:TS}{pos:Pos}(hp:PassesOwn (model X.prog X.w) X.A X.env X.xe)(hc:X.calm=true)(hi:PI X tg iter wi)(hg:PG X tg g)(hb:PSs X body tb)
  (hs:∀x,foldedSetIterable iter X.env x=pure x:=by intro _;rfl):PS X (.For tg iter body [] pos) (tFor wi g tb):=by
 intro zv s σ H D I h;refine wpAny_For (thn (hi zv s σ H _ I h) fun v s1 h1=>thn h1 fun itv s2 h2 =>?_) hs
 obtain⟨it,fp,tn,J,H2,e,I2,T,st2,f2,W,⟨m0,w0⟩,turn⟩:=h2;subst e;have stat:∀{H':Hp},(∀b∈fp,H' b=none)->∀b∈fp,FpOk X zv H' b:=fun hn b hb=>⟨hn b hb,(f2 b hb).2⟩
 refine codeAny_forLoop_any (fun n s'=>∃i σ' H',Inv X zv σ' H' s'/\tn i s'.heap/\(∀b∈fp,H' b=none)/\W i n σ' H') ?_ m0 ⟨0,σ,H2,I2,st2,fun b hb=>(f2 b hb).1,w0⟩
 rintro n s3 ⟨i,σ3,H3,I3,st3,fr3,w3⟩
 rcases turn i n σ3 H3 w3 with⟨stop,qn⟩ | ⟨go,N,hN,step⟩
 ·refine wpAny_passesOwn hp (thn (T.done X rfl rfl rfl hc i zv s3 σ3 H3 X.xe I3 (stat fr3) st3 stop) fun r s4 ⟨hr,I4⟩ =>?_)
  subst hr;exact wpAny_execs_nil ⟨σ3,H3,I4,qn⟩
 ·refine wpAny_passesOwn hp (thn (T.item X rfl rfl rfl hc i zv s3 σ3 H3 X.xe I3 (stat fr3) st3 go) fun r s4 ⟨u,hr,h4⟩ =>?_)
  subst hr;refine wpAny_passesOwn hp (thn h4 fun _ s5 ⟨x,H5,I5,r5,y5,st5,fr5⟩ =>?_)
  have I5':=I5.pinned (stat fr5) (T.obj _ _ st5);refine wpAny_passesOwn hp (thn (hg _ s5 σ3 H5 x u _ I5' r5 (step x H5 y5)) fun _ s6 ⟨σ6,H6,I6,q6⟩ =>?_)
  refine wpAny_passesOwn hp (thn (hb _ s6 σ6 H6 _ I6 q6) fun f s7 q7 =>?_)
  have again:∀{σ7:St} {H7:Hp},Inv X (zv++ago fp s5.heap) σ7 H7 s7->N σ7 H7->∃m,m < n/\∃i σ' H',Inv X zv σ' H' s7/\tn i s7.heap/\(∀b∈fp,H' b=none)/\W i m σ' H':=fun{σ7 H7} I7 n7=>by
   obtain⟨m',hm,w7⟩:=hN σ7 H7 n7;refine⟨m',hm,i+1,σ7,H7,I7.unpinned,T.keep _ _ _ st5 fun b hb o e=>(I7.pin (b,o) (List.mem_append_right _ (List.mem_append_right _ (aap hb e)))).1,fun b hb =>?_,w7⟩
   obtain⟨o,e,d⟩:=T.obj _ _ st5 b hb;exact(I7.pin (b,o) (List.mem_append_right _ (List.mem_append_right _ (aap hb e)))).2.1
  cases f with
  | next=>obtain⟨σ7,H7,I7,n7⟩:=q7;exact again I7 n7
  | cont=>obtain⟨σ7,H7,I7,n7⟩:=q7;exact again I7 n7
  | brk=>obtain⟨σ7,H7,I7,q7⟩:=q7;exact⟨σ7,H7,I7.unpinned,q7⟩
  | ret v=>obtain⟨x7,σ7,H7,I7,r7,q7⟩:=q7;exact⟨x7,σ7,H7,I7.unpinned,r7,q7⟩
end
abbrev R2:=V->V->Hp->VK->Prop
def OpR(X:Cx)(f:Value->Value->Sem Value)(r:R2):Prop :=
 ∀(zv:List (Addr×Obj)) (s:Shared) (σ:St) (H:Hp) (x y:V) (v u:Value) (Q:VK),Inv X zv σ H s->RelV x v->RelV y u->r x y H Q ->
  wpAny (model X.prog X.w) X.A (f v u) (EP X zv σ Q) X.xe s
def UnR(X:Cx)(f:Value->Sem Value)(r:V->Hp->VK->Prop):Prop :=
 ∀(zv:List (Addr×Obj)) (s:Shared) (σ:St) (H:Hp) (x:V) (v:Value) (Q:VK),Inv X zv σ H s->RelV x v->r x H Q ->
  wpAny (model X.prog X.w) X.A (f v) (EP X zv σ Q) X.xe s
def acu(X:Cx)(f:Value)(r:List V->Hp->VK->Prop):Prop :=
 ∀(zv:List (Addr×Obj)) (s:Shared) (σ:St) (H:Hp) (xs:List V) (us:List Value) (Q:VK),Inv X zv σ H s->Vals xs us->r xs H Q ->
  wpAny (model X.prog X.w) X.A (call f us) (EP X zv σ Q) X.xe s
def tOp(r:R2)(ta tb:TE):TE:=fun σ H Q=>ta σ H fun x H1=>tb σ H1 fun y H2=>r x y H2 Q
def tUn(r:V->Hp->VK->Prop)(ta:TE):TE:=fun σ H Q=>ta σ H fun x H1=>r x H1 Q
def rI(C:Int->Int->Prop)(g:Int->Int->V):R2:=fun x y H Q=>∃i j,x=.int i/\y=.int j/\C i j/\Q (g i j) H
def rI0(g:Int->Int->V):R2:=fun x y H Q=>∃i j,x=.int i/\y=.int j/\Q (g i j) H
def rU(g:Int->V):V->Hp->VK->Prop:=fun x H Q=>∃i,x=.int i/\Q (g i) H
section
variable{X:Cx}{a b c:Expr}{ta tb tc:TE}{pos:Pos}
theorem binT(ha:PE X a ta)(hb:PE X b tb){zv:List (Addr×Obj)}{s:Shared}{σ:St}{H:Hp}{R:V->V->Hp->Prop}(I:Inv X zv σ H s)
  (h:ta σ H fun x H1=>tb σ H1 fun y H2=>R x y H2) {Q:Value->Shared->Prop} {f:Value->Value->Sem Value}
  (hf:∀v u s2 x y H2,Inv X zv σ H2 s2->RelV x v->RelV y u->R x y H2->wpAny (model X.prog X.w) X.A (f v u) Q X.xe s2) :
  wpAny (model X.prog X.w) X.A (eval a X.env) (fun v s₁=>wpAny (model X.prog X.w) X.A (eval b X.env) (fun u s₂=>wpAny (model X.prog X.w) X.A (f v u) Q X.xe s₂) X.xe s₁) X.xe s:=by
 refine thn (ha zv s σ H _ I h) fun v s1 ⟨x,H1,I1,r1,q1⟩ =>?_
 refine thn (hb zv s1 σ H1 _ I1 q1) fun u s2 ⟨y,H2,I2,r2,q2⟩ =>?_
 exact hf v u s2 x y H2 I2 r1 r2 q2
theorem axu{op:Operator}{r:R2}(ho:OpR X (binaryOp op) r)(ha:PE X a ta)(hb:PE X b tb):PE X (.BinOp a op b pos) (tOp r ta tb):=by
 intro zv s σ H Q I h;exact wpAny_BinOp (binT ha hb I h fun v u s2 x y H2 I2 rx ry q=>ho zv s2 σ H2 x y v u Q I2 rx ry q)
theorem axt{op:UnaryOp}{r:V->Hp->VK->Prop}(ho:UnR X (unaryOp op) r)(ha:PE X a ta):PE X (.UnaryOp op a pos) (tUn r ta):=by
 intro zv s σ H Q I h;exact UnaryOp_ (thn (ha zv s σ H _ I h) fun v s1 ⟨x,H1,I1,r1,q1⟩=>ho zv s1 σ H1 x v Q I1 r1 q1)
theorem opI{f:Value->Value->Sem Value}{C:Int->Int->Prop}{g:Int->Int->Int}
  (rule:∀(i j:Int) (t u:Tok) (s:Shared) (Q:Value->Shared->Prop) (E:Value->Shared->Prop),C i j->Q (.int (g i j) s.toks) { s with toks:=s.toks+1 }->wpAny (model X.prog X.w) X.A (f (.int i t) (.int j u)) Q E s) :
  OpR X f (rI C fun i j=>.int (g i j)):=by
 intro zv s σ H x y v u Q I rx ry h;obtain⟨i,j,rfl,rfl,hc,q⟩:=h;obtain⟨t,rfl⟩:=rx;obtain⟨t',rfl⟩:=ry;exact rule i j t t' s _ _ hc ⟨.int (g i j),H,I.tok _,⟨_,rfl⟩,q⟩
theorem opI0{f:Value->Value->Sem Value}{g:Int->Int->Int}
  (rule:∀(i j:Int) (t u:Tok) (s:Shared) (Q:Value->Shared->Prop) (E:Value->Shared->Prop),Q (.int (g i j) s.toks) { s with toks:=s.toks+1 }->wpAny (model X.prog X.w) X.A (f (.int i t) (.int j u)) Q E s) :
  OpR X f (rI0 fun i j=>.int (g i j)):=by
 intro zv s σ H x y v u Q I rx ry h;obtain⟨i,j,rfl,rfl,q⟩:=h;obtain⟨t,rfl⟩:=rx;obtain⟨t',rfl⟩:=ry;exact rule i j t t' s _ _ ⟨.int (g i j),H,I.tok _,⟨_,rfl⟩,q⟩
theorem opB0{f:Value->Value->Sem Value}{g:Int->Int->Bool}
  (rule:∀(i j:Int) (t u:Tok) (s:Shared) (Q:Value->Shared->Prop) (E:Value->Shared->Prop),Q (.bool (g i j)) s->wpAny (model X.prog X.w) X.A (f (.int i t) (.int j u)) Q E s) :
  OpR X f (rI0 fun i j=>.bl (g i j)):=by
 intro zv s σ H x y v u Q I rx ry h;obtain⟨i,j,rfl,rfl,q⟩:=h;obtain⟨t,rfl⟩:=rx;obtain⟨t',rfl⟩:=ry;exact rule i j t t' s _ _ ⟨.bl (g i j),H,I,rfl,q⟩
def CPow(i j:Int):Prop:=0<=j/\j<=1000000/\i.natAbs < 2 ^ 64
def CMul(i j:Int):Prop:=(-(2 ^ 64) < i/\i < 2 ^ 64)∨(-(2 ^ 64) < j/\j < 2 ^ 64)
theorem CMul.ok{i j:Int}(h:CMul i j):IntMulOk i j:=by
 rcases h with⟨h1,h2⟩ | ⟨h1,h2⟩
 ·exact .of_left (intBits_le_64 h1 h2)
 ·exact .of_right (intBits_le_64 h1 h2)
theorem auu:OpR X (binaryOp .Add) (rI0 fun i j=>.int (i+j)):=opI0 fun _ _ _ _ _ _ _ q=>add_int q
theorem aun:OpR X (binaryOp .Sub) (rI0 fun i j=>.int (i - j)):=opI0 fun _ _ _ _ _ _ _ q=>sub_int q
theorem auq:OpR X (binaryOp .Mult) (rI CMul fun i j=>.int (i*j)):=opI fun _ _ _ _ _ _ _ hc q=>mul_int q hc.ok
theorem aur:OpR X (binaryOp .Mod) (rI (fun _ j=>0 < j) fun i j=>.int (i % j)):=opI fun i j _ _ _ _ _ hc q=>by
 have h1:(0:Int) < j:=hc;exact mod_int' (by omega) (by rw[Int.fmod_eq_emod_of_nonneg i (by omega)];exact q)
theorem aup:OpR X (binaryOp .Pow) (rI CPow fun i j=>.int (i ^ j.toNat)):=opI fun _ _ _ _ _ _ _ hc q=>pow_int_small hc.1 hc.2.1 hc.2.2 q
theorem unI{f:Value->Sem Value}{g:Int->Int}
  (rule:∀(i:Int) (t:Tok) (s:Shared) (Q:Value->Shared->Prop) (E:Value->Shared->Prop),Q (.int (g i) s.toks) { s with toks:=s.toks+1 }->wpAny (model X.prog X.w) X.A (f (.int i t)) Q E s) :
  UnR X f (rU fun i=>.int (g i)):=by
 intro zv s σ H x v Q I rx h;obtain⟨i,rfl,q⟩:=h;obtain⟨t,rfl⟩:=rx;exact rule i t s _ _ ⟨.int (g i),H,I.tok _,⟨_,rfl⟩,q⟩
theorem ath:UnR X (unaryOp .USub) (rU fun i=>.int (-i)):=unI fun _ _ _ _ _ q=>neg_int q
end
section
variable{X:Cx}{a b c:Expr}{ta tb tc:TE}{pos:Pos}
theorem aus:OpR X (compareOp .Lt) (rI0 fun i j=>.bl (decide (i < j))):=opB0 fun _ _ _ _ _ _ _ q=>lt_int q
theorem alu:OpR X (compareOp .LtE) (rI0 fun i j=>.bl (decide (i<=j))):=opB0 fun _ _ _ _ _ _ _ q=>le_int q
theorem axy:OpR X (compareOp .Gt) (rI0 fun i j=>.bl (decide (j < i))):=opB0 fun _ _ _ _ _ _ _ q=>gt_int q
theorem axz:OpR X (compareOp .GtE) (rI0 fun i j=>.bl (decide (j<=i))):=opB0 fun _ _ _ _ _ _ _ q=>ge_int q
theorem ou(b:Expr){op:CmpOp}(h:op≠.In:=by decide)(h2:op≠.NotIn:=by decide):behindInMarks op b=false:=by
 have e1:(op==CmpOp.In)=false:=by cases op <;> first | rfl | exact absurd rfl h
 have e2:(op==CmpOp.NotIn)=false:=by cases op <;> first | rfl | exact absurd rfl h2
 cases b <;> simp[behindInMarks,e1,e2]
theorem arj{op:CmpOp}{r:R2}(ho:OpR X (compareOp op) r)(ha:PE X a ta)(hb:PE X b tb)(hm:behindInMarks op b=false):PE X (.Compare a [op] [b] pos) (tOp r ta tb):=by
 intro zv s σ H Q I h;exact wpAny_Compare1 (binT ha hb I h fun v u s2 x y H2 I2 rx ry q=>ho zv s2 σ H2 x y v u Q I2 rx ry q) hm
def atj(t:TE):TT:=fun σ H Q=>t σ H fun x H'=>∃k,x=.bl k/\Q k H'
theorem aq1{op:CmpOp}{r:R2}(ho:OpR X (compareOp op) r)(ha:PE X a ta)(hb:PE X b tb)(hm:behindInMarks op b=false):PT X (.Compare a [op] [b] pos) (atj (tOp r ta tb)):=by
 intro zv s σ H Q I h;refine wpAny_isTrue_Compare1 (thn (ha zv s σ H _ I h) fun v s1 ⟨x,H1,I1,r1,q1⟩=>thn (hb zv s1 σ H1 _ I1 q1) fun u s2 ⟨y,H2,I2,r2,q2⟩ =>
  thn (ho zv s2 σ H2 x y v u _ I2 r1 r2 q2) fun c s3 ⟨z,H3,I3,r3,k,e,q3⟩ =>?_) hm
 subst e;cases r3;exact wpAny_truthy_bool ⟨H3,I3,q3⟩
def ak7(r r':R2)(ta tb tc:TE):TE:=fun σ H Q=>ta σ H fun x H1=>tb σ H1 fun y H2=>r x y H2 fun z H3=>∃k,z=.bl k /\
 (if k=true then tc σ H3 fun w' H4=>r' y w' H4 Q else Q (.bl false) H3)
theorem an6{op op':CmpOp}{r r':R2}(ho:OpR X (compareOp op) r)(ho':OpR X (compareOp op') r')(ha:PE X a ta)(hb:PE X b tb)(hc:PE X c tc)
  (hm:lastMarks [op,op'] [b,c]=false:=by with_unfolding_all rfl):PE X (.Compare a [op,op'] [b,c] pos) (ak7 r r' ta tb tc):=by
 intro zv s σ H Q I h;refine Compare_chain (thn (ha zv s σ H _ I h) fun v s1 ⟨x,H1,I1,r1,q1⟩=>chain_link (thn (hb zv s1 σ H1 _ I1 q1) fun u s2 ⟨y,H2,I2,r2,q2⟩ =>
  thn (ho zv s2 σ H2 x y v u _ I2 r1 r2 q2) fun d s3 ⟨z,H3,I3,r3,k,e,q3⟩ =>?_)) hm
 subst e;cases r3;refine wpAny_truthy_bool ?_;cases k with
 | false=>exact ite_ff ⟨.bl false,H3,I3,rfl,q3⟩
 | true=>exact ite_tt (chain_last (thn (hc zv s3 σ H3 _ I3 q3) fun w' s4 ⟨z',H4,I4,r4,q4⟩=>ho' zv s4 σ H4 y z' u w' Q I4 r2 r4 q4))
theorem an0{op op':CmpOp}{r r':R2}(ho:OpR X (compareOp op) r)(ho':OpR X (compareOp op') r')(ha:PE X a ta)(hb:PE X b tb)(hc:PE X c tc)
  (hm:lastMarks [op,op'] [b,c]=false:=by with_unfolding_all rfl):PT X (.Compare a [op,op'] [b,c] pos) (atj (ak7 r r' ta tb tc)):=by
 intro zv s σ H Q I h;refine isTrue_chain (thn (ha zv s σ H _ I h) fun v s1 ⟨x,H1,I1,r1,q1⟩=>test_link (thn (hb zv s1 σ H1 _ I1 q1) fun u s2 ⟨y,H2,I2,r2,q2⟩ =>
  thn (ho zv s2 σ H2 x y v u _ I2 r1 r2 q2) fun d s3 ⟨z,H3,I3,r3,k,e,q3⟩ =>?_)) hm
 subst e;cases r3;refine wpAny_truthy_bool ?_;cases k with
 | false =>
  obtain⟨k',e',q'⟩:=q3;cases e';exact ite_ff ⟨H3,I3,q'⟩
 | true =>
  refine ite_tt (test_last (thn (hc zv s3 σ H3 _ I3 q3) fun w' s4 ⟨z',H4,I4,r4,q4⟩=>thn (ho' zv s4 σ H4 y z' u w' _ I4 r2 r4 q4) fun d' s5 ⟨z2,H5,I5,r5,k2,e2,q5⟩ =>?_))
  subst e2;cases r5;exact wpAny_truthy_bool ⟨H5,I5,q5⟩
theorem ag1:(sizeLine:Nat) < 2 ^ 63:=by rw[sizeLine_eq];decide
theorem ake:OpR X (binaryOp .Add) (fun x y H Q=>∃i j,x=.str i/\y=.str j/\i.length+j.length<=sizeLine/\Q (.str (i++j)) H):=by
 intro zv s σ H x y v u Q I rx ry h;obtain⟨i,j,rfl,rfl,hz,q⟩:=h;obtain⟨t,rfl⟩:=rx;obtain⟨t',rfl⟩:=ry;exact add_str (fun t' tk=>⟨.str (i++j),H,I.tok _,⟨_,rfl⟩,q⟩) hz
theorem vals1{x:V}{us:List Value}(r:Vals [x] us):∃u,us=[u]/\RelV x u:=by
 cases r with
 | cons r1 r2=>cases r2;exact⟨_,rfl,r1⟩
theorem vals2{x y:V}{us:List Value}(r:Vals [x,y] us):∃u w',us=[u,w']/\RelV x u/\RelV y w':=by
 cases r with
 | cons r1 r2 =>
  cases r2 with
  | cons r3 r4=>cases r4;exact⟨_,_,rfl,r1,r3⟩
theorem am7(hc:X.calm=true):acu X (.builtin "max") (fun xs H Q=>∃i j,xs=[.int i,.int j]/\Q (.int (if j > i then j else i)) H):=by
 intro zv s σ H xs us Q I r h;obtain⟨i,j,rfl,q⟩:=h;obtain⟨u,w',rfl,⟨t,rfl⟩,⟨t',rfl⟩⟩:=vals2 r;refine max_two_ints (I.ok.hd hc) fun h' tk k=>⟨_,H,I.kept k,?_,q⟩
 by_cases hj:j > i
 ·rw[if_pos hj,if_pos hj];exact⟨_,rfl⟩
 ·rw[if_neg hj,if_neg hj];exact⟨_,rfl⟩
theorem ahn:acu X (.type "int") (fun xs H Q=>(∃i,xs=[.int i]/\Q (.int i) H)∨∃k,xs=[.bl k]/\Q (.int (if k then 1 else 0)) H):=by
 intro zv s σ H xs us Q I r h;rcases h with⟨i,rfl,q⟩ | ⟨k,rfl,q⟩
 ·obtain⟨u,rfl,t,rfl⟩:=vals1 r;exact call_int_int ⟨.int i,H,I,⟨_,rfl⟩,q⟩
 ·obtain⟨u,rfl,r1⟩:=vals1 r;cases r1;exact call_int_bool ⟨.int (if k then 1 else 0),H,I.tok _,⟨_,rfl⟩,q⟩
end
structure ObjM (h:Heap) (x dx C:Addr) (mA:Str->Option Value):Prop where
 obj:h.get? x=some (PySem.W.instObj C dx)
 ns:h.Ns1 dx mA
 ne:dx≠x
theorem ag0{h:Heap}{dx:Addr}{mA:Str->Option Value}(n:h.Ns1 dx mA):∃od,h.get? dx=some od/\∀name,PySem.W.lookIn name od=some (mA name):=by
 obtain⟨o,es,ep,ho,hd,hk,_,hm⟩:=n;refine⟨o,ho,fun name =>?_⟩
 have e:=hm name;unfold nsFind findBy at e;rw[<-Array.find?_toList] at e;unfold PySem.W.lookIn;rw[hd];dsimp only;split
 ·rename_i y q;rw[q] at e;exact congrArg some e
 ·rename_i q;rw[q] at e;have a:es.toList.any (·.refKey)=false:=by
   rw[List.any_eq_false];intro y hy;obtain⟨z,t,hkey⟩:=hk y (Array.mem_toList_iff.mp hy);simp[DictEntry.refKey,hkey]
  have a':¬es.toList.any (·.refKey)=true:=by rw[a];exact Bool.false_ne_true
  rw[if_neg a'];exact congrArg some e
theorem ObjM.look{h:Heap}{x dx C:Addr}{mA:Str->Option Value}(I:ObjM h x dx C mA):∃od,PySem.W.InstAt h x (PySem.W.instObj C dx) C (some od)/\∀name,PySem.W.lookIn name od=some (mA name) :=
 let ⟨od,ho,hl⟩:=ag0 I.ns
 ⟨od,⟨I.obj,rfl,rfl,ho⟩,hl⟩
section
variable{prog:Program}{w:World}{A:Around}{E:Value->Shared->Prop}{s:Shared}{K:Fg9}{x dx C f:Addr}{mA:Str->Option Value}{name:Str}{v:Value}
theorem asi{expr:Bool}{Q:Value->Shared->Prop}(X:K.In s.heap)(I:ObjM s.heap x dx C mA)(hg:PySem.W.plainGet K C name=true)(hh:PySem.W.hasDictIn K C=true)
  (ha:findIn K (.ref C) name=some none) (hv:mA name=some v) (hv':PySem.W.handedIn v=true) (h:Q v { s with toks:=s.toks+1 }) :
  wpAny (model prog w) A (getAttr (.ref x) name expr) Q E s:=by
 obtain⟨od,J,hl⟩:=I.look;exact PySem.W.get_value X J (PySem.W.plainGet_of hg).1 (PySem.W.findObj_own hh ha rfl (by rw[hl,hv])) hv' h
theorem aox{pl:Sem Bool}{Q:Value×List Value->Shared->Prop}(X:K.In s.heap)(I:ObjM s.heap x dx C mA)(hg:PySem.W.plainGet K C name=true)
  (hf:findIn K (.ref C) name=some (some (.ref f))) (ht:PySem.W.isFn K (.ref f)=true) (hv:mA name=none) (h:Q (.ref f,[.ref x]) s) :
  wpAny (model prog w) A (getMethod (.ref x) name pl) Q E s:=by
 obtain⟨od,J,hl⟩:=I.look;exact PySem.W.method_fn X J (PySem.W.plainGet_of hg).1 (PySem.W.plainGet_of hg).2 hf (beq_iff_eq.mp ht) (by show(PySem.W.lookIn name od).map (·.isSome)=some false;rw[hl,hv];rfl) h
theorem aqz{ns:List Str}{Q:Unit->Shared->Prop}(X:K.In s.heap)(I:ObjM s.heap x dx C mA)
  (hs:findIn K (.ref C) "__setattr__" = some (some (.builtin "object.__setattr__"))) (hp:PySem.W.plainOver K C=true) (ht:PySem.W.takerIn K C name=some none) (hh:PySem.W.hasDictIn K C=true)
  (hw:PySem.Within mA ns) (hsz:ns.length<=sizeLine)
  (h:∀h',ObjM h' x dx C (fun y=>if y=name then some v else mA y)->Heap.SameBut dx s.heap h'->Q () { s with heap:=h',toks:=s.toks+2 }) :
  wpAny (model prog w) A (setAttr (.ref x) name v) Q E s:=by
 obtain⟨od,J,hl⟩:=I.look;refine PySem.W.set_plain X J hs (PySem.W.osa_open (s:={ s with toks:=s.toks+1 }) (r:=none) X J hp ht fun b =>?_)
 obtain⟨cd,hc,hd'⟩:=PySem.W.any_some hh;have hx:s.heap.get? x=some ⟨.ref C,some dx,.plain,#[]⟩:=I.obj;refine wpAny_bind (wpAny_pure (wpAny_bind (wpAny_bind (wpAny_loadPart hx (wpAny_bind (PySem.W.Looks.here (s:={ s with toks:=s.toks+1 }) (PySem.W.looks_clsIn X hc) ?_))))))
 rw[hd'];refine wpAny_pure (a:=some dx) (wpAny_bind (wpAny_pure (wpAny_bind ?_)));refine wpAny_nsSet1 (s:={ s with toks:=s.toks+1 }) I.ns fun h' hn2 hs2 =>?_
 obtain⟨oD,esD,epD,hoD,hdD,hcD⟩:=hn2.count (PySem.Within.cons name v hw);refine wpAny_bind (wpAny_lookBehind hoD (by rw[hdD];exact pastItsLine_dict (Nat.le_trans hcD (by rw[List.length_cons];omega))) ?_)
 exact wpAny_pure (h _ ⟨(hs2.2 _ (Ne.symm I.ne)).trans I.obj,hn2,I.ne⟩ hs2)
theorem aoh{R:Result->Shared->Prop}{vs:List Value}{kw:List (Str×Value)}(X:K.In s.heap)(hm:PySem.W.makesIn K C=true)
  (hi:findIn K (.ref C) "__init__" = some (some (.ref f))) (hf:PySem.W.typeIn K (.ref f)=some (.type "function"))
  (h:codeAny (model prog w) (A.under (.builtin "type.__call__" ⟨.ref C::vs,kw⟩)) (.call (.ref f) ⟨.ref (s.heap.objs.size+1)::vs,kw⟩) (PySem.W.InitBack (s.heap.objs.size+1) R)
   { s with heap:=(s.heap.push PySem.W.emptyDict).push (PySem.W.instObj C s.heap.objs.size) }) :
  codeAny (model prog w) A (.call (.ref C) ⟨vs,kw⟩) R s:=by
 obtain⟨hh,g,d,t,os⟩:=s;exact PySem.W.make_core (PySem.W.makes_of X hm) (PySem.W.looks_findIn X hi) (fun self=>PySem.W.bind_fn X self hf) (.inl rfl) h
end
def putF(f:Str)(v:V):List (Str×V)->List (Str×V)
 | []=>[(f,v)]
 | (g,x)::r=>if g=f then (g,v)::r else (g,x)::putF f v r
theorem ad1(f g:Str)(v:V):∀fs:List (Str×V),(putF f v fs).lookup g=if g=f then some v else fs.lookup g
 | []=>by
  show List.lookup g [(f,v)]=_
  by_cases h:g=f
  ·have hb:(g==f)=true:=beq_iff_eq.mpr h;simp only[List.lookup,hb,if_pos h]
  ·have hb:(g==f)=false:=beq_eq_false_iff_ne.mpr h;simp only[List.lookup,hb,if_neg h]
 | (k,x)::r=>by
  have ih:=ad1 f g v r;rw[show putF f v ((k,x)::r)=(if k=f then (k,v)::r else (k,x)::putF f v r) from rfl]
  by_cases hk:k=f
  ·rw[if_pos hk]
   by_cases h:g=k
   ·have hb:(g==k)=true:=beq_iff_eq.mpr h;simp only[List.lookup,hb,if_pos (h.trans hk)]
   ·have hb:(g==k)=false:=beq_eq_false_iff_ne.mpr h;simp only[List.lookup,hb,if_neg (fun e:g=f=>h (e.trans hk.symm))]
  ·rw[if_neg hk]
   by_cases h:g=k
   ·have hb:(g==k)=true:=beq_iff_eq.mpr h;simp only[List.lookup,hb,if_neg (fun e:g=f=>hk (h.symm.trans e))]
   ·have hb:(g==k)=false:=beq_eq_false_iff_ne.mpr h;simp only[List.lookup,hb];exact ih
theorem ad5(f:Str)(v:V):∀fs:List (Str×V),f∈(putF f v fs).map (·.1)/\∀g,g∈fs.map (·.1)->g∈(putF f v fs).map (·.1)
 | []=>⟨by simp[putF],fun g h=>by simp at h⟩
 | (k,x)::r=>by
  obtain⟨i1,i2⟩:=ad5 f v r;rw[show putF f v ((k,x)::r)=(if k=f then (k,v)::r else (k,x)::putF f v r) from rfl]
  by_cases hk:k=f
  ·rw[if_pos hk];subst hk;exact⟨by simp,fun g h=>by simpa using h⟩
  ·rw[if_neg hk];refine⟨?_,fun g h =>?_⟩
   ·rw[List.map_cons];exact List.mem_cons_of_mem _ i1
   ·rw[List.map_cons] at h ⊢
    rcases List.mem_cons.mp h with e | e
    ·exact List.mem_cons.mpr (.inl e)
    ·exact List.mem_cons_of_mem _ (i2 g e)
theorem ad3(f:Str)(v:V):∀fs:List (Str×V),(putF f v fs).length<=fs.length+1
 | []=>by simp[putF]
 | (k,x)::r=>by
  have ih:=ad3 f v r;rw[show putF f v ((k,x)::r)=(if k=f then (k,v)::r else (k,x)::putF f v r) from rfl]
  by_cases hk:k=f
  ·rw[if_pos hk,List.length_cons,List.length_cons];omega
  ·rw[if_neg hk,List.length_cons,List.length_cons];omega
theorem RelO.some_of{v:V}{o:Option Value}(r:RelO (some v) o):∃u,o=some u/\RelV v u:=by
 cases o with
 | none=>exact(show False from r).elim
 | some u=>exact⟨u,rfl,r⟩
theorem RelO.none_of{o:Option Value}(r:RelO none o):o=none:=by
 cases o with
 | none=>rfl
 | some u=>exact(show False from r).elim
theorem amf{v:V}{u:Value}(r:RelV v u):PySem.W.handedIn u=true:=by
 cases v with
 | non=>cases(show u=Value.none from r);rfl
 | bl b=>cases(show u=Value.bool b from r);rfl
 | int i=>obtain⟨t,e⟩:=(show ∃t,u=Value.int i t from r);cases e;rfl
 | str x=>obtain⟨t,e⟩:=(show ∃t,u=Value.str x t from r);cases e;rfl
 | byt b=>obtain⟨t,e⟩:=(show ∃t,u=Value.bytes b t from r);cases e;rfl
 | flt b=>obtain⟨t,e⟩:=(show ∃t,u=Value.float b t from r);cases e;rfl
 | ref a=>cases(show u=Value.ref a from r);rfl
 | ty n=>cases(show u=Value.type n from r);rfl
section
variable{P:Program}{w:World}{H H':Hp}{h h':Heap}{a C dx:Addr}{fs fs':List (Str×V)}
theorem af7(hok:HOk P w H h)(e:H a=some (.ins C dx fs)):∃mA,ObjM h a dx C mA/\(∀f,RelO (fs.lookup f) (mA f))/\PySem.Within mA (fs.map (·.1))/\fs.length<=1000/\H dx=some (.own a):=by
 obtain⟨d,z,ne,ob,mA,n,r,q⟩:=(show rn P w H h a (.ins C dx fs) from hok a _ e)
 exact⟨mA,⟨ob,n,ne⟩,r,q,z,d⟩
end
structure Cls (K:Fg9) (C:Addr):Prop where
 pg:PySem.W.plainGet K C Str.empty=true
 hd:PySem.W.hasDictIn K C=true
 po:PySem.W.plainOver K C=true
 sa:findIn K (.ref C) "__setattr__" = some (some (.builtin "object.__setattr__"))
theorem Cls.get{K:Fg9}{C:Addr}(c:Cls K C)(f:Str):PySem.W.plainGet K C f=true:=c.pg
def aa1(K:Fg9)(C:Addr)(f:Str):Prop:=findIn K (.ref C) f=some none
theorem aa1.taker{K:Fg9}{C:Addr}{f:Str}(n:aa1 K C f):PySem.W.takerIn K C f=some none:=by
 unfold PySem.W.takerIn;rw[show findIn K (.ref C) f=some none from n]
 rfl
structure Con (K:Fg9) (C:Addr) (f:Str) (v:V) (u:Value):Prop where
 at_:findIn K (.ref C) f=some (some u)
 rel:RelV v u
 get:PySem.W.specialIn K u "__get__" = some none
 cp:PySem.W.copiedNames.contains f=false
structure Meth (K:Fg9) (C:Addr) (m:Str) (f:Addr):Prop where
 at_:findIn K (.ref C) m=some (some (.ref f))
 fn:PySem.W.isFn K (.ref f)=true
 kp:keepIn K (.ref f)=true
section
variable{X:Cx}{zv:List (Addr×Obj)}{σ:St}{H:Hp}{s:Shared}{a C dx:Addr}{fs:List (Str×V)}{f:Str}{v:V}{A:Around}{E:Value->Shared->Prop}
theorem akp{b:Bool}{Q:Value->Shared->Prop}(I:Inv X zv σ H s)(e:H a=some (.ins C dx fs))(c:Cls X.K C)(n:aa1 X.K C f)(l:fs.lookup f=some v)
  (h:∀u s',Inv X zv σ H s'->RelV v u->Q u s'):wpAny (model X.prog X.w) A (getAttr (.ref a) f b) Q E s:=by
 obtain⟨mA,O,r,_,_,_⟩:=af7 I.hok e;obtain⟨u,hu,ru⟩:=RelO.some_of (v:=v) (o:=mA f) (by rw[<-l];exact r f)
 exact asi I.kIn O (c.get f) c.hd n hu (amf ru) (h u _ (I.tok _) ru)
theorem ako{m:Str}{g:Addr}{pl:Sem Bool}{Q:Value×List Value->Shared->Prop}(I:Inv X zv σ H s)(e:H a=some (.ins C dx fs))(c:Cls X.K C)(k:Meth X.K C m g)(l:fs.lookup m=none)
  (h:Q (.ref g,[.ref a]) s):wpAny (model X.prog X.w) A (getMethod (.ref a) m pl) Q E s:=by
 obtain⟨mA,O,r,_,_,_⟩:=af7 I.hok e;have hn:mA m=none:=RelO.none_of (by rw[<-l];exact r m)
 exact aox I.kIn O (c.get m) k.at_ k.fn hn h
theorem aj7{y:V}{u:Value}{Q:Unit->Shared->Prop}(I:Inv X zv σ H s)(e:H a=some (.ins C dx fs))(c:Cls X.K C)(n:aa1 X.K C f)(hl:fs.length < 1000)(ry:RelV y u)
  (h:∀s',Inv X zv σ (upd H a (.ins C dx (putF f y fs))) s'->Q () s'):wpAny (model X.prog X.w) A (setAttr (.ref a) f u) Q E s:=by
 obtain⟨mA,O,r,wi,_,ho⟩:=af7 I.hok e;have hz:(fs.map (·.1)).length<=sizeLine:=by rw[List.length_map,sizeLine_eq];omega
 refine aqz I.kIn O c.sa c.po n.taker c.hd wi hz fun h' O' sb=>h _ ?_
 have hd:∃o,h'.get? dx=some o:=let ⟨o,_,_,e',_⟩:=O'.ns;⟨o,e'⟩
 refine I.write (x:=a) (e:=dx) (by rw[e];exact True.intro) (.inr ho) (fun b q hb z=>(sb.2 b hb).trans z) hd ?_
 refine⟨by rw[bu O.ne];exact ho,?_,O.ne,O'.obj,_,O'.ns,fun g =>?_,fun g hg =>?_⟩
 ·have:=ad3 f y fs;omega
 ·show RelO ((putF f y fs).lookup g) (if g=f then some u else mA g)
  rw[ad1]
  by_cases q:g=f
  ·rw[if_pos q,if_pos q];exact ry
  ·rw[if_neg q,if_neg q];exact r g
 ·by_cases q:g=f
  ·rw[q];exact(ad5 f y fs).1
  ·refine(ad5 f y fs).2 g (wi g fun z=>hg ?_)
   show(if g=f then some u else mA g)=none
   rw[if_neg q];exact z
theorem Inv.made(I:Inv X zv σ H s):Inv X zv σ (upd (upd H s.heap.objs.size (.own (s.heap.objs.size+1))) (s.heap.objs.size+1) (.ins C s.heap.objs.size []))
  { s with heap:=(s.heap.push PySem.W.emptyDict).push (PySem.W.instObj C s.heap.objs.size) }:=by
 have e1:(s.heap.push PySem.W.emptyDict).get? s.heap.objs.size=some PySem.W.emptyDict:=Heap.get?_push_size s.heap rfl;have e2:((s.heap.push PySem.W.emptyDict).push (PySem.W.instObj C s.heap.objs.size)).get? (s.heap.objs.size+1)=some (PySem.W.instObj C s.heap.objs.size):=by
  have:=Heap.get?_push_size (s.heap.push PySem.W.emptyDict) (o:=PySem.W.instObj C s.heap.objs.size) rfl;rwa[Heap.size_push] at this
 have e3:(s.heap.push PySem.W.emptyDict).Ns s.heap.objs.size (fun _=>none):=⟨PySem.W.emptyDict,#[],_,e1,rfl,(fun e he=>absurd he (by simp)),fun _=>rfl⟩
 have I1:=I.laid (a:=s.heap.objs.size) (o:=.own (s.heap.objs.size+1)) (h':=s.heap.push PySem.W.emptyDict) (t':=s.toks) (fun b u q=>Heap.get?_push_of_some _ q) (Nat.le_refl _) ⟨_,e1⟩
 refine I1.laid (a:=s.heap.objs.size+1) (o:=.ins C s.heap.objs.size []) (t':=s.toks) (fun b u q=>Heap.get?_push_of_some _ q) (Nat.le_of_eq (Heap.size_push _ _)) ?_
 have ne:s.heap.objs.size≠s.heap.objs.size+1:=Nat.ne_of_lt (Nat.lt_succ_self _);refine⟨by rw[bu ne,dg],Nat.zero_le _,ne,e2,fun _=>none,(Heap.Ns1.of_empty e3).at fun o q=>Heap.get?_push_of_some _ q,fun _=>True.intro,fun y hy=>absurd rfl hy⟩
theorem ane{prog:Program}{w:World}{env:Env}{e:Expr}{f:Str}{pos:Pos}{s:Shared}{Q:Value->Shared->Prop}(hb:attributeBase e f env (eval e env)=eval e env)
  (h:wpAny (model prog w) A (eval e env) (fun o s₁=>wpAny (model prog w) A (getAttr o f true) Q E s₁) E s):wpAny (model prog w) A (eval (.Attribute e f pos) env) Q E s :=
 Attribute_any_ h (by rw[arm_eval_Attribute,hb])
end
def tFld(K:Fg9)(ta:TE)(f:Str):TE:=fun σ H Q=>ta σ H fun x H1=>∃a C dx fs v,x=.ref a/\H1 a=some (.ins C dx fs)/\Cls K C/\aa1 K C f/\fs.lookup f=some v/\Q v H1
def sFld(K:Fg9)(ta tv:TE)(f:Str):TS:=fun D σ H=>tv σ H fun y H1=>ta σ H1 fun x H2=>∃a C dx fs,x=.ref a/\H2 a=some (.ins C dx fs)/\Cls K C/\aa1 K C f/\fs.length < 1000 /\
 D.nx σ (upd H2 a (.ins C dx (putF f y fs)))
section
variable{X:Cx}{o e value:Expr}{f:Str}{pos pos' tpos:Pos}{ta tv:TE}
theorem auj(he:PE X e ta)(hb:attributeBase e f X.env (eval e X.env)=eval e X.env):PE X (.Attribute e f pos) (tFld X.K ta f):=by
 intro zv s σ H Q I h;refine ane hb (thn (he zv s σ H _ I h) fun u s1 ⟨x,H1,I1,rx,a,C,dx,fs,v,ex,ea,c,n,l,q⟩ =>?_)
 subst ex;obtain rfl:u=Value.ref a:=rx;exact akp I1 ea c n l fun u' s2 I2 ru=>⟨v,H1,I2,ru,q⟩
theorem at8(ha:PE X o ta)(hv:PE X value tv)(hs:swapsWith value (some (.Attribute o f pos')) pos.line X.env=pure false):PS X (.Assign [.Attribute o f pos'] value pos) (sFld X.K ta tv f):=by
 intro zv s σ H D I h;refine plainObj_wpAny_Assign_Attribute (thn (hv zv s σ H _ I h) fun u s1 ⟨y,H1,I1,ry,q⟩=>thn (ha zv s1 σ H1 _ I1 q) fun ov s2 ⟨x,H2,I2,rx,a,C,dx,fs,ex,ea,c,n,l,q2⟩ =>?_) hs
 subst ex;obtain rfl:ov=Value.ref a:=rx;exact aj7 I2 ea c n l ry fun s3 I3=>⟨σ,_,I3,q2⟩
end
section
variable{X:Cx}{zv:List (Addr×Obj)}{σ:St}{H:Hp}{s:Shared}{A:Around}{E:Value->Shared->Prop}{Q:Value->Shared->Prop}{c:Value}{b:Bool}
inductive TyOf (K:Fg9) (H:Hp):V->Value->Prop where
 | non:TyOf K H .non (.type "NoneType")
 | bl (x:Bool):TyOf K H (.bl x) (.type "bool")
 | int (i:Int):TyOf K H (.int i) (.type "int")
 | str (x:Str):TyOf K H (.str x) (.type "str")
 | flt (x:UInt64):TyOf K H (.flt x) (.type "float")
 | lst {a:Addr} {xs:List V} (e:H a=some (.lst xs)):TyOf K H (.ref a) (.type "list")
 | frz {a:Addr} {o:Obj} {xs:List V} (e:H a=some (.frz o (.lst xs))):TyOf K H (.ref a) (.type "list")
 | tup {a:Addr} {xs:List V} (e:H a=some (.tup xs)):TyOf K H (.ref a) (.type "tuple")
 | dK {a:Addr} {kvs:List (Key×V)} (e:H a=some (.dK kvs)):TyOf K H (.ref a) (.type "dict")
 | dT {a:Addr} {kvs:List (List Key×V)} (e:H a=some (.dT kvs)):TyOf K H (.ref a) (.type "dict")
 | ins {a C dx:Addr} {fs:List (Str×V)} (e:H a=some (.ins C dx fs)) (cl:Cls K C) (ha:findIn K (.ref C) "__class__" = some (some (.builtin "object.__class__")))
   (hn:PySem.W.specialIn K (.builtin "object.__class__") "__get__" = some (some (.builtin "getset_descriptor.__get__"))) (htk:PySem.W.takesIn K (.builtin "object.__class__")=some true)
   (hm:PySem.W.mroIn K C (.type "object")=some true):TyOf K H (.ref a) (.ref C)
theorem amb{x:V}{u t:Value}(I:Inv X zv σ H s)(rx:RelV x u)(ty:TyOf X.K H x t)(e:PySem.W.kitOne X.K t c=some b)(h:∀tk,Q (.bool b) { s with toks:=tk }) :
  wpAny (model X.prog X.w) A (call (.builtin "isinstance") [u,c]) Q E s:=by
 cases ty with
 | non=>cases(show u=Value.none from rx);exact PySem.W.kia_one PySem.W.kitx_none I.kIn True.intro e (fun z=>nomatch z) h
 | bl y=>cases(show u=Value.bool y from rx);exact PySem.W.kia_one PySem.W.kitx_bool I.kIn True.intro e (fun z=>nomatch z) h
 | int i=>obtain⟨t,q⟩:=(show ∃t,u=Value.int i t from rx);cases q;exact PySem.W.kia_one PySem.W.kitx_int I.kIn True.intro e (fun z=>nomatch z) h
 | str y=>obtain⟨t,q⟩:=(show ∃t,u=Value.str y t from rx);cases q;exact PySem.W.kia_one PySem.W.kitx_str I.kIn True.intro e (fun z=>nomatch z) h
 | flt y=>obtain⟨t,q⟩:=(show ∃t,u=Value.float y t from rx);cases q;exact PySem.W.kia_one PySem.W.kitx_float I.kIn True.intro e (fun z=>nomatch z) h
 | @lst a xs ea =>
  cases(show u=Value.ref a from rx)
  obtain⟨_,_,n,_,h1⟩:=(show rn X.prog X.w H s.heap a (.lst xs) from I.hok a _ ea)
  exact PySem.W.kia_one PySem.W.kitx_list I.kIn ⟨_,h1,rfl⟩ e (fun z=>nomatch z) h
 | @frz a ob xs ea =>
  cases(show u=Value.ref a from rx)
  obtain⟨_,_,_,n,_,h1⟩:=(show rn X.prog X.w H s.heap a (.frz ob (.lst xs)) from I.hok a _ ea)
  exact PySem.W.kia_one PySem.W.kitx_list I.kIn ⟨_,h1,rfl⟩ e (fun z=>nomatch z) h
 | @tup a xs ea =>
  cases(show u=Value.ref a from rx)
  obtain⟨_,_,_,p⟩:=(show rn X.prog X.w H s.heap a (.tup xs) from I.hok a _ ea)
  obtain⟨o,h1,h2,_⟩:=p;exact PySem.W.kia_one PySem.W.kitx_tuple I.kIn ⟨o,h1,h2⟩ e (fun z=>nomatch z) h
 | @dK a kvs ea =>
  cases(show u=Value.ref a from rx)
  obtain⟨_,_,vs,_,p⟩:=(show rn X.prog X.w H s.heap a (.dK kvs) from I.hok a _ ea)
  obtain⟨o,es,ep,h1,h2,_⟩:=p;exact PySem.W.kia_one PySem.W.kitx_dict I.kIn ⟨o,h1,h2.1⟩ e (fun z=>nomatch z) h
 | @dT a kvs ea =>
  cases(show u=Value.ref a from rx)
  obtain⟨_,_,xs,_,o,es,ep,h1,h2,_⟩:=(show rn X.prog X.w H s.heap a (.dT kvs) from I.hok a _ ea)
  exact PySem.W.kia_one PySem.W.kitx_dict I.kIn ⟨o,h1,h2.1⟩ e (fun z=>nomatch z) h
 | @ins a C dx fs ea cl ha hn htk hm =>
  cases(show u=Value.ref a from rx)
  obtain⟨mA,O,_⟩:=af7 I.hok ea;obtain⟨od,J,_⟩:=O.look;exact PySem.W.kia_one (PySem.W.kitx_own (cl.get _) cl.hd ha hn htk hm) I.kIn J e (fun z=>nomatch z) h
end
structure Room (k:Nat) (A:Around):Prop where
 hd:A.handled=none
 dp:A.depth+3*k+5 < recursionLimit
 un:A.units+16*k+200 < cLine
 gd:A.guards=some []
theorem Room.mono{j k:Nat}{A:Around}(r:Room k A)(h:j<=k):Room j A:=⟨r.hd,by have:=r.dp;omega,by have:=r.un;omega,r.gd⟩
theorem Room.deeper{k:Nat}{A:Around}(r:Room (k+1) A)(env:Env):Room k (A.deeper env) :=
 ⟨r.hd,by have:=r.dp;show A.depth+1+3*k+5 < _;omega,by have:=r.un;show A.units+3+16*k+200 < _;omega,r.gd⟩
theorem akj{A:Around}{C:Addr}{us:List Value}{kw:List (Str×Value)}:(A.under (.builtin "type.__call__" ⟨.ref C::us,kw⟩)).depth=A.depth+1:=by
 first | rfl | simp[Around.under,Code.weight,Code.isCreation,Code.isGuard,Code.isCaller,Code.frames,Code.isFrame,guardIds]
theorem aki{A:Around}{C:Addr}{us:List Value}{kw:List (Str×Value)}:(A.under (.builtin "type.__call__" ⟨.ref C::us,kw⟩)).units=A.units+1:=by
 first | rfl | simp[Around.under,Code.cUnits,Code.frames,Code.isFrame]
theorem aih{A:Around}{C:Addr}{us:List Value}{kw:List (Str×Value)}:(A.under (.builtin "type.__call__" ⟨.ref C::us,kw⟩)).guards=A.guards:=by first | rfl | simp[Around.under,Code.weight,Code.isCreation,Code.isGuard,Code.isCaller,Code.frames,Code.isFrame,guardIds]
theorem Room.make{k:Nat}{A:Around}(r:Room (k+1) A)(C:Addr)(us:List Value)(kw:List (Str×Value)):Room k (A.under (.builtin "type.__call__" ⟨.ref C::us,kw⟩)) :=
 ⟨r.hd,by have:=r.dp;rw[akj];omega,by have:=r.un;rw[aki];omega,by rw[aih];exact r.gd⟩
theorem Room.depth{k:Nat}{A:Around}(r:Room k A):A.depth < recursionLimit:=by have:=r.dp;omega
theorem Room.units{k:Nat}{A:Around}(r:Room k A):A.units+64 < cLine:=by have:=r.un;omega
def tNil:TA:=fun _ H Q=>Q [] H
def axj(ta:TE)(tr:TA):TA:=fun σ H Q=>ta σ H fun x H1=>tr σ H1 fun xs H2=>Q (x::xs) H2
section
variable{X:Cx}{e:Expr}{es:List Expr}{te:TE}{t:TA}{pos:Pos}
theorem abu:PA X [] tNil:=fun _ _ _ _ H Q I h=>Calls.spliced_nil ⟨[],H,I,.nil,h⟩
theorem jy(ha:PE X e te)(hr:PA X es t)(hs:starEach (e::es) X.env=(false,eval e X.env)::starEach es X.env:=by rfl):PA X (e::es) (axj te t):=by
 intro pos zv s σ H Q I h;rw[hs];show wpAny _ _ (spliced ((false,eval e X.env)::backTo pos (starEach es X.env))) _ _ s;refine Calls.spliced_cons (thn (ha zv s σ H _ I h) fun u s1 ⟨x,H1,I1,r1,q1⟩ =>?_)
 exact thn (hr pos zv s1 σ H1 _ I1 q1) fun us s2 ⟨xs,H2,I2,r2,q2⟩=>⟨x::xs,H2,I2,.cons r1 r2,q2⟩
def tTup(t:TA):TE:=fun σ H Q=>t σ H fun xs H1=>xs.length<=sizeLine/\∀p,H1 p=none->Q (.ref p) (upd H1 p (.tup xs))
def tLst(t:TA):TE:=fun σ H Q=>t σ H fun xs H1=>xs.length<=sizeLine/\∀p,H1 p=none->Q (.ref p) (upd H1 p (.lst xs))
theorem apv{x1}(h:PA X es t):PE X (.Tuple es x1 pos) (tTup t):=by
 intro zv s σ H Q I hq;refine wpAny_Tuple_spliced (thn (h pos zv s σ H _ I hq) fun us s1 ⟨xs,H1,I1,r,z,q⟩=>⟨by rw[<-r.length];exact z,?_⟩)
 have hf:H1 s1.heap.objs.size=none:=I1.hok.fresh (Nat.le_refl _);refine⟨.ref s1.heap.objs.size,upd H1 s1.heap.objs.size (.tup xs),I1.laid (t':=s1.toks) (fun b u e=>Heap.get?_push_of_some _ e) (Nat.le_refl _) ?_,rfl,q _ hf⟩
 exact⟨z,us,r,⟨_,Heap.get?_push_size _ rfl,rfl,rfl,_,rfl⟩⟩
theorem auf(h:PA X es t):PE X (.List es pos) (tLst t):=by
 intro zv s σ H Q I hq;refine wpAny_List_spliced (thn (h pos zv s σ H _ I hq) fun us s1 ⟨xs,H1,I1,r,z,q⟩=>⟨by rw[<-r.length];exact z,?_⟩)
 have hf:H1 s1.heap.objs.size=none:=I1.hok.fresh (Nat.le_refl _);refine⟨.ref s1.heap.objs.size,upd H1 s1.heap.objs.size (.lst xs),I1.laid (t':=s1.toks) (fun b u e=>Heap.get?_push_of_some _ e) (Nat.le_refl _) ?_,rfl,q _ hf⟩
 exact⟨z,us,0,r,Heap.get?_push_size _ rfl⟩
end
abbrev Sp:=List V->Hp->VK->XK->Prop
abbrev CXT:=List Env->Hp->Shared->XK->Value->Shared->Prop
structure Env0 (P:Program) (w:World) (K:Fg9) (mg:Str->Option Value) (base:Heap) (A:Around) (outer:List Env) (s:Shared) (H:Hp):Prop where
 frames:A.frames=some outer
 mod:Mod K mg base
 bs:∀b o,base.get? b=some o->s.heap.get? b=some o/\H b=none
 bsz:base.objs.size<=s.heap.objs.size
 funs:s.heap.FunFrames base outer
 frf:∀b∈frs outer,H b=none
 hok:HOk P w H s.heap
 bare:AllBare s.gens
def CE(outer:List Env)(P:Program)(w:World)(H:Hp)(s:Shared)(Q:VK)(u:Value)(s':Shared):Prop :=
 ∃v H',s'.os=s.os/\AllBare s'.gens/\Un (frs outer) [] H H' s.heap s'.heap/\HOk P w H' s'.heap/\RelV v u/\Q v H'
def CR(CX:CXT)(outer:List Env)(P:Program)(w:World)(H:Hp)(s:Shared)(Q:VK)(E:XK)(r:Result)(s':Shared):Prop :=
 match r with
 | .ok (.ret u)=>CE outer P w H s Q u s'
 | .ok _=>False
 | .error e=>CX outer H s E e s'
structure FnOk (P:Program) (w:World) (K:Fg9) (mg:Str->Option Value) (base:Heap) (CX:CXT) (k:Nat) (f:Addr) (fd:FuncData) (ps:List Str) (sp:Sp):Prop where
 len:∀vs H Q E,sp vs H Q E->vs.length=ps.length
 run:∀(A:Around) (outer:List Env) (s:Shared) (H:Hp) (args:Args) (us:List Value) (vs:List V) (Q:VK) (E:XK),Room k A->Env0 P w K mg base A outer s H->BindsTo s fd args (ps.zip us)->Vals vs us->sp vs H Q E ->
  codeAny (model P w) A (.call (.ref f) args) (CR CX outer P w H s Q E) s
theorem Env0.make{P:Program}{w:World}{K:Fg9}{mg:Str->Option Value}{base:Heap}{A:Around}{outer:List Env}{s:Shared}{H:Hp}(e:Env0 P w K mg base A outer s H)(C:Addr)(us:List Value)(kw:List (Str×Value)) :
  Env0 P w K mg base (A.under (.builtin "type.__call__" ⟨.ref C::us,kw⟩)) outer s H:=⟨by first | exact e.frames | (simpa[Around.under,Code.envs,Code.isFrame,pushEnvs] using e.frames),e.mod,e.bs,e.bsz,e.funs,e.frf,e.hok,e.bare⟩
section
variable{X:Cx}{zv:List (Addr×Obj)}{σ:St}{H:Hp}{s s':Shared}
theorem Inv.env0(I:Inv X zv σ H s):Env0 X.prog X.w X.K X.mg X.base X.A X.stack s H :=
 ⟨I.ok.frames,I.ok.mod,I.bs,Nat.le_trans I.ok.bsz I.sz,I.stack,I.stkFree,I.hok,I.bare⟩
theorem Inv.after{Q:VK}{u:Value}(I:Inv X zv σ H s)(h:CE X.stack X.prog X.w H s Q u s'):EP X zv σ Q u s':=by
 obtain⟨v,H',os,bare,un,hok,r,q⟩:=h;obtain⟨hh,g,d,t,os'⟩:=s';obtain rfl:os'=s.os:=os;exact⟨v,H',I.call (h':=hh) (g':=g) (d':=d) (t':=t) (ch:=[]) un hok bare (fun b z=>absurd z (by simp)),r,q⟩
end
def aqt(sp:Sp)(dvs:List V)(E:XK)(t:TA):TE:=fun σ H Q=>t σ H fun vs H1=>sp (vs++dvs) H1 Q E
def axg(C:Addr)(m:Str)(sp:Sp)(dvs:List V)(E:XK)(ta:TE)(t:TA):TE:=fun σ H Q=>ta σ H fun x H1=>∃a dx fs,x=.ref a/\H1 a=some (.ins C dx fs)/\fs.lookup m=none /\
 t σ H1 fun vs H2=>sp (x::(vs++dvs)) H2 Q E
def axh(C:Addr)(sp:Sp)(dvs:List V)(E:XK)(t:TA):TE:=fun σ H Q=>t σ H fun vs H1=>∀x dx,H1 x=none->H1 dx=none->dx≠x ->
 sp (.ref x::(vs++dvs)) (upd (upd H1 dx (.own x)) x (.ins C dx [])) (fun v H2=>v=.non/\Q (.ref x) H2) E
def Binds(K:Fg9)(fd:FuncData)(ps:List Str)(ds:List Value):Prop :=
 ∀(s:Shared) (us:List Value),K.In s.heap->(us++ds).length=ps.length->BindsTo s fd ⟨us,[]⟩ (ps.zip (us++ds))
theorem Binds.all{K:Fg9}{fd:FuncData}{ps:List Str}(h:∀us:List Value,us.length=ps.length->bindArgs fd ⟨us,[]⟩=pure (ps.zip us)):Binds K fd ps []:=fun s us _ hl=>by
 rw[List.append_nil] at hl ⊢
 exact .of_eq (h us hl)
def ae9(CX:CXT)(X:Cx)(E:XK):Prop:=∀(zv:List (Addr×Obj)) (σ:St) (H:Hp) (s:Shared) (e:Value) (s':Shared),Inv X zv σ H s->CX X.stack H s E e s'->X.xe e s'
section
variable{X:Cx}{CX:CXT}{k:Nat}{f C:Addr}{fd:FuncData}{ps:List Str}{sp:Sp}{dvs:List V}{ds:List Value}{E:XK}{x m:Str}{p pos apos:Pos}{e o:Expr}{es:List Expr}{ta:TE}{t:TA}
theorem apl{zv:List (Addr×Obj)}{σ:St}{H:Hp}{s:Shared}{Q:VK}{us:List Value}{vs:List V}(F:FnOk X.prog X.w X.K X.mg X.base CX k f fd ps sp)(hr:Room k X.A)(hb:Binds X.K fd ps ds)(hd:Vals dvs ds)(hx:ae9 CX X E)
  (I:Inv X zv σ H s) (r:Vals vs us) (h:sp (vs++dvs) H Q E):wpAny (model X.prog X.w) X.A (call (.ref f) us) (EP X zv σ Q) X.xe s:=by
 have r2:Vals (vs++dvs) (us++ds):=r.append hd;have hl:(us++ds).length=ps.length:=by rw[<-r2.length];exact F.len _ _ _ _ h
 refine wpAny_call (codeAny_mono (F.run X.A X.stack s H ⟨us,[]⟩ (us++ds) (vs++dvs) Q E hr I.env0 (hb s us I.kIn hl) r2 h) fun r s' hq =>?_)
 cases r with
 | error e=>exact hx zv σ H s e s' I hq
 | ok fl =>
  cases fl with
  | ret u=>exact I.after hq
  | next=>exact False.elim hq
  | brk=>exact False.elim hq
  | cont=>exact False.elim hq
theorem ark(F:FnOk X.prog X.w X.K X.mg X.base CX k f fd ps sp)(hr:Room k X.A)(hg:Gl X x)(hm:X.mg x=some (.ref f))(hk:keepIn X.K (.ref f)=true)(hb:Binds X.K fd ps ds)(hd:Vals dvs ds)(hx:ae9 CX X E)
  (ha:PA X (e::es) t) (hdb:(x==("__debug__" : Str))=false:=by decide) (he:starEach (e::es) X.env=(false,eval e X.env)::starEach es X.env:=by rfl) (hpl:(backTo pos (starEach es X.env)).any (·.1)=false:=by rfl) :
  PE X (.Call (.Name x p) (e::es) [] pos) (aqt sp dvs E t):=by
 intro zv s σ H Q I h;refine wpAny_Call_Name_kw (aaf I hg hm ?_ hdb);refine PySem.W.callWith_K (h₀:=X.base) I.ok.mod.kin hk (thn (ha pos zv s σ H _ I h) fun us s1 ⟨vs,H1,I1,r,q⟩=>⟨I1.kIn,?_⟩) he hpl
 exact apl F hr hb hd hx I1 r q
theorem ard{pl:Sem Bool}(he:PE X o ta)(c:Cls X.K C)(hm:Meth X.K C m f)(F:FnOk X.prog X.w X.K X.mg X.base CX k f fd ps sp)(hr:Room k X.A)(hb:Binds X.K fd ps ds)(hd:Vals dvs ds)(hx:ae9 CX X E)(ha:PA X (e::es) t)
  (hst:starEach (e::es) X.env=(false,eval e X.env)::starEach es X.env:=by rfl) (hpl:(backTo pos (starEach es X.env)).any (·.1)=false:=by rfl)
  (ht:eval (.Call (.Attribute o m apos) (e::es) [] pos) X.env=(do
   let ov <-eval o X.env
   standAt apos.atName
   let (f,first) <-holding [ov] (getMethod ov m pl)
   callWith pos f first (backTo pos (starEach (e::es) X.env)) (backToKw pos (keywordEach [] X.env))):=by rfl) :
  PE X (.Call (.Attribute o m apos) (e::es) [] pos) (axg C m sp dvs E ta t):=by
 intro zv s σ H Q I h;refine PySem.W.methodCall_KW (pl:=pl) (thn (he zv s σ H _ I h) fun u s1 ⟨x,H1,I1,rx,a,dx,fs,ex,ea,l,q⟩ =>?_) ht
 subst ex;obtain rfl:u=Value.ref a:=rx;refine ako I1 ea c hm l ?_;refine PySem.W.callWith_K (first:=[.ref a]) (h₀:=X.base) I.ok.mod.kin hm.kp (thn (ha pos zv s1 σ H1 _ I1 q) fun us s2 ⟨vs,H2,I2,r,q2⟩=>⟨I2.kIn,?_⟩) hst hpl
 exact apl (us:=.ref a::us) (vs:=.ref a::vs) F hr hb hd hx I2 (.cons rfl r) q2
structure Mk (K:Fg9) (C f:Addr):Prop where
 makes:PySem.W.makesIn K C=true
 init:findIn K (.ref C) "__init__" = some (some (.ref f))
 fn:PySem.W.isFn K (.ref f)=true
 kp:keepIn K (.ref C)=true
theorem anv{zv:List (Addr×Obj)}{σ:St}{H:Hp}{s:Shared}{Q:VK}{us:List Value}{vs:List V}(M:Mk X.K C f)(F:FnOk X.prog X.w X.K X.mg X.base CX k f fd ps sp)(hr:Room (k+1) X.A)(hb:Binds X.K fd ps ds)(hd:Vals dvs ds)
  (hx:ae9 CX X E) (I:Inv X zv σ H s) (r:Vals vs us)
  (h:∀x dx,H x=none->H dx=none->dx≠x->sp (.ref x::(vs++dvs)) (upd (upd H dx (.own x)) x (.ins C dx [])) (fun v H2=>v=.non/\Q (.ref x) H2) E) :
  wpAny (model X.prog X.w) X.A (call (.ref C) us) (EP X zv σ Q) X.xe s:=by
 have hq:=h (s.heap.objs.size+1) s.heap.objs.size (I.hok.fresh (Nat.le_succ _)) (I.hok.fresh (Nat.le_refl _)) (Nat.ne_of_lt (Nat.lt_succ_self _));have I2:=Inv.made (C:=C) I;have r2:Vals (V.ref (s.heap.objs.size+1)::(vs++dvs)) (Value.ref (s.heap.objs.size+1)::(us++ds)):=.cons rfl (r.append hd);have hl:(Value.ref (s.heap.objs.size+1)::us++ds).length=ps.length:=by
  have e:=r2.length;rw[F.len _ _ _ _ hq] at e;exact e.symm
 refine wpAny_call (aoh (f:=f) I.kIn M.makes M.init (beq_iff_eq.mp M.fn) (codeAny_mono (F.run _ X.stack _ _ ⟨Value.ref (s.heap.objs.size+1)::us,[]⟩ (Value.ref (s.heap.objs.size+1)::(us++ds)) _ _ E (hr.make C us [])
  (I2.env0.make C us []) (hb _ (Value.ref (s.heap.objs.size+1)::us) I2.kIn hl) r2 hq) fun r s' hq' =>?_))
 cases r with
 | error e=>exact hx zv σ _ _ e s' I2 hq'
 | ok fl =>
  cases fl with
  | ret u =>
   obtain⟨v,H',I3,rv,ev,q3⟩:=I2.after hq';subst ev;exact⟨rv,⟨V.ref (s.heap.objs.size+1),H',I3,rfl,q3⟩⟩
  | next=>exact False.elim hq'
  | brk=>exact False.elim hq'
  | cont=>exact False.elim hq'
theorem arf(M:Mk X.K C f)(F:FnOk X.prog X.w X.K X.mg X.base CX k f fd ps sp)(hr:Room (k+1) X.A)(hg:Gl X x)(hm:X.mg x=some (.ref C))(hb:Binds X.K fd ps ds)(hd:Vals dvs ds)(hx:ae9 CX X E)
  (ha:PA X (e::es) t) (hdb:(x==("__debug__" : Str))=false:=by decide) (he:starEach (e::es) X.env=(false,eval e X.env)::starEach es X.env:=by rfl) (hpl:(backTo pos (starEach es X.env)).any (·.1)=false:=by rfl) :
  PE X (.Call (.Name x p) (e::es) [] pos) (axh C sp dvs E t):=by
 intro zv s σ H Q I h;refine wpAny_Call_Name_kw (aaf I hg hm ?_ hdb);refine PySem.W.callWith_K (h₀:=X.base) I.ok.mod.kin M.kp (thn (ha pos zv s σ H _ I h) fun us s1 ⟨vs,H1,I1,r,q⟩=>⟨I1.kIn,?_⟩) he hpl
 exact anv M F hr hb hd hx I1 r q
end
section
variable{X:Cx}{CX:CXT}{k:Nat}{f C:Addr}{fd:FuncData}{ps ks:List Str}{sp:Sp}{E:XK}{x m:Str}{p pos apos kpos:Pos}{e o:Expr}{es:List Expr}{kws:List Keyword}{te ta:TE}{t tk:TA}{nm:Option Str}
structure KBinds (K:Fg9) (fd:FuncData) (ps ks:List Str) (g:List Value->List Value->List Value) (gV:List V->List V->List V):Prop where
 to:∀(s:Shared) (us ws:List Value),K.In s.heap->(g us ws).length=ps.length->BindsTo s fd ⟨us,ks.zip ws⟩ (ps.zip (g us ws))
 rel:∀{vs:List V} {us:List Value} {zs:List V} {ws:List Value},Vals vs us->Vals zs ws->Vals (gV vs zs) (g us ws)
variable{g:List Value->List Value->List Value}{gV:List V->List V->List V}
end
structure FnScope (N P:List Str) (sc:Scope):Prop where
 kind:sc.kind=.function
 co:sc.isCoroutine=false
 gen:sc.isGenerator=false
 nd:N.Nodup
 pre:N.take P.length=P
 par:∀x∈P,sc.names.lookup x=some .local∨sc.names.lookup x=some .cell
 nofree:∀y∈sc.names,y.2≠.free
theorem ahr{kindOf:Str->Option NameKind}{x:Str}:∀{binds:List (Str×Value)} {m:Str->Option Value},(∀v,(x,v)∉binds)->bindL kindOf binds m x=m x
 | [],_,_=>rfl
 | (n,v)::r,m,h=>by
  unfold bindL;rw[ahr fun w hw=>h w (List.mem_cons_of_mem _ hw)]
  split
  ·have:x≠n:=by rintro rfl;exact h v List.mem_cons_self
   simp[this]
  ·rfl
theorem aht{kindOf:Str->Option NameKind}{x:Str}:∀{binds:List (Str×Value)} {m:Str->Option Value},(∀v,(x,v)∉binds)->bindC kindOf binds m x=m x
 | [],_,_=>rfl
 | (n,v)::r,m,h=>by
  unfold bindC;rw[aht fun w hw=>h w (List.mem_cons_of_mem _ hw)]
  split
  ·rfl
  ·have:x≠n:=by rintro rfl;exact h v List.mem_cons_self
   simp[this]
theorem ahs{kindOf:Str->Option NameKind}{x:Str}{v:Value}:∀{P:List Str} {vs:List Value} {i:Nat} {m:Str->Option Value},P.Nodup->P[i]? = some x->vs[i]? = some v->kindOf x=some .local ->
  bindL kindOf (P.zip vs) m x=some v
 | [],_,_,_,_,h,_,_=>by simp at h
 | _::_,[],_,_,_,_,h,_=>by simp at h
 | p::P,w::vs,0,m,nd,h1,h2,hk=>by
  simp at h1 h2;subst h1;subst h2;show bindL kindOf ((p,w)::P.zip vs) m p=_;unfold bindL;rw[ahr fun v hv=>(List.nodup_cons.mp nd).1 (List.of_mem_zip hv).1,if_pos hk]
  simp
 | p::P,w::vs,i+1,m,nd,h1,h2,hk=>by
  show bindL kindOf ((p,w)::P.zip vs) m x=_;unfold bindL;exact ahs (i:=i) (List.nodup_cons.mp nd).2 (by simpa using h1) (by simpa using h2) hk
theorem ahu{kindOf:Str->Option NameKind}{x:Str}{v:Value}:∀{P:List Str} {vs:List Value} {i:Nat} {m:Str->Option Value},P.Nodup->P[i]? = some x->vs[i]? = some v->kindOf x≠some .local ->
  bindC kindOf (P.zip vs) m x=some v
 | [],_,_,_,_,h,_,_=>by simp at h
 | _::_,[],_,_,_,_,h,_=>by simp at h
 | p::P,w::vs,0,m,nd,h1,h2,hk=>by
  simp at h1 h2;subst h1;subst h2;show bindC kindOf ((p,w)::P.zip vs) m p=_;unfold bindC;rw[aht fun v hv=>(List.nodup_cons.mp nd).1 (List.of_mem_zip hv).1,if_neg hk]
  simp
 | p::P,w::vs,i+1,m,nd,h1,h2,hk=>by
  show bindC kindOf ((p,w)::P.zip vs) m x=_;unfold bindC;exact ahu (i:=i) (List.nodup_cons.mp nd).2 (by simpa using h1) (by simpa using h2) hk
def start(N:List Str)(vs:List V):St:=vs.map some++List.replicate (N.length - vs.length) none
def cxOf(CX:CXT)(P:Program)(w:World)(K:Fg9)(mg:Str->Option Value)(base:Heap)(N:List Str)(qual:Str)(scope:Scope)(f:Addr)(cd:Value)(A:Around)(outer:List Env)(s:Shared)(H:Hp)(E:XK):Cx where
 prog:=P
 w:=w
 K:=K
 mg:=mg
 base:=base
 A:=A.deeper (envOfC qual scope s.heap.objs.size f cd)
 N:=N
 s₀:=s
 H₀:=H
 env:=envOfC qual scope s.heap.objs.size f cd
 outer:=outer
 stack:=envOfC qual scope s.heap.objs.size f cd::outer
 ex:=[]
 calm:=true
 fn:=fun _=>true
 pn:=[]
 xe:=fun e s'=>wpAny (model P w) (A.deeper (envOfC qual scope s.heap.objs.size f cd)) (leaving (envOfC qual scope s.heap.objs.size f cd) e) (fun _ s''=>CX outer H s E e s'') (fun e' s''=>CX outer H s E e' s'') s'
theorem aju{sc:Scope}{n:Nat}{x:Str}(h:sc.names.lookup x=some .cell):∃c,(cellsFrom n sc.names []).lookup x=some c:=by
 have q:=PySem.W.cellsFrom_some sc.names n [] (.inl h);exact Option.isSome_iff_exists.mp q
theorem ag8{CX:CXT}{P:Program}{w:World}{K:Fg9}{mg:Str->Option Value}{base:Heap}{N ps:List Str}{qual:Str}{scope:Scope}{f:Addr}{cd:Value}{A:Around}{outer:List Env}{s s1:Shared}{H:Hp}{E:XK}{us:List Value}{vs:List V}
  (S:FnScope N ps scope) (hd:A.handled=none) (e0:Env0 P w K mg base A outer s H) (hl:vs.length=ps.length) (r:Vals vs us)
  (x:InCallC s s.heap.objs.size (bindL (envOfC qual scope s.heap.objs.size f cd).kindOf (ps.zip us) fun _=>none) (cellsFrom (s.heap.objs.size+1) scope.names []) (bindC (envOfC qual scope s.heap.objs.size f cd).kindOf (ps.zip us) fun _=>none) s1) :
  Inv (cxOf CX P w K mg base N qual scope f cd A outer s H E) [] (start N vs) H s1:=by
 have hpl:ps.length<=N.length:=by have:=congrArg List.length S.pre;rw[List.length_take] at this;omega
 obtain⟨h1,tk,rfl,hk⟩:=x.done;have noA:∀b:Addr,b∉(cxOf CX P w K mg base N qual scope f cd A outer s H E).ex:=fun b z=>absurd (show b∈([]:List Addr) from z) (by simp)
 refine⟨⟨e0.mod,S.kind,rfl,rfl,Nat.le_refl _,fun y z c h1 h2 =>?_,fun y hy =>?_,fun y c _ h =>?_,fun _=>hd,Around.frames_deeper e0.frames,.inr ⟨rfl,rfl⟩,fun b z=>absurd z (noA b),e0.bs,e0.bsz,fun b _ _=>noA b,fun b z=>absurd z (noA b),e0.funs,e0.frf⟩,
  rfl,e0.bare,Un.kept hk,⟨_,x.toInCall.ns,fun i y v h1 h2 h3 =>?_⟩,fun y c h=>⟨_,x.cell y c h⟩,e0.hok.fresh (Nat.le_refl _),fun y c h =>?_,fun p hp=>absurd (show p∈([]:List (Addr×Obj)) from hp) (by simp),e0.hok.kept hk,?_⟩
 ·exact name_of_addr x.apart (PySem.mem_of_lookup h1) (PySem.mem_of_lookup h2)
 ·have hy:scope.names.lookup y=some .cell∨scope.names.lookup y=some .free:=hy;rcases hy with hy | hy
  ·exact aju hy
  ·exact absurd rfl (S.nofree _ (PySem.mem_of_lookup hy))
 ·exact Nat.le_of_lt (x.above y c (PySem.mem_of_lookup h))
 ·have hi:i < vs.length:=by
   unfold start at h2
   by_cases hi:i < vs.length
   ·exact hi
   ·rw[List.getElem?_append_right (by simpa using hi)] at h2
    rw[List.getElem?_replicate] at h2;split at h2 <;> cases h2
  have ha:vs[i]? = some v:=by
   unfold start at h2;rw[List.getElem?_append_left (by simpa using hi),List.getElem?_map] at h2
   cases e:vs[i]? with
   | none=>rw[e] at h2;cases h2
   | some a=>rw[e] at h2;cases h2;rfl
  obtain⟨u,hu,rv⟩:=r.get ha;have hp:ps[i]? = some y:=by
   rw[<-S.pre,List.getElem?_take_of_lt (by omega)];exact h1
  have ndP:ps.Nodup:=by rw[<-S.pre];exact S.nd.sublist (List.take_sublist _ _)
  refine⟨u,rv,?_⟩;rcases S.par y (List.mem_of_getElem? hp) with k | k
  ·exact .inl ⟨k,ahs ndP hp hu k⟩
  ·obtain⟨c,e⟩:=aju (n:=s.heap.objs.size+1) k;refine .inr ⟨.inl k,c,e,?_⟩;have q:=x.cell y c e;rw[ahu ndP hp hu (by show scope.names.lookup y≠_;rw[k];decide)] at q
   exact q
 ·exact e0.hok.fresh (Nat.le_of_lt (x.above y c (PySem.mem_of_lookup h)))
 ·unfold start;show _=N.length;rw[List.length_append,List.length_map,List.length_replicate];omega
theorem avx{CX:CXT}{P:Program}{w:World}{K:Fg9}{mg:Str->Option Value}{base:Heap}{k:Nat}{f:Addr}{name qual:Str}{params:Arguments}{body:List Stmt}{scope:Scope}{dV kV doc pm cdv ct oc:Value}{an od:Option Addr}
  {osl:Array (Option Value)} {N ps:List Str} {sp:Sp} (lk:K.lookup f=some ⟨oc,od,.func (fnOf name qual params body scope dV kV doc pm an cdv ct),osl⟩) (hcd:codeIn K cdv qual=true) (S:FnScope N ps scope)
  (len:∀vs H Q E,sp vs H Q E->vs.length=ps.length)
  (hbody:∀(A:Around) (outer:List Env) (s:Shared) (H:Hp) (vs:List V) (Q:VK) (E:XK),Room k (A.deeper (envOfC qual scope s.heap.objs.size f cdv))->sp vs H Q E ->
   ∃t,PSs (cxOf CX P w K mg base N qual scope f cdv A outer s H E) body t/\t { nx:=fun _ H'=>Q .non H',rt:=Q } (start N vs) H) :
  FnOk P w K mg base CX (k+1) f (fnOf name qual params body scope dV kV doc pm an cdv ct) ps sp:=by
 refine⟨len,fun A outer s H args us vs Q E hr e0 hb r hsp =>?_⟩
 have hl:=len _ _ _ _ hsp;have KX:K.In s.heap:=e0.mod.kin.keeps fun b o e=>(e0.bs b o e).1
 have lim:s.heap.NoLimit:=e0.mod.nolimit.keeps fun b o e=>(e0.bs b o e).1
 have hkind:∀y∈ps.zip us,scope.names.lookup y.1=some .local∨(scope.names.lookup y.1=some .cell/\((cellsFrom (s.heap.objs.size+1) scope.names []).lookup y.1).isSome=true):=fun⟨n,v⟩ hy=>by
  rcases S.par n (List.of_mem_zip hy).1 with q | q
  ·exact .inl q
  ·exact .inr ⟨q,PySem.W.cellsFrom_some _ _ _ (.inl q)⟩
 refine codeAny_call_function hr.depth (KX _ _ lk) rfl S.co S.gen rfl (PySem.W.codeRec_of KX hcd) (hb _ _ _ _ ?_);refine wpAny_newFunctionEnv_cells S.kind hkind fun env he s1 x =>?_
 subst he;refine⟨lim.keeps x.toInCall.keep,codeAny_func ?_⟩;obtain⟨t,ht,hq⟩:=hbody A outer s H vs Q E (hr.deeper _) hsp;have I:Inv (cxOf CX P w K mg base N qual scope f cdv A outer s H E) [] (start N vs) H s1:=ag8 S hr.hd e0 hl r x;refine wpAny_mono (ht [] s1 (start N vs) H _ I hq) (fun fl s' hs =>?_) fun e s' hs=>hs
 have fin:∀{σ':St} {H':Hp} {v:V} {u:Value},Inv (cxOf CX P w K mg base N qual scope f cdv A outer s H E) [] σ' H' s'->RelV v u->Q v H'->CE outer P w H s Q u s' :=
  fun{σ' H' v u} J rv q=>⟨v,H',J.os,J.bare,J.base,J.hok,rv,q⟩
 cases fl with
 | ret u =>
  obtain⟨v,σ',H',J,rv,q⟩:=hs;exact fin J rv q
 | next =>
  obtain⟨σ',H',J,q⟩:=hs;exact fin (v:=V.non) (u:=Value.none) J rfl q
 | brk =>
  obtain⟨_,_,_,q⟩:=hs;exact False.elim q
 | cont =>
  obtain⟨_,_,_,q⟩:=hs;exact False.elim q
section
variable{X:Cx}{x:Str}{p pos:Pos}{e:Expr}{es:List Expr}{t:TA}{id T:String}{r:List V->Hp->VK->Prop}
def tCB(r:List V->Hp->VK->Prop)(t:TA):TE:=fun σ H Q=>t σ H fun vs H1=>r vs H1 Q
theorem adc(hc:acu X (.builtin id) r)(hg:Gl X x)(hm:X.mg x=none)(hv:bootBuiltins x=some (.builtin id))(ha:PA X (e::es) t)(hn:x ≠ "__name__" := by decide)(hdb:(x==("__debug__" : Str))=false:=by decide)
  (he:starEach (e::es) X.env=(false,eval e X.env)::starEach es X.env:=by rfl) (hpl:(backTo pos (starEach es X.env)).any (·.1)=false:=by rfl):PE X (.Call (.Name x p) (e::es) [] pos) (tCB r t):=by
 intro zv s σ H Q I h;refine wpAny_Call_Name_kw (ae0 I hg hm hv ?_ hn hdb);exact PyProof.Rows.callWith_builtin1 (thn (ha pos zv s σ H _ I h) fun us s1 ⟨vs,H1,I1,r1,q1⟩=>hc zv s1 σ H1 vs us Q I1 r1 q1) he hpl
theorem alp(hc:acu X (.type T) r)(hg:Gl X x)(hm:X.mg x=none)(hv:bootBuiltins x=some (.type T))(ha:PA X (e::es) t)(hn:x ≠ "__name__" := by decide)(hdb:(x==("__debug__" : Str))=false:=by decide)
  (he:starEach (e::es) X.env=(false,eval e X.env)::starEach es X.env:=by rfl) (hpl:(backTo pos (starEach es X.env)).any (·.1)=false:=by rfl):PE X (.Call (.Name x p) (e::es) [] pos) (tCB r t):=by
 intro zv s σ H Q I h;refine wpAny_Call_Name_kw (ae0 I hg hm hv ?_ hn hdb);exact PyProof.Rows.callWith_type1 (thn (ha pos zv s σ H _ I h) fun us s1 ⟨vs,H1,I1,r1,q1⟩=>hc zv s1 σ H1 vs us Q I1 r1 q1) he hpl
end
end L2
namespace HT
open PySem PyProof.Rows
section
open PySem.SeqAt
open PySem.AutoSeq1 (wpAny_loadPart')
open PySem.MeetsSeq PySem.MeetsSeq2 PySem.MeetsSeq3
end
section
variable{prog:Program}{w:World}{A:Around}{E:Value->Shared->Prop}{s:Shared}
theorem as6{t b:Addr}{vs ws:List Value}{Q:Value->Shared->Prop}(ht:IsTup s.heap t vs.toArray)(hb:IsTup s.heap b ws.toArray)(hv:vs≠[])
  (h1:ws=[]->Q (.ref t) s) (h2:ws≠[]->Q (.ref s.heap.objs.size) { s with heap:=s.heap.push { cls:=.type "tuple", data:=.seq (vs++ws).toArray } })
  (hsz:vs.length+ws.length<=sizeLine):wpAny (model prog w) A (binaryOp .Add (.ref t) (.ref b)) Q E s:=by
 obtain⟨⟨cls,dd,data,sl⟩,ho,hc,n,hd⟩:=id ht;obtain⟨⟨cls2,dd2,data2,sl2⟩,ho2,hc2,n2,hd2⟩:=id hb;simp only at hc hd hc2 hd2;subst hc hd hc2 hd2;have e:vs.toArray++ws.toArray=(vs++ws).toArray:=by simp
 by_cases hw:ws=[]
 ·exact concat_meets ⟨_,ho,rfl⟩ ⟨_,ho2,rfl⟩ noFill_tuple_add seq_tuple_add PySem.F.slot_tuple_add PySem.F.entry_tuple_add (PySem.F.args_tuple_add_2 _ _)
   (tuple_addW1 t b vs.toArray ws.toArray n n2 dd dd2 sl sl2 (by simpa using hv) (by simp[hw])) ⟨ho,ho2,h1 hw⟩
 ·refine concat_meets ⟨_,ho,rfl⟩ ⟨_,ho2,rfl⟩ noFill_tuple_add seq_tuple_add PySem.F.slot_tuple_add PySem.F.entry_tuple_add (PySem.F.args_tuple_add_2 _ _)
   (tuple_addW2 t b vs.toArray ws.toArray n n2 dd dd2 sl sl2 (by simpa using hv) (by simpa using hw) (by rw[List.size_toArray,List.size_toArray];exact hsz)) ⟨ho,ho2,?_⟩
  rw[e];exact h2 hw
def sIx(n d:Nat):Option Int->Nat
 | none=>d
 | some v=>if v < 0 then (v+(n:Int)).toNat else min v.toNat n
theorem atu(n d:Nat)(hd:d<=n)(o:Option Int):sIx n d o<=n:=by
 cases o with
 | none=>exact hd
 | some v =>
  show(if v < 0 then (v+(n:Int)).toNat else min v.toNat n)<=n
  by_cases hv:v < 0
  ·rw[if_pos hv];omega
  ·rw[if_neg hv];exact Nat.min_le_right _ _
theorem am1(v:Int)(n d:Nat):(if v < 0 then max (v+(n:Int)) 0 else min v (n:Int))=((sIx n d (some v):Nat):Int):=by
 show(if v < 0 then max (v+(n:Int)) 0 else min v (n:Int))=(((if v < 0 then (v+(n:Int)).toNat else min v.toNat n):Nat):Int)
 by_cases hv:v < 0
 ·simp only[if_pos hv];omega
 ·simp only[if_neg hv];omega
theorem aks(lo hi:Option Int)(n:Nat):Builtin.Slice.sliceAdjust lo hi 1 (n:Int)=(((sIx n 0 lo:Nat):Int),((sIx n n hi:Nat):Int)):=by
 have h1:¬((1:Int) < 0):=by omega
 unfold Builtin.Slice.sliceAdjust;simp only[h1,if_false];refine Prod.ext ?_ ?_
 ·cases lo with
  | none=>rfl
  | some v=>exact am1 v n 0
 ·cases hi with
  | none=>rfl
  | some v=>exact am1 v n n
theorem akc(i j:Nat):Builtin.Slice.slicePlaces (i:Int) (j:Int) 1=j - i:=by
 unfold Builtin.Slice.slicePlaces;have h1:(1:Int) > 0:=by omega
 simp only[h1,if_true,Int.ediv_one];split <;> omega
theorem aes{v:Value}{o:Option Int}{Q:Option Int->Shared->Prop}(p:IsPart v o)(h:Q o s):wpAny (model prog w) A (Builtin.Slice.slicePartIndex v) Q E s:=by
 cases p with
 | none=>exact slicePart_none h
 | int i t=>exact slicePart_int h
theorem yw{sl:Addr}{vl vu:Value}{lo hi:Option Int}{n:Nat}{Q:Int×Int×Nat->Shared->Prop}(hs:s.heap.IsSliceOf sl vl vu .none)(pl:IsPart vl lo)(pu:IsPart vu hi)
  (h:Q (((sIx n 0 lo:Nat):Int),1,sIx n n hi - sIx n 0 lo) s):wpAny (model prog w) A (Builtin.Slice.sliceApplied (.ref sl) (pure (n:Int))) Q E s:=by
 obtain⟨os,hos,hcs,hds⟩:=id hs;unfold Builtin.Slice.sliceApplied Builtin.Slice.sliceFields;refine wpAny_bind (wpAny_bind (wpAny_field hos hds (x:=vl) rfl (wpAny_bind (wpAny_field hos hds (x:=vu) rfl (wpAny_bind (wpAny_field hos hds (x:=.none) rfl (wpAny_pure ?_)))))));refine wpAny_bind (slicePart_none ?_);show wpAny _ _ (if ((1:Int)==0)=true then _ else _) _ _ s
 rw[if_neg (by decide)]
 refine wpAny_bind (aes pl (wpAny_bind (aes pu (wpAny_bind (wpAny_pure ?_)))));show wpAny _ _ (match Builtin.Slice.sliceAdjust lo hi 1 (n:Int) with | (lo,hi)=>pure (lo,(1:Int),Builtin.Slice.slicePlaces lo hi 1)) _ _ s
 rw[aks lo hi n];show wpAny _ _ (pure (((sIx n 0 lo:Nat):Int),(1:Int),Builtin.Slice.slicePlaces ((sIx n 0 lo:Nat):Int) ((sIx n n hi:Nat):Int) 1)) _ _ s;rw[akc];exact wpAny_pure h
theorem an2(xs:Array Value)(i k:Nat):((List.range k).filterMap fun(m:Nat)=>xs[((i:Int)+(m:Int)*1).toNat]?).toArray=((xs.toList.drop i).take k).toArray:=by
 have e:(fun(m:Nat)=>xs[((i:Int)+(m:Int)*1).toNat]?)=fun m=>xs[i+m]? := by
  funext m
  have:((i:Int)+(m:Int)*1).toNat=i+m:=by omega
  rw[this]
 rw[e];have:=pick_run xs i k;rw[List.filterMap_map] at this;have e2:((fun x=>xs[x]?)∘fun x=>i+x)=fun m=>xs[i+m]? := rfl
 rw[e2] at this;rw[this]
theorem ack{t sl:Addr}{items:Array Value}{vl vu:Value}{lo hi:Option Int}{Q:Value->Shared->Prop}(ht:IsTup s.heap t items)(hs:s.heap.IsSliceOf sl vl vu .none)(pl:IsPart vl lo)(pu:IsPart vu hi)
  (hw:¬(sIx items.size 0 lo=0/\sIx items.size items.size hi=items.size))
  (h:Q (.ref s.heap.objs.size) { s with heap:=s.heap.push { cls:=.type "tuple", data:=.seq ((items.toList.drop (sIx items.size 0 lo)).take (sIx items.size items.size hi - sIx items.size 0 lo)).toArray } })
  (hsz:items.size<=sizeLine):wpAny (model prog w) A (getItem (.ref t) (.ref sl)) Q E s:=by
 have htake:sizeOk (.seq ((items.toList.drop (sIx items.size 0 lo)).take (sIx items.size items.size hi - sIx items.size 0 lo)).toArray):=by
  show((items.toList.drop (sIx items.size 0 lo)).take (sIx items.size items.size hi - sIx items.size 0 lo)).toArray.size<=sizeLine;rw[List.size_toArray,List.length_take,List.length_drop,Array.length_toList];omega
 have hj:sIx items.size items.size hi<=items.size:=atu _ _ (Nat.le_refl _) hi;obtain⟨os,hos,hcs,hds⟩:=id hs;have hTs:s.TypeIs (.ref sl) "slice" := ⟨os,hos,hcs⟩;unfold getItem
 try with_reducible refine wpAny_holding ?_
 first | refine wpAny_bind (wpAny_pure ?_) | skip
 refine wpAny_bind (wpAny_sequenceKey ht.typeIs (by decide) ?_)
 refine wpAny_bind (wpAny_callSpecial?_slot (name:=Str.ofString "__getitem__") ht.typeIs PyProof.Rows.slot_tuple_getitem
  (wpAny_call_entry PyProof.Rows.slot_tuple_getitem ht.typeIs entry_tuple_getitem ?_ (args_tuple_getitem _ _)))
 show wpAny _ _ (Builtin.Tuple.tupleItemsOf (.ref t) >>= _) _ _ s;refine wpAny_bind (tupleItemsOf_ ht ?_);refine wpAny_bind (wpAny_typeOf hTs ?_);rw[if_pos (by decide)]
 refine wpAny_bind (yw hs pl pu ?_);have hno:¬((((sIx items.size 0 lo:Nat):Int)==0&&(1:Int)==1&&(sIx items.size items.size hi - sIx items.size 0 lo)==items.size)=true):=by
  intro q;rw[Bool.and_eq_true,Bool.and_eq_true] at q;have q1:((sIx items.size 0 lo:Nat):Int)=0:=eq_of_beq q.1.1;have q2:sIx items.size items.size hi - sIx items.size 0 lo=items.size:=eq_of_beq q.2;exact hw ⟨by omega,by omega⟩
 show wpAny _ _ (if (((sIx items.size 0 lo:Nat):Int)==0&&(1:Int)==1&&(sIx items.size items.size hi - sIx items.size 0 lo)==items.size)=true then _ else _) _ _ s
 rw[if_neg hno,an2]
 first
  | exact wpAny_bind (m:=Builtin.Tuple.tupleExact _) (wpAny_newObj_type (wpAny_pure ⟨_,rfl,wpAny_pure h⟩) htake)
  | exact wpAny_bind (m:=Builtin.Tuple.tupleExact _) (wpAny_newObj_type (wpAny_bind (wpAny_pure (wpAny_pure ⟨_,rfl,wpAny_pure h⟩))) htake)
  | exact wpAny_bind (wpAny_bind (m:=Builtin.Tuple.tupleExact _) (wpAny_newObj_type (wpAny_pure (wpAny_pure ⟨_,rfl,wpAny_pure h⟩)) htake))
  | exact wpAny_bind (wpAny_bind (m:=Builtin.Tuple.tupleExact _) (wpAny_newObj_type (wpAny_pure ⟨_,rfl,wpAny_pure h⟩) htake))
end
end HT
namespace L2
abbrev TO:=St->Hp->(Option Int->Hp->Prop)->Prop
def PO(X:Cx)(e:Option Expr)(t:TO):Prop :=
 ∀(zv:List (Addr×Obj)) (s:Shared) (σ:St) (H:Hp) (Q:Option Int->Hp->Prop),Inv X zv σ H s->t σ H Q ->
  wpAny (model X.prog X.w) X.A (evalPart e X.env) (fun u s'=>∃o H',Inv X zv σ H' s'/\IsPart u o/\Q o H') X.xe s
def aqr:TO:=fun _ H Q=>Q none H
def axc(t:TE):TO:=fun σ H Q=>t σ H fun x H1=>∃i,x=.int i/\Q (some i) H1
section
variable{X:Cx}{e:Expr}{te:TE}{lo hi:Option Expr}{tl th:TO}{pos p2:Pos}
theorem aq8:PO X none aqr:=by
 intro zv s σ H Q I h;rw[evalPart_none];exact wpAny_pure ⟨none,H,I,.none,h⟩
theorem aq7(h:PE X e te):PO X (some e) (axc te):=by
 intro zv s σ H Q I hw;rw[evalPart_some];refine thn (h zv s σ H _ I hw) fun u s1 ⟨x,H1,I1,r1,q1⟩ =>?_
 obtain⟨i,rfl,q⟩:=q1;obtain⟨t,rfl⟩:=r1;exact⟨some i,H1,I1,.int i t,q⟩
def SlR(X:Cx)(r:V->Option Int->Option Int->Hp->VK->Prop):Prop :=
 ∀(zv:List (Addr×Obj)) (s:Shared) (σ:St) (H:Hp) (x:V) (v vl vu:Value) (lo hi:Option Int) (sl:Addr) (Q:VK),Inv X zv σ H s->RelV x v->s.heap.IsSliceOf sl vl vu .none->IsPart vl lo->IsPart vu hi->r x lo hi H Q ->
  ∃T id,typeLookup (.type T) "__getitem__" = pure (some (.builtin id))/\s.TypeIs v T/\wpAny (model X.prog X.w) X.A (getItem v (.ref sl)) (EP X zv σ Q) X.xe s
def tSl(r:V->Option Int->Option Int->Hp->VK->Prop)(te:TE)(tl th:TO):TE:=fun σ H Q=>te σ H fun x H1=>tl σ H1 fun l H2=>th σ H2 fun u H3=>r x l u H3 Q
theorem an4{r:V->Option Int->Option Int->Hp->VK->Prop}(hr:SlR X r)(he:PE X e te)(hl:PO X lo tl)(hu:PO X hi th):PE X (.Subscript e (.Slice lo hi none p2) pos) (tSl r te tl th):=by
 intro zv s σ H Q I h;refine Subscript_ (thn (he zv s σ H _ I h) fun v s1 ⟨x,H1,I1,r1,q1⟩ =>?_)
 refine wpAny_Slice (thn (hl zv s1 σ H1 _ I1 q1) fun vl s2 ⟨l,H2,I2,pl,q2⟩=>thn (hu zv s2 σ H2 _ I2 q2) fun vu s3 ⟨u,H3,I3,pu,q3⟩ =>?_)
 rw[evalPart_none];refine wpAny_pure ?_;have I4:Inv X zv σ H3 { s3 with heap:=s3.heap.push { cls:=.type "slice", data:=.fields #[vl,vu,.none] } }:=I3.kept (t':=s3.toks) fun b ob q=>Heap.get?_push_of_some _ q
 obtain⟨T,id,hT,ht,hg⟩:=hr zv { s3 with heap:=s3.heap.push { cls:=.type "slice", data:=.fields #[vl,vu,.none] } } σ H3 x v vl vu l u s3.heap.objs.size Q I4 r1 (Heap.IsSliceOf.new ..) pl pu q3
 show wpAny (model X.prog X.w) X.A (subscriptTail e (.Slice lo hi none p2) v (.ref s3.heap.objs.size)) (EP X zv σ Q) X.xe { s3 with heap:=s3.heap.push { cls:=.type "slice", data:=.fields #[vl,vu,.none] } }
 exact tail_any (ops:=[.ref s3.heap.objs.size,v]) ht hT hg (by with_unfolding_all rfl)
def cutV(xs:List V)(lo hi:Option Int):List V:=(xs.drop (HT.sIx xs.length 0 lo)).take (HT.sIx xs.length xs.length hi - HT.sIx xs.length 0 lo)
theorem aeg(xs:List V)(lo hi:Option Int):(cutV xs lo hi).length<=xs.length:=by
 unfold cutV;rw[List.length_take,List.length_drop];omega
def rSlT(K:Fg9):V->Option Int->Option Int->Hp->VK->Prop:=fun x lo hi H Q=>∃a xs,x=.ref a/\SqT K H a xs /\
 ¬(HT.sIx xs.length 0 lo=0/\HT.sIx xs.length xs.length hi=xs.length)/\∀p,H p=none->Q (.ref p) (upd H p (.tup (cutV xs lo hi)))
theorem atq:SlR X (rSlT X.K):=by
 intro zv s σ H x v vl vu lo hi sl Q I rx hs pl pu h;obtain⟨a,xs,rfl,hx,hw,q⟩:=h;cases rx;obtain⟨its,r,ht,hz⟩:=I.tuple hx;have hlen:its.toArray.size=xs.length:=by rw[List.size_toArray];exact r.length.symm
 refine⟨"tuple", _,PyProof.Rows.slot_tuple_getitem.lookup,ht.typeIs,?_⟩;refine HT.ack ht hs pl pu (by rw[hlen];exact hw) ?_ (by rw[hlen];exact hz)
 rw[hlen];refine⟨.ref s.heap.objs.size,_,I.laid (t':=s.toks) (o:=.tup (cutV xs lo hi)) (fun b ob q=>Heap.get?_push_of_some _ q) (Nat.le_refl _) ?_,rfl,q _ (I.hok.fresh (Nat.le_refl _))⟩
 exact⟨Nat.le_trans (aeg xs lo hi) hz,_,(r.drop (HT.sIx xs.length 0 lo)).take (HT.sIx xs.length xs.length hi - HT.sIx xs.length 0 lo),IsTp.new _ _⟩
def axo(K:Fg9):R2:=fun x y H Q=>∃a b xs ys,x=.ref a/\y=.ref b/\SqT K H a xs/\SqT K H b ys/\xs≠[]/\xs.length+ys.length<=sizeLine /\
 (ys=[]->Q (.ref a) H)/\(ys≠[]->∀p,H p=none->Q (.ref p) (upd H p (.tup (xs++ys))))
theorem Vals.nil_iff{xs:List V}{us:List Value}(r:Vals xs us):us=[]↔xs=[]:=by
 cases r with
 | nil=>simp
 | cons _ _=>simp
theorem art:OpR X (binaryOp .Add) (axo X.K):=by
 intro zv s σ H x y v u Q I rx ry h;obtain⟨a,b,xs,ys,rfl,rfl,ha,hb,hx,hz,q1,q2⟩:=h;cases rx;cases ry;obtain⟨its,r1,p1,_⟩:=I.tuple ha;obtain⟨its2,r2,p2,_⟩:=I.tuple hb;refine HT.as6 p1 p2 (fun z=>hx (r1.nil_iff.mp z)) (fun z=>⟨.ref a,H,I,rfl,q1 (r2.nil_iff.mp z)⟩) (fun z =>?_) (by rw[<-r1.length,<-r2.length];exact hz)
 refine⟨.ref s.heap.objs.size,_,I.laid (t':=s.toks) (o:=.tup (xs++ys)) (fun b ob q=>Heap.get?_push_of_some _ q) (Nat.le_refl _) ?_,rfl,q2 (fun w=>z (r2.nil_iff.mpr w)) _ (I.hok.fresh (Nat.le_refl _))⟩
 exact⟨by rw[List.length_append];exact hz,_,r1.append r2,IsTp.new _ _⟩
end
def ixN(n:Nat)(i:Int):Option Nat:=if 0<=i then (if i < n then some i.toNat else none) else if -(n:Int)<=i then some (i+n).toNat else none
def atI{α:Type}(xs:List α)(i:Int):Option α:=(ixN xs.length i).bind fun j=>xs[j]?
theorem al9{n:Nat}{i:Int}{j:Nat}(h:ixN n i=some j):seqIndex? i n=some j/\j < n /\ -(n:Int)<=i/\i < n:=by
 unfold ixN at h
 by_cases h0:0<=i
 ·rw[if_pos h0] at h
  by_cases h1:i < n
  ·rw[if_pos h1] at h;have e:i.toNat=j:=Option.some.inj h;exact⟨by rw[seqIndex_of h0 h1,e],by omega,by omega,h1⟩
  ·rw[if_neg h1] at h;cases h
 ·rw[if_neg h0] at h
  by_cases h1 : -(n:Int)<=i
  ·rw[if_pos h1] at h;have e:(i+n).toNat=j:=Option.some.inj h;exact⟨by rw[seqIndex_neg (by omega) h1,e],by omega,h1,by omega⟩
  ·rw[if_neg h1] at h;cases h
theorem aiu{α:Type}{xs:List α}{i:Int}{v:α}(h:atI xs i=some v):∃j,seqIndex? i xs.length=some j/\xs[j]? = some v/\j < xs.length /\ -(xs.length:Int)<=i/\i < xs.length:=by
 unfold atI at h;cases e:ixN xs.length i with
 | none=>rw[e] at h;cases h
 | some j =>
  rw[e] at h;obtain⟨h1,h2,h3,h4⟩:=al9 e;exact⟨j,h1,h,h2,h3,h4⟩
theorem ait{α:Type}{xs:List α}{j:Nat}{v:α}(h:xs[j]? = some v):atI xs (j:Int)=some v:=by
 have hj:j < xs.length:=(List.getElem?_eq_some_iff.mp h).1;have e:ixN xs.length (j:Int)=some j:=by
  unfold ixN;rw[if_pos (by omega),if_pos (by omega)];simp
 unfold atI;rw[e];exact h
def anh(b:Expr):Prop:=∀o i,subscripted b false o i=operate [o,i] (getItem o i)
def IxR(X:Cx)(r:R2):Prop :=
 ∀(value slice:Expr) (zv:List (Addr×Obj)) (s:Shared) (σ:St) (H:Hp) (x y:V) (v u:Value) (Q:VK),Inv X zv σ H s->RelV x v->RelV y u->r x y H Q ->
  subscripted slice false v u=operate [v,u] (getItem v u)->wpAny (model X.prog X.w) X.A (subscriptTail value slice v u) (EP X zv σ Q) X.xe s
def MtR(X:Cx)(id:String)(r:V->List V->Hp->VK->Prop):Prop :=
 ∀(zv:List (Addr×Obj)) (s:Shared) (σ:St) (H:Hp) (x:V) (xs:List V) (v:Value) (us:List Value) (Q:VK),Inv X zv σ H s->RelV x v->Vals xs us->r x xs H Q ->
  wpAny (model X.prog X.w) X.A (call (.builtin id) (v::us)) (EP X zv σ Q) X.xe s
section
variable{X:Cx}{a b:Expr}{ta tb:TE}{pos:Pos}
theorem axv{r:R2}(hr:IxR X r)(ha:PE X a ta)(hb:PE X b tb)(hs:anh b):PE X (.Subscript a b pos) (tOp r ta tb):=by
 intro zv s σ H Q I h;exact Subscript_ (binT ha hb I h fun v u s2 x y H2 I2 rx ry q=>hr a b zv s2 σ H2 x y v u Q I2 rx ry q (hs _ _))
def rIxL(K:Fg9):R2:=fun x y H Q=>∃p xs i v,x=.ref p/\y=.int i/\SqL K H p xs/\atI xs i=some v/\Q v H
def rIxT(K:Fg9):R2:=fun x y H Q=>∃p xs i v,x=.ref p/\y=.int i/\SqT K H p xs/\atI xs i=some v/\Q v H
theorem asd:IxR X (rIxL X.K):=by
 intro value slice zv s σ H x y v u Q I rx ry h hs;obtain⟨p,xs,i,z,rfl,rfl,hq,he,q⟩:=h;cases rx;obtain⟨t,rfl⟩:=ry;obtain⟨its,r,pl,hz⟩:=I.list hq;obtain⟨j,h1,h2,h3,h4,h5⟩:=aiu he;obtain⟨w,ew,rw'⟩:=r.get h2;have hl:=r.length;have hn:=ag1;have fin:EP X zv σ Q w s:=⟨z,H,I,rw',q⟩
 by_cases h0:0<=i
 ·have hj:i.toNat=j:=by
   rw[seqIndex_of h0 h5] at h1;exact Option.some.inj h1
  exact item_listR pl.isList h0 (by omega) (by rw[hj];simpa using ew) fin hs
 ·have hj:(i+(its.toArray.size:Int)).toNat=j:=by
   rw[seqIndex_neg (by omega) h4] at h1
   rw[List.size_toArray,<-hl];exact Option.some.inj h1
  exact subscriptTail_builtinR (x:=w) pl.isList.typeIs slot_list_getitem.lookup
   (wpAny_getItem_list_neg (Q:=fun r s'=>r=w/\EP X zv σ Q r s') pl.isList (by omega) (by rw[List.size_toArray] <;> omega) (by omega) (by rw[hj];simpa using ew) ⟨rfl,fin⟩) hs
theorem avj:IxR X (rIxT X.K):=by
 intro value slice zv s σ H x y v u Q I rx ry h hs;obtain⟨p,xs,i,z,rfl,rfl,hq,he,q⟩:=h;cases rx;obtain⟨t,rfl⟩:=ry;obtain⟨its,r,pl,hz⟩:=I.tuple hq;obtain⟨j,h1,h2,h3,h4,h5⟩:=aiu he;obtain⟨w,ew,rw'⟩:=r.get h2;have hl:=r.length;have hn:=ag1;have fin:EP X zv σ Q w s:=⟨z,H,I,rw',q⟩;exact subscriptTail_builtinR (x:=w) pl.typeIs slot_tuple_getitem.lookup
  (getItem_tuple (j:=j) (Q:=fun r s'=>r=w/\EP X zv σ Q r s') pl (by omega) (by omega) (by rw[List.size_toArray,<-hl];exact h1) (by simpa using ew) ⟨rfl,fin⟩) hs
theorem akh(its:List Value)(n j:Nat)(u:Value):Obj.mapSeq (·.setIfInBounds j u) { cls:=.type "list", data:=.seq its.toArray n }={ cls:=.type "list", data:=.seq (its.set j u).toArray n }:=by
 simp[Obj.mapSeq]
theorem Inv.lst{zv:List (Addr×Obj)}{σ:St}{H:Hp}{s:Shared}{p:Addr}{xs:List V}(I:Inv X zv σ H s)(h:H p=some (.lst xs)) :
  ∃(its:List Value) (n:Nat),Vals xs its/\s.heap.get? p=some { cls:=.type "list", data:=.seq its.toArray n }/\xs.length<=sizeLine:=by
 obtain⟨z,its,n,r,e⟩:=I.hok p _ h;exact⟨its,n,r,e,z⟩
theorem Inv.lstUpd{zv:List (Addr×Obj)}{σ:St}{H:Hp}{s:Shared}{p:Addr}{xs ys:List V}{its its':List Value}{n n':Nat}{f:Obj->Obj}(I:Inv X zv σ H s)(h:H p=some (.lst xs))
  (ho:s.heap.get? p=some { cls:=.type "list", data:=.seq its.toArray n }) (hf:f { cls:=.type "list", data:=.seq its.toArray n }={ cls:=.type "list", data:=.seq its'.toArray n' }) (r:Vals ys its') (hz:ys.length<=sizeLine) (t:Nat) :
  Inv X zv σ (upd H p (.lst ys)) { s with heap:=s.heap.update p f,toks:=t }:=by
 have e:(s.heap.update p f).get? p=some { cls:=.type "list", data:=.seq its'.toArray n' }:=by
  rw[Heap.get?_update_self f ho (by rw[hf] <;> rfl),hf]
 refine I.write (x:=p) (e:=p) (by rw[h];trivial) (.inl rfl) (fun b u hb q=>(Heap.get?_update_other _ _ (Ne.symm hb)).trans q) ⟨_,e⟩ ?_
 exact⟨hz,its',n',r,e⟩
def axn:V->V->V->Hp->(Hp->Prop)->Prop:=fun o i v H Q=>∃p xs k j,o=.ref p/\i=.int k/\H p=some (.lst xs)/\ixN xs.length k=some j/\Q (upd H p (.lst (xs.set j v)))
theorem set_list:PSet X axn:=by
 intro zv s σ H o i v ov iv u Q I ro ri rv h;obtain⟨p,xs,k,j,rfl,rfl,hp,hj,q⟩:=h;cases ro;obtain⟨t,rfl⟩:=ri;obtain⟨its,n,r,ho,hz⟩:=I.lst hp;obtain⟨h1,h2,h3,h4⟩:=al9 hj;have hl:=r.length;have hn:=ag1;have I':Inv X zv σ (upd H p (.lst (xs.set j v))) { s with heap:=s.heap.update p (Obj.mapSeq (·.setIfInBounds j u)) } :=
  I.lstUpd hp ho (akh its n j u) (r.set rv j) (by rw[List.length_set];exact hz) s.toks
 by_cases h0:0<=k
 ·have hk:k.toNat=j:=by
   rw[seqIndex_of h0 h4] at h1;exact Option.some.inj h1
  exact PySem.W.ki_setAt ho h0 (by omega) (by rw[List.size_toArray,<-hl];exact h4) (by rw[hk];exact⟨_,I',q⟩)
 ·have hk:(k+(its.toArray.size:Int)).toNat=j:=by
   rw[seqIndex_neg (by omega) h3] at h1
   rw[List.size_toArray,<-hl];exact Option.some.inj h1
  exact PySem.W.ki_setBack ho (by omega) (by rw[List.size_toArray,<-hl];exact h3) (by omega) (by rw[hk];exact⟨_,I',q⟩)
theorem agk(lo hi:Option Int)(n:Nat):(sliceBounds lo hi none n).1=((HT.sIx n 0 lo:Nat):Int)/\(sliceBounds lo hi none n).2.1=((HT.sIx n n hi:Nat):Int)/\(sliceBounds lo hi none n).2.2=1:=by
 refine⟨?_,?_,rfl⟩
 ·cases lo with
  | none=>simp[sliceBounds,HT.sIx]
  | some i =>
   simp only[sliceBounds,HT.sIx,Option.getD_none,show(1:Int) > 0 by decide,if_true]
   by_cases h:i < 0
   ·simp only[h,if_true] <;> omega
   ·simp only[h,if_false] <;> omega
 ·cases hi with
  | none=>simp[sliceBounds,HT.sIx]
  | some i =>
   simp only[sliceBounds,HT.sIx,Option.getD_none,show(1:Int) > 0 by decide,if_true]
   by_cases h:i < 0
   ·simp only[h,if_true] <;> omega
   ·simp only[h,if_false] <;> omega
theorem afe(its:List Value)(lo hi:Option Int):slicePick its.toArray lo hi none=((its.drop (HT.sIx its.length 0 lo)).take (HT.sIx its.length its.length hi - HT.sIx its.length 0 lo)).toArray:=by
 obtain⟨h1,h2,h3⟩:=agk lo hi its.toArray.size;unfold slicePick;rw[h1,h2,h3];simp only[sliceRange_one,pick_run,List.size_toArray] <;> rfl
def rSlL(K:Fg9):V->Option Int->Option Int->Hp->VK->Prop:=fun x lo hi H Q=>∃a xs,x=.ref a/\SqL K H a xs/\∀p,H p=none->Q (.ref p) (upd H p (.lst (cutV xs lo hi)))
theorem ak9:SlR X (rSlL X.K):=by
 intro zv s σ H x v vl vu lo hi sl Q I rx hs pl pu h;obtain⟨a,xs,rfl,hx,q⟩:=h;cases rx;obtain⟨its,r,ht,hz⟩:=I.list hx;have hlen:=r.length;refine⟨"list", _,slot_list_getitem.lookup,ht.isList.typeIs,?_⟩;refine wpAny_getItem_list_slice ht.isList hs pl pu .none (by simp) ?_ (by rw[List.size_toArray] <;> omega)
 rw[afe,<-hlen];refine⟨.ref s.heap.objs.size,_,I.laid (t':=s.toks) (o:=.lst (cutV xs lo hi)) (fun b ob q=>Heap.get?_push_of_some _ q) (Nat.le_refl _) ?_,rfl,q _ (I.hok.fresh (Nat.le_refl _))⟩
 exact⟨Nat.le_trans (aeg xs lo hi) hz,_,0,(r.drop (HT.sIx xs.length 0 lo)).take (HT.sIx xs.length xs.length hi - HT.sIx xs.length 0 lo),Heap.get?_push_size _ rfl⟩
theorem ahl:acu X (.builtin "len") (fun xs H Q=>∃p ys,xs=[.ref p]/\(SqL X.K H p ys∨SqT X.K H p ys)/\Q (.int ys.length) H):=by
 intro zv s σ H xs us Q I r h;obtain⟨p,ys,rfl,hq,q⟩:=h;obtain⟨u,rfl,rx⟩:=vals1 r;cases rx;have hn:=ag1;rcases hq with hq | hq
 ·obtain⟨its,r',pl,hz⟩:=I.list hq;have hlen:=r'.length;exact Calls.call_len_list pl.isList (by simp only[List.size_toArray] <;> omega) ⟨.int ys.length,H,I.tok _,⟨s.toks+1,by rw[List.size_toArray,hlen]⟩,q⟩
 ·obtain⟨its,r',pl,hz⟩:=I.tuple hq;have hlen:=r'.length;exact len_tuple pl (by simp only[List.size_toArray] <;> omega) ⟨.int ys.length,H,I.tok _,⟨s.toks+1,by rw[List.size_toArray,hlen]⟩,q⟩
theorem ahk:acu X (.type "list") (fun xs H Q=>∃p ys,xs=[.ref p]/\(SqL X.K H p ys∨SqT X.K H p ys)/\∀l,H l=none->Q (.ref l) (upd H l (.lst ys))):=by
 intro zv s σ H xs us Q I r h;obtain⟨p,ys,rfl,hq,q⟩:=h;obtain⟨u,rfl,rx⟩:=vals1 r;cases rx;have fin:∀(its:List Value),Vals ys its->ys.length<=sizeLine->∀(h':Heap) (c':Nat),(∀b o',s.heap.get? b=some o'->h'.get? b=some o') ->
   h'.get? s.heap.objs.size=some { cls:=.type "list", dict:=none,data:=.seq its.toArray c',slots := #[] }->EP X zv σ Q (.ref s.heap.objs.size) { s with heap:=h' }:=fun its r' hz h' c' kp e =>
  ⟨.ref s.heap.objs.size,_,I.laid (t':=s.toks) kp (Nat.le_refl _) (show rn X.prog X.w _ h' _ (.lst ys) from⟨hz,its,c',r',e⟩),rfl,q _ (I.hok.fresh (Nat.le_refl _))⟩
 rcases hq with hq | hq
 ·obtain⟨its,r',pl,hz⟩:=I.list hq;have hlen:=r'.length;obtain⟨o,ho,hc,n,hd⟩:=pl.isList;exact call_list_seq p (.inl rfl) ho hc hd (fun h' c' kp e=>fin its r' hz h' c' kp e) (by simp only[List.size_toArray] <;> omega)
 ·obtain⟨its,r',pl,hz⟩:=I.tuple hq;have hlen:=r'.length;obtain⟨o,ho,hc,n,hd⟩:=pl;exact call_list_seq p (.inr rfl) ho hc hd (fun h' c' kp e=>fin its r' hz h' c' kp e) (by simp only[List.size_toArray] <;> omega)
theorem yq:acu X (.type "tuple") (fun xs H Q=>∃p ys,xs=[.ref p]/\((SqL X.K H p ys/\∀l,H l=none->Q (.ref l) (upd H l (.tup ys)))∨(SqT X.K H p ys/\Q (.ref p) H))):=by
 intro zv s σ H xs us Q I r h;obtain⟨p,ys,rfl,h⟩:=h;obtain⟨u,rfl,rx⟩:=vals1 r;cases rx;rcases h with⟨hq,q⟩ | ⟨hq,q⟩
 ·obtain⟨its,r',pl,hz⟩:=I.list hq;have hlen:=r'.length;refine call_tuple_list pl.isList (fun h' kp =>?_) (by simp only[List.size_toArray] <;> omega)
  have I1:Inv X zv σ H { s with heap:=h' }:=I.kept (t':=s.toks) kp
  have I2:Inv X zv σ (upd H h'.objs.size (.tup ys)) { s with heap:=h'.push { cls:=.type "tuple", data:=.seq its.toArray } } :=
   I1.laid (t':=s.toks) (fun b o e=>Heap.get?_push_of_some _ e) (Nat.le_refl _) (show rn X.prog X.w _ _ _ (.tup ys) from⟨hz,its,r',IsTp.new _ _⟩)
  exact⟨.ref h'.objs.size,_,I2,rfl,q _ (I1.hok.fresh (Nat.le_refl _))⟩
 ·obtain⟨its,r',pl,hz⟩:=I.tuple hq;exact call_tuple_same pl ⟨.ref p,H,I,rfl,q⟩
def tyV(K:Fg9)(T:String)(x:V)(H:Hp):Prop:=match x with
 | .str _=>T = "str"
 | .int _=>T = "int"
 | .ref p=>(T = "list" /\ ∃xs,SqL K H p xs)∨(T = "tuple" /\ ((∃o,K.lookup p=some o/\o.cls=.type "tuple" /\ o.dict=none)∨∃xs,H p=some (.tup xs))) ∨
   (T = "dict" /\ ((∃kvs,H p=some (.dK kvs))∨∃kvs,H p=some (.dT kvs)))∨(T = "set" /\ ∃S n,H p=some (.set S n))
 | _=>False
theorem ati{zv:List (Addr×Obj)}{σ:St}{H:Hp}{s:Shared}{T:String}{x:V}{v:Value}(I:Inv X zv σ H s)(r:RelV x v)(ty:tyV X.K T x H) :
  s.TypeIs v T/\∀a,v=.ref a->∃ob,s.heap.get? a=some ob/\ob.dict=none:=by
 cases x with
 | str z =>
  obtain⟨t,rfl⟩:=r;cases(show T = "str" from ty)
  exact⟨typeIs_str s z t,fun _ e=>nomatch e⟩
 | int i =>
  obtain⟨t,rfl⟩:=r;cases(show T = "int" from ty)
  exact⟨typeIs_int s i t,fun _ e=>nomatch e⟩
 | ref p =>
  cases r;rcases ty with⟨rfl,xs,hq⟩ | ⟨rfl,⟨o,hk,hc,hd⟩ | ⟨xs,hk⟩⟩ | ⟨rfl,hk⟩ | ⟨rfl,S,n,hk⟩
  ·obtain⟨its,_,pl,_⟩:=I.list hq;refine⟨pl.isList.typeIs,fun a e =>?_⟩
   cases e;obtain⟨o,n,e,c,hd,_⟩:=pl;exact⟨o,e,hd⟩
  ·refine⟨⟨o,I.kIn p o hk,hc⟩,fun a e =>?_⟩
   cases e;exact⟨o,I.kIn _ o hk,hd⟩
  ·obtain⟨_,_,_,o,e,hc,hd,_⟩:=I.hok p _ hk;refine⟨⟨o,e,hc⟩,fun a e2 =>?_⟩
   cases e2;exact⟨o,e,hd⟩
  ·have z:∃o,s.heap.get? p=some o/\o.ExactDict:=by
    rcases hk with⟨kvs,hk⟩ | ⟨kvs,hk⟩
    ·obtain⟨_,_,_,_,o,_,_,e,ex,_⟩:=I.hok p _ hk;exact⟨o,e,ex⟩
    ·obtain⟨_,_,_,_,o,_,_,e,ex,_⟩:=I.hok p _ hk;exact⟨o,e,ex⟩
   obtain⟨o,e,ex⟩:=z;refine⟨⟨o,e,ex.1⟩,fun a e2 =>?_⟩
   cases e2;exact⟨o,e,ex.2.1⟩
  ·obtain⟨o,_,_,_,e,ex,_⟩:=I.hok p _ hk;refine⟨⟨o,e,ex.1⟩,fun a e2 =>?_⟩
   cases e2;exact⟨o,e,ex.2.1⟩
 | _=>exact False.elim ty
def tBM(K:Fg9)(T:String)(r:V->List V->Hp->VK->Prop)(to:TE)(t:TA):TE:=fun σ H Q=>to σ H fun x H1=>tyV K T x H1/\t σ H1 fun xs H2=>r x xs H2 Q
variable{o e:Expr}{es:List Expr}{to:TE}{t:TA}{name:Str}{apos cpos:Pos}{T id:String}{r:V->List V->Hp->VK->Prop}
theorem an7(pa:PlainAttrs T)(slot:Slot T name id)(hty:typeOf (.builtin id)=pure (.type "method_descriptor"))(hm:MtR X id r)(ho:PE X o to)(ha:PA X (e::es) t)
  (hbase:attributeBase o name X.env (eval o X.env)=eval o X.env:=by rfl)
  (hfew:((backTo cpos (starEach (e::es) X.env)).all (fun x => !x.1)&&(backToKw cpos (keywordEach [] X.env)).all (fun x=>x.1.isSome)
   && decide ((e::es).length+([]:List Keyword).length+(if ([]:List Keyword).isEmpty then 0 else 1) < 30))=true:=by rfl)
  (hline:(apos.endLine==cpos.line)=true:=by rfl) (hs:starEach (e::es) X.env=(false,eval e X.env)::starEach es X.env:=by rfl) (hplain:(backTo cpos (starEach es X.env)).any (·.1)=false:=by rfl) :
  PE X (.Call (.Attribute o name apos) (e::es) [] cpos) (tBM X.K T r to t):=by
 intro zv s σ H Q I h;refine wpAny_Call_method_late hbase hfew hline rfl (thn (ho zv s σ H _ I h) fun v s1 ⟨x,H1,I1,r1,ty,q1⟩ =>?_)
 obtain⟨h1,h2⟩:=ati I1 r1 ty;refine⟨T,id,pa,slot,hty,h1,h2,?_⟩;have hA:=ha cpos zv s1 σ H1 _ I1 q1;rw[hs] at hA ⊢
 refine Calls.callWith_builtin (by show(false||(backTo cpos (starEach es X.env)).any (·.1))=false;rw[hplain] <;> rfl) (Calls.evalArgs_plain ?_)
 exact thn hA fun us s2 ⟨vs,H2,I2,r2,q2⟩=>hm zv s2 σ H2 x vs v us Q I2 r1 r2 q2
end
def MtM(X:Cx)(id:String)(r:V->List V->Hp->VK->Prop):Prop :=
 ∀(zv:List (Addr×Obj)) (s:Shared) (σ:St) (H:Hp) (x:V) (xs:List V) (v:Value) (us:List Value) (Q:VK),Inv X zv σ H s->RelV x v->Vals xs us->r x xs H Q ->
  wpAny (model X.prog X.w) X.A (call (.builtin id) (v::us)) (EP X zv σ Q) X.xe s
theorem Vals.one:∀{x:V} {us:List Value},Vals [x] us->∃u,us=[u]/\RelV x u
 | _,_,.cons r .nil=>⟨_,rfl,r⟩
theorem Vals.rep{xs:List V}{us:List Value}(h:Vals xs us):∀k:Nat,Vals (List.replicate k xs).flatten (List.replicate k us).flatten
 | 0=>.nil
 | k+1=>by
  rw[List.replicate_succ,List.replicate_succ,List.flatten_cons,List.flatten_cons];exact Vals.append h (Vals.rep h k)
theorem foldl_rep(its:List Value):∀(k:Nat) (acc:List Value),
  List.foldl (fun x1 x2=>x1++x2) acc.toArray (List.replicate k its.toArray)=(acc++(List.replicate k its).flatten).toArray
 | 0,acc=>by simp
 | k+1,acc=>by
  have e:acc.toArray++its.toArray=(acc++its).toArray:=by simp
  have e2:(acc++its)++(List.replicate k its).flatten=acc++(List.replicate (k+1) its).flatten:=by
   rw[List.replicate_succ,List.flatten_cons,List.append_assoc]
  rw[<-e2,<-foldl_rep its k (acc++its),<-e,List.replicate_succ,List.foldl_cons]
section
variable{X:Cx}{zv:List (Addr×Obj)}{σ:St}{H:Hp}{s:Shared}{l b:Addr}{xs ys zs:List V}
theorem Inv.lset{its its':List Value}{n:Nat}{f:Array Value->Array Value}{t':Nat}(I:Inv X zv σ H s)(hH:H l=some (.lst xs))
  (e:s.heap.get? l=some { cls:=.type "list", data:=.seq its.toArray n }) (hf:f its.toArray=its'.toArray) (hv:Vals ys its') (hz:ys.length<=sizeLine) :
  Inv X zv σ (upd H l (.lst ys)) { s with heap:=s.heap.update l (Obj.mapSeq f),toks:=t' }:=by
 have q:=PySem.IsL.update e f;rw[hf] at q;refine I.write (x:=l) (e:=l) (by rw[hH];exact trivial) (.inl rfl) (fun b' u hb hu=>(Heap.get?_update_other s.heap (Obj.mapSeq f) (Ne.symm hb)).trans hu) ⟨_,q⟩ ?_
 exact⟨hz,its',_,hv,q⟩
theorem Inv.lnew{its:List Value}{t':Nat}(I:Inv X zv σ H s)(hv:Vals ys its)(hz:ys.length<=sizeLine) :
  Inv X zv σ (upd H s.heap.objs.size (.lst ys)) { s with heap:=s.heap.push { cls:=.type "list", data:=.seq its.toArray },toks:=t' } :=
 I.laid (fun _ _ q=>Heap.get?_push_of_some _ q) (Nat.le_refl _) ⟨hz,its,0,hv,Heap.get?_push_size _ rfl⟩
theorem Inv.fresh(I:Inv X zv σ H s):H s.heap.objs.size=none:=I.hok.fresh (Nat.le_refl _)
theorem Inv.lstM(I:Inv X zv σ H s)(hH:H l=some (.lst xs)):xs.length<=sizeLine/\∃(its:List Value) (n:Nat),Vals xs its/\xs.length=its.length/\s.heap.get? l=some { cls:=.type "list", data:=.seq its.toArray n }:=by
 obtain⟨z,its,n,r,e⟩:=I.hok l _ hH;exact⟨z,its,n,r,r.length,e⟩
theorem aod{n:Nat}(h:n<=sizeLine):Builtin.List.listTooLong n=false:=by
 unfold Builtin.List.listTooLong;exact decide_eq_false (by omega)
end
section
variable{X:Cx}
def alf:V->List V->Hp->VK->Prop:=fun x vs H Q=>∃l xs y,x=.ref l/\vs=[y]/\H l=some (.lst xs)/\xs.length < sizeLine/\Q .non (upd H l (.lst (xs++[y])))
theorem ab0:MtM X "list.append" alf:=by
 intro zv s σ H x vs v us Q I rx rv h;obtain⟨l,xs,y,rfl,rfl,hH,hz,q⟩:=h;cases rx;obtain⟨u,rfl,ru⟩:=rv.one;obtain⟨z,its,n,r,hl,e⟩:=I.lstM hH;refine call_meets F.slot_list_append ⟨_,e,rfl⟩ F.entry_list_append (F.args_list_append_2 _ _) (PySem.list_append l its.toArray n u (by rw[List.size_toArray];omega)) ⟨e,?_⟩
 refine⟨.non,_,I.lset (its':=its++[u]) hH e (by simp) (r.append (.cons ru .nil)) ?_,rfl,q⟩
 rw[List.length_append,List.length_singleton];omega
def rCat:R2:=fun x y H Q=>∃l b xs zs,x=.ref l/\y=.ref b/\H l=some (.lst xs)/\H b=some (.lst zs)/\xs.length+zs.length<=sizeLine/\∀p,H p=none->Q (.ref p) (upd H p (.lst (xs++zs)))
theorem aut:OpR X (binaryOp .Add) rCat:=by
 intro zv s σ H x y v u Q I rx ry h;obtain⟨l,b,xs,zs,rfl,rfl,hH,hB,hz,q⟩:=h;cases rx;cases ry;obtain⟨z,its,n,r,hl,e⟩:=I.lstM hH;obtain⟨z2,its2,n2,r2,hl2,e2⟩:=I.lstM hB;refine PySem.P.add_list e e2 ?_ (by rw[List.size_toArray,List.size_toArray];omega)
 have ea:its.toArray++its2.toArray=(its++its2).toArray:=by simp
 rw[ea];exact⟨.ref _,_,I.lnew (t':=s.toks) (r.append r2) (by rw[List.length_append];omega),rfl,q _ I.fresh⟩
def rRep:R2:=fun x y H Q=>∃l k xs,x=.ref l/\y=.int k/\H l=some (.lst xs) /\ -(2 ^ 63)<=k/\k < 2 ^ 63/\xs.length*k.toNat<=sizeLine /\
 ∀p,H p=none->Q (.ref p) (upd H p (.lst (List.replicate k.toNat xs).flatten))
theorem len_rep{α:Type}(xs:List α)(k:Nat):(List.replicate k xs).flatten.length=k*xs.length:=by
 induction k with
 | zero=>simp
 | succ k ih=>rw[List.replicate_succ,List.flatten_cons,List.length_append,ih,Nat.succ_mul,Nat.add_comm]
theorem auo:OpR X (binaryOp .Mult) rRep:=by
 intro zv s σ H x y v u Q I rx ry h;obtain⟨l,k,xs,rfl,rfl,hH,h1,h2,hz,q⟩:=h;cases rx;obtain⟨t,rfl⟩:=ry;obtain⟨z,its,n,r,hl,e⟩:=I.lstM hH;have hlen:its.toArray.size*k.toNat<=sizeLine:=by rw[List.size_toArray,<-hl];exact hz
 have hcap:¬its.toArray.size*k.toNat > (2 ^ 63 - 1) / 8:=by
  have:(sizeLine:Nat)<=(2 ^ 63 - 1) / 8:=by decide
  omega
 have hfit:¬(!Builtin.List.listFitsIndex k)=true:=by
  rw[fitsIndex_both h1 h2];exact Bool.false_ne_true
 have hlong:¬Builtin.List.listTooLong (its.toArray.size*k.toNat)=true:=by
  rw[aod hlen];exact Bool.false_ne_true
 have hnew:List.foldl (fun x1 x2=>x1++x2) #[] (List.replicate (if its.toArray.isEmpty=true then 0 else k.toNat) its.toArray)=(List.replicate k.toNat its).flatten.toArray:=by
  have f0:∀m:Nat,List.foldl (fun x1 x2=>x1++x2) #[] (List.replicate m its.toArray)=(List.replicate m its).flatten.toArray:=fun m=>by
   have:=foldl_rep its m [];rw[List.nil_append] at this;exact this
  rw[f0];cases its with
  | nil=>simp
  | cons a r'=>rw[if_neg (by simp)]
 refine wpAny_binaryOp_repeat_ref (T := "list") (U := "int") (by decide) ⟨_,e,rfl⟩ (fun s'=>typeIs_int s' k t) noFill_list_mul F.fills_int_mul F.slot_int_rmul repeat_list F.slot_int_index.lookup
  (call_meets F.slot_int_rmul (typeIs_int s k t) F.entry_int_rmul (F.args_int_rmul_2 _ _) (int___rmul___int_list k t l its.toArray n)
   ⟨e,rfl,⟨_,e,rfl⟩,call_meets F.slot_list_mul ⟨_,e,rfl⟩ F.entry_list_mul (F.args_list_mul_2 _ _) (AutoListH.list___mul___list_int_3 l its.toArray n k t hfit hcap hlong) ⟨e,?_⟩⟩)
 rw[hnew];exact⟨.ref _,_,I.lnew (t':=s.toks) (r.rep k.toNat) (by rw[len_rep,Nat.mul_comm];exact hz),rfl,q _ I.fresh⟩
end
section
variable{prog:Program}{w:World}{A:Around}{E:Value->Shared->Prop}{s:Shared}
end
section
variable{X:Cx}
end
end L2
namespace Att
open PySem PySem.W PySem.Calls PyProof.Rows
theorem ad7{P:Params}{h:Heap}:∀(ns:List Int) (vs:List Value),WellAll P h vs (ns.map WData.int)->IntsAre vs ns:=by
 intro ns
 induction ns with
 | nil =>
  intro vs w;rw[List.map_nil] at w;cases w;exact .nil
 | cons n ns ih =>
  intro vs w;rw[List.map_cons] at w;cases w with
  | cons a b =>
   cases a;exact .cons _ _ (ih _ b)
theorem alc{l:OpenLaw}{n:Nat}(hn:l.most=some n){P:Params}{h:Heap}{args:List WData}{vals:List Value}
  (hpre:l.row.toRowW.claim.pre args=true) (hwl:WellAll P h vals args) :
  ∃a vs ns,vals=[Value.ref a]/\args=[WData.list (ns.map WData.int)]/\h.get? a=some { cls:=.type "list", data:=.seq vs.toArray }/\IntsAre vs ns/\ns.length<=n:=by
 have hsh:WShape.hasAll [] args [.list .int]=true:=(pre_splitW hpre).1;have hc:l.pre.holds [] { args:=args }=true:=(pre_splitW hpre).2;obtain⟨d,r,rfl,h1,h2⟩:=hasAllW_cons hsh;obtain rfl:=hasAllW_nil h2;obtain⟨xs,rfl,h3⟩:=hasW_list h1;obtain⟨ns,rfl⟩:=items_int h3;have hlen:ns.length<=n:=by
  unfold OpenLaw.pre at hc;have h4:(WTm.not (.lt (.lit (.int (n:Int))) (.len (.arg 0)))).holds [] { args:=[.list (ns.map .int)] }=true:=by
   have h4:=(holds_andW hc).1;rw[hn] at h4;exact h4
  have h5:=condW_of h4 (w_not (w_lt w_lit (w_len_list (w_arg rfl))));rw[List.length_map] at h5;refine Nat.le_of_not_lt fun q =>?_
  have q':(n:Int) < ((ns.length:Nat):Int):=by omega
  first
   | (rw[decide_eq_true q'] at h5;exact absurd h5 (by decide))
   | (simp at h5;omega)
 cases hwl with
 | cons w1 w2 =>
  cases w2;cases w1 with
  | list ho hall=>exact⟨_,_,ns,rfl,rfl,ho,ad7 ns _ hall,hlen⟩
theorem ali(l:OpenLaw)(args:List WData):l.row.toRowW.claim.post args (.bool true) args=true :=
 postW_of (r:=l.row.toRowW) (X:=(true==true))
  (show WShape.has [] (.bool true) .bool=true by first | rfl | decide | simp[WShape.has,WShape.arms,WShape.armsAll])
  (show(WTm.eq .res (.lit (.bool true))).value [] { args:=args,res:=some (.bool true),after:=args }=some (.bool (true==true)) from w_eq_bool (w_res rfl) w_lit) rfl
theorem ais{l:OpenLaw}{n:Nat}{q:Program}{loose:List Str}{XP:(Str->Option Value)->Heap->Prop}{YP:World->Heap->Prop}{d:DefRec}
  (hn:l.most=some n) (hdf:d.params.defaults=[])
  (call:∀(w:World) (s₀ s₁:Shared) (mg mb:Str->Option Value) (fa:Addr) (o:Obj) (pm cd doc:Value) (a:Addr) (vs:List Value) (ns:List Int),
   Ground q loose [] XP w s₀ mg mb s₁.heap->YP w s₁.heap ->
   s₁.heap.get? fa=some o->o.data=.func (docDef d.name d.params d.body d.scope pm cd doc)->s₁.heap.CodeRec cd d.name->mg d.name=some (.ref fa) ->
   s₁.heap.get? a=some { cls:=.type "list", data:=.seq vs.toArray }->IntsAre vs ns->ns.length<=n->s₁.gens = #[] ->
   codeAny (model l.prog w) callerA (.call (.ref fa) ⟨[.ref a],[]⟩) (fun r s'=>r=.ok (.ret (.bool true))/\OldK s₁.heap s'.heap/\s'.os=s₁.os/\AllBare s'.gens) s₁) :
  WalkO q loose XP YP l.row.toRowW d [] (fun f vs=>PySem.call f vs):=by
 intro w s₀ s₁ mg mb G Y fa o pm cd doc dV kV ho hd hcd hD hmg hg args vals as hpre hlay hrd hwl hlo;obtain rfl:dV=.none:=Dflts.none hD hdf;obtain rfl:kV=.none:=Dflts.noKw hD;obtain⟨a,vs,ns,rfl,rfl,hobj,hints,hlen⟩:=alc hn hpre hwl;refine enter_call (codeAny_mono (call w s₀ s₁ mg mb fa o pm cd doc a vs ns G Y ho (fd_plain hd) hcd hmg hobj hints hlen hg) fun r s' hq =>?_)
 obtain⟨rfl,h2,h3,h4⟩:=hq;exact⟨.inl ⟨.bool true,.bool true,[],rfl,fun _=>rfl,.bool true,ali l _,fun _=>⟨List.Pairwise.nil,fun _ hm=>(nomatch hm)⟩⟩,h2,h3,h4⟩
section
variable{prog:Program}{w:World}{A:Around}{E:Value->Shared->Prop}{s:Shared}{K:Frag}
end
end Att
namespace L2
theorem agi:∀{vs:List Value} {ns:List Int},IntsAre vs ns->Vals (ns.map V.int) vs
 | _,_,.nil=>.nil
 | _,_,.cons n t h=>.cons ⟨t,rfl⟩ (agi h)
def Only(H:Hp):Prop:=∀b,H b=none∨∃o xs,H b=some (.frz o (.lst xs))
theorem aom{P:Program}{w:World}{K:Fg9}{mg mb:Str->Option Value}{CX:CXT}{k:Nat}{fa a:Addr}{fd:FuncData}{x:Str}{sp:Sp}{s₁:Shared}{vs:List Value}{ns:List Int}
  (KX:K.In s₁.heap) (hns:s₁.heap.Ns mainGlobals mg) (hb:s₁.heap.Ns builtinsNs mb) (hbb:∀x:Str,x ≠ "__name__" -> mb x=bootBuiltins x) (hlim:s₁.heap.NoLimit) (hg:s₁.gens = #[])
  (ha:s₁.heap.get? a=some { cls:=.type "list", data:=.seq vs.toArray }) (hi:IntsAre vs ns) (hl:ns.length<=sizeLine) (hr:Room k callerA)
  (F:∀base:Heap,K.In base->base.Ns mainGlobals mg->FnOk P w K mg base CX k fa fd [x] sp) (hbind:∀(s:Shared) (u:Value),BindsTo s fd ⟨[u],[]⟩ [(x,u)])
  (hsp:∀H:Hp,Only H->SqL K H a (ns.map V.int)->sp [.ref a] H (fun v _=>v=.bl true) fun _ _ _=>False)
  (hCX:∀H e s',CX [] H s₁ (fun _ _ _=>False) e s'->False) :
  codeAny (model P w) callerA (.call (.ref fa) ⟨[.ref a],[]⟩) (fun r s'=>r=.ok (.ret (.bool true))/\OldK s₁.heap s'.heap/\s'.os=s₁.os/\AllBare s'.gens) s₁:=by
 have rv:=agi hi;have lenV:=hi.length;have core:∀H:Hp,Only H->SqL K H a (ns.map V.int)->HOk P w H s₁.heap->(∀b,H b≠none->b=a)->(H a≠none->K.lookup a=none) ->
   codeAny (model P w) callerA (.call (.ref fa) ⟨[.ref a],[]⟩) (fun r s'=>r=.ok (.ret (.bool true))/\OldK s₁.heap s'.heap/\s'.os=s₁.os/\AllBare s'.gens) s₁:=by
  intro H hO hS hok hA hK;have base_of:∀{b:Addr} {o:Obj},s₁.heap.get? b=some o->H b=none->(hidT s₁.heap H).get? b=some o:=fun e n=>aov e n
  have noA:∀{b:Addr} {o:Obj} {es:Array DictEntry} {ep:Nat},s₁.heap.get? b=some o->o.data=.dict es ep->H b=none:=fun{b o es ep} e d=>by
   cases q:H b with
   | none=>rfl
   | some u =>
    have e':b=a:=hA b (by rw[q];simp)
    subst e';rw[ha] at e;cases e;have d':Data.seq vs.toArray _=Data.dict es ep:=d;cases d'
  have nsK:∀{b:Addr} {m:Str->Option Value},s₁.heap.Ns b m->(hidT s₁.heap H).Ns b m:=fun{b m} ⟨o,es,ep,e,d,r⟩=>⟨o,es,ep,base_of e (noA e d),d,r⟩
  have hKb:K.In (hidT s₁.heap H):=fun b o e=>base_of (KX b o e) (by
   cases q:H b with
   | none=>rfl
   | some u =>
    have e':b=a:=hA b (by rw[q];simp)
    subst e';rw[hK (by rw[q];simp)] at e;cases e)
  have hM:Mod K mg (hidT s₁.heap H):=⟨hKb,nsK hns,⟨mb,nsK hb,hbb⟩,let ⟨mc,h1,h2⟩:=hlim;⟨mc,nsK h1,h2⟩⟩
  have e0:Env0 P w K mg (hidT s₁.heap H) callerA [] s₁ H:=⟨rfl,hM,fun b o e=>aru e,Nat.le_of_eq (ame _ _),trivial,fun b hb=>absurd (show b∈([]:List Addr) from hb) (by simp),hok,.of_eq hg⟩
  refine codeAny_mono ((F _ hKb (nsK hns)).run callerA [] s₁ H ⟨[.ref a],[]⟩ [.ref a] [.ref a] _ _ hr e0 (hbind s₁ (.ref a)) (.cons rfl .nil) (hsp H hO hS)) fun r s' h =>?_
  cases r with
  | error e=>exact(hCX H e s' h).elim
  | ok fl =>
   cases fl with
   | next=>exact False.elim h
   | brk=>exact False.elim h
   | cont=>exact False.elim h
   | ret u =>
    obtain⟨v,H',os,bare,un,hok',r',q⟩:=h;have q':v=.bl true:=q;subst q';obtain rfl:u=Value.bool true:=r';refine⟨rfl,OldK.of_keep fun b o e =>?_,os,bare⟩
    cases q:H b with
    | none=>exact un.keep b o e q (by intro z;exact absurd (show b∈([]:List Addr) from z) (by simp)) (by simp)
    | some u =>
     rcases hO b with z | ⟨ob,xs,z⟩
     ·rw[q] at z;cases z
     ·have z2:=un.frzs b ob _ z;obtain⟨e1,_⟩:=hok b _ z;obtain⟨e2,_⟩:=hok' b _ z2;rw[e] at e1;cases e1;exact e2
 cases hk:K.lookup a with
 | some o =>
  have e:=KX a o hk;rw[ha] at e;cases e;refine core (fun _=>none) (fun _=>.inl rfl) (.inr ⟨_,vs.toArray,_,hk,rfl,rfl,rfl,by rw[List.size_toArray,lenV];exact hl,by simpa using rv⟩) (fun b u z=>by have z':(none:Option HO)=some u:=z;cases z') (fun b z=>absurd rfl z) fun z=>absurd rfl z
 | none =>
  refine core (fun b=>if b=a then some (.frz { cls:=.type "list", data:=.seq vs.toArray } (.lst (ns.map V.int))) else none) (fun b =>?_) (.inl (.inr ⟨{ cls:=.type "list", data:=.seq vs.toArray },if_pos rfl⟩)) (fun b u z =>?_) (fun b z =>?_) fun _=>hk
  ·by_cases hb:b=a
   ·exact .inr ⟨_,_,if_pos hb⟩
   ·exact .inl (if_neg hb)
  ·by_cases hb:b=a
   ·have z':=(if_pos hb).symm.trans z;cases z';subst hb;exact⟨ha,by rw[List.length_map];exact hl,vs,_,rv,ha⟩
   ·have z':=(if_neg hb).symm.trans z;cases z'
  ·by_cases hb:b=a
   ·exact hb
   ·exact absurd (if_neg hb) z
theorem aqh{l:PySem.W.OpenLaw}{n k:Nat}{q:Program}{loose:List Str}{XP:(Str->Option Value)->Heap->Prop}{YP:World->Heap->Prop}{d:DefRec}{K:Params->Fg9}{CX:World->CXT}{sp:World->Sp}{x:Str}
  (hn:l.most=some n) (hn2:n<=sizeLine) (hdf:d.params.defaults=[]) (hr:Room k callerA)
  (hY:∀(w:World) (h:Heap),YP w h->(K w.params).In h)
  (F:∀(w:World) (mg:Str->Option Value) (fa:Addr) (h:Heap),(K w.params).In h->h.Ns mainGlobals mg->mg d.name=some (.ref fa) ->
   ∃fd:FuncData,(∀(s:Shared) (u:Value),BindsTo s fd ⟨[u],[]⟩ [(x,u)]) /\
    ∀base:Heap,(K w.params).In base->base.Ns mainGlobals mg->FnOk l.prog w (K w.params) mg base (CX w) k fa fd [x] (sp w))
  (hsp:∀(w:World) (H:Hp) (a:Addr) (ns:List Int),ns.length<=n->Only H->SqL (K w.params) H a (ns.map V.int)->sp w [.ref a] H (fun v _=>v=.bl true) fun _ _ _=>False)
  (hCX:∀(w:World) (H:Hp) (s:Shared) (e:Value) (s':Shared),CX w [] H s (fun _ _ _=>False) e s'->False) :
  PySem.W.WalkO q loose XP YP l.row.toRowW d [] (fun f vs=>PySem.call f vs):=by
 refine Att.ais hn hdf fun w s₀ s₁ mg mb fa o pm cd doc a vs ns G Y ho hd hcd hmg hobj hints hlen hg =>?_
 have KX:=hY w _ Y;obtain⟨fd,hb,hF⟩:=F w mg fa _ KX G.T.g hmg;exact aom KX G.T.g G.T.b G.T.builtins G.T.nolimit hg hobj hints (Nat.le_trans hlen hn2) hr hF hb (fun H hO hS=>hsp w H a ns hlen hO hS) fun H e s'=>hCX w H s₁ e s'
def jh(s:Stmt):Arguments:=match s with
 | .FunctionDef _ a _ _ _ _ _ _ _ _=>a
 | _=>{ posonlyargs:=[],args:=[],vararg:=none,kwonlyargs:=[],kw_defaults:=[],kwarg:=none,defaults:=[] }
def du(s:Stmt):List Stmt:=match s with
 | .FunctionDef _ _ b _ _ _ _ _ _ _=>b
 | _=>[]
def ak(s:Stmt):Scope:=match s with
 | .FunctionDef _ _ _ _ _ _ sc _ _ _=>sc
 | _=>{ kind:=.function,names:=[],isGenerator:=false,isCoroutine:=false }
abbrev CX0:CXT:=fun _ _ _ _ _ _=>False
abbrev E0:XK:=fun _ _ _=>False
theorem arn{X:Cx}:ae9 CX0 X E0:=fun _ _ _ _ _ _ _ h=>h.elim
structure Fun (K:Fg9) (x qual:Str) (st:Stmt) (f:Addr) (fd:FuncData):Prop where
 ex:∃(oc:Value) (od:Option Addr) (kV doc pm:Value) (an:Option Addr) (cdv ct:Value) (osl:Array (Option Value)),
  fd=fnOf x qual (jh st) (du st) (ak st) .none kV doc pm an cdv ct/\K.lookup f=some ⟨oc,od,.func fd,osl⟩/\codeIn K cdv qual=true
 kp:keepIn K (.ref f)=true
section
variable{P:Program}{w:World}{K:Fg9}{mg:Str->Option Value}{base:Heap}
theorem Fun.ok{x qual:Str}{st:Stmt}{f:Addr}{fd:FuncData}{N ps:List Str}{k:Nat}{sp:Sp}(F:Fun K x qual st f fd)(S:FnScope N ps (ak st))(len:∀vs H Q E,sp vs H Q E->vs.length=ps.length)
  (hbody:∀(cdv:Value) (A:Around) (outer:List Env) (s:Shared) (H:Hp) (vs:List V) (Q:VK) (E:XK),Room k (A.deeper (envOfC qual (ak st) s.heap.objs.size f cdv))->sp vs H Q E ->
   ∃t,PSs (cxOf CX0 P w K mg base N qual (ak st) f cdv A outer s H E).nox (du st) t/\t { nx:=fun _ H'=>Q .non H',rt:=Q } (start N vs) H):FnOk P w K mg base CX0 (k+1) f fd ps sp:=by
 obtain⟨oc,od,kV,doc,pm,an,cdv,ct,osl,rfl,lk,hcd⟩:=F.ex;refine avx lk hcd S len fun A outer s H vs Q E hr hsp =>?_
 obtain⟨t,h,q⟩:=hbody cdv A outer s H vs Q E hr hsp;exact⟨t,h.nox,q⟩
theorem Fun.binds{x qual:Str}{st:Stmt}{f:Addr}{fd:FuncData}{ps:List Str}(F:Fun K x qual st f fd)
  (h:∀(kV doc pm:Value) (an:Option Addr) (cdv ct:Value) (us:List Value),us.length=ps.length->bindArgs (fnOf x qual (jh st) (du st) (ak st) .none kV doc pm an cdv ct) ⟨us,[]⟩=pure (ps.zip us)):Binds K fd ps []:=by
 obtain⟨oc,od,kV,doc,pm,an,cdv,ct,osl,rfl,lk,hcd⟩:=F.ex;exact .all (h kV doc pm an cdv ct)
theorem ahc{x qual:Str}{st:Stmt}{f:Addr}{oc:Value}{od an:Option Addr}{osl:Array (Option Value)}{kV doc pm cdv ct:Value}(l:K.lookup f=some ⟨oc,od,.func (fnOf x qual (jh st) (du st) (ak st) .none kV doc pm an cdv ct),osl⟩)
  (c:codeIn K cdv qual=true) (k:keepIn K (.ref f)=true):Fun K x qual st f (fnOf x qual (jh st) (du st) (ak st) .none kV doc pm an cdv ct):=⟨⟨oc,od,kV,doc,pm,an,cdv,ct,osl,rfl,l,c⟩,k⟩
end
section
variable{X:Cx}
theorem pv(i:Nat){x:Str}{pos:Pos}(hN:X.N[i]? = some x:=by rfl)(hv:Vis X.env.scope x:=by first | exact Or.inl rfl | exact Or.inr (Or.inl rfl) | exact Or.inr (Or.inr rfl))(hd:(x==("__debug__" : Str))=false:=by decide)
  (hcd:(x==("__classdict__" : Str))=false:=by decide):PE X (.Name x pos) (tVar i):=aua hN hv hd hcd
end
theorem iteF{A B:Prop}(h:B):if false=true then A else B:=by
 rw[if_neg Bool.false_ne_true];exact h
theorem iteT{A B:Prop}(h:A):if true=true then A else B:=by
 rw[if_pos rfl];exact h
def Same(H H':Hp):Prop:=∀b o,H b=some o->H' b=some o
theorem Same.refl(H:Hp):Same H H:=fun _ _ h=>h
theorem Same.trans{H H1 H2:Hp}(a:Same H H1)(b:Same H1 H2):Same H H2:=fun c o h=>b c o (a c o h)
theorem Same.seq{K:Fg9}{H H':Hp}{a:Addr}{xs:List V}(e:Same H H')(h:SqL K H a xs):SqL K H' a xs:=by
 rcases h with(h | ⟨o,h⟩) | h
 ·exact .inl (.inl (e _ _ h))
 ·exact .inl (.inr ⟨o,e _ _ h⟩)
 ·exact .inr h
end L2
namespace Mn
open L2
def xf(env:Env)(fr:List Str):List (Str×Addr):=fr.filterMap fun n=>(env.cells.lookup n).map fun c=>(n,c)
theorem ael{env:Env}{n:Str}{r:List Str}(e:env.cells.lookup n=none):xf env (n::r)=xf env r:=by
 unfold xf;rw[List.filterMap_cons,e];rfl
theorem abj{env:Env}{n:Str}{r:List Str}{c:Addr}(e:env.cells.lookup n=some c):xf env (n::r)=(n,c)::xf env r:=by
 unfold xf;rw[List.filterMap_cons,e];rfl
theorem look_same{x:Str}{c:Addr}{l:List (Str×Addr)}:List.lookup x ((x,c)::l)=some c:=by
 have hb:(x==x)=true:=beq_iff_eq.mpr rfl;simp only[List.lookup,hb]
theorem aez{x n:Str}{c:Addr}{l:List (Str×Addr)}(h:x≠n):List.lookup x ((n,c)::l)=l.lookup x:=by
 have hb:(x==n)=false:=beq_eq_false_iff_ne.mpr h;simp only[List.lookup,hb]
theorem rm{env:Env}:∀{fr:List Str} {x:Str} {c:Addr},(xf env fr).lookup x=some c->env.cells.lookup x=some c
 | [],x,c,h=>by
  have h':(none:Option Addr)=some c:=h;cases h'
 | n::r,x,c,h=>by
  cases e:env.cells.lookup n with
  | none =>
   rw[ael e] at h;exact rm h
  | some d =>
   rw[abj e] at h
   by_cases hx:x=n
   ·subst hx;rw[look_same] at h;rw[e];exact h
   ·rw[aez hx] at h;exact rm h
theorem aar{env:Env}:∀{fr:List Str} {x:Str} {c:Addr},x∈fr->env.cells.lookup x=some c->(xf env fr).lookup x=some c
 | [],x,c,hm,h=>absurd hm (by simp)
 | n::r,x,c,hm,h=>by
  by_cases hx:x=n
  ·subst hx;rw[abj h,look_same]
  ·have hm':x∈r:=(List.mem_cons.mp hm).elim (fun e=>absurd e hx) id
   cases e:env.cells.lookup n with
   | none =>
    rw[ael e];exact aar hm' h
   | some d =>
    rw[abj e,aez hx];exact aar hm' h
def adn(XN fr:List Str):List Str->List (Option Nat)->Bool
 | [],[]=>true
 | _::N,none::r=>adn XN fr N r
 | x::N,some j::r=>XN[j]? == some x&&fr.contains x&&adn XN fr N r
 | _,_=>false
theorem adm{XN fr:List Str}:∀{N:List Str} {src:List (Option Nat)} {i j:Nat} {x:Str},adn XN fr N src=true->N[i]? = some x->src[i]? = some (some j)->XN[j]? = some x/\x∈fr
 | [],[],i,j,x,_,h,_=>by simp at h
 | [],_::_,i,j,x,_,h,_=>by simp at h
 | _::_,[],i,j,x,_,_,h=>by simp at h
 | y::N,none::r,0,j,x,_,_,h=>by simp at h
 | y::N,none::r,i+1,j,x,hk,h1,h2=>adm (N:=N) (src:=r) (i:=i) hk (by simpa using h1) (by simpa using h2)
 | y::N,some k::r,0,j,x,hk,h1,h2=>by
  simp only[adn,Bool.and_eq_true] at hk;obtain⟨⟨a,b⟩,_⟩:=hk;simp at h1 h2;subst h1 h2;exact⟨by simpa using a,by simpa using b⟩
 | y::N,some k::r,i+1,j,x,hk,h1,h2=>by
  simp only[adn,Bool.and_eq_true] at hk;exact adm (N:=N) (src:=r) (i:=i) hk.2 (by simpa using h1) (by simpa using h2)
theorem adl{XN fr:List Str}:∀{N:List Str} {src:List (Option Nat)},adn XN fr N src=true->src.length=N.length
 | [],[],_=>rfl
 | [],_::_,h=>by simp[adn] at h
 | _::_,[],h=>by simp[adn] at h
 | _::N,none::r,h=>by
  have:=adl (N:=N) (src:=r) h;simp[this]
 | _::N,some k::r,h=>by
  simp only[adn,Bool.and_eq_true] at h;have:=adl (N:=N) (src:=r) h.2;simp[this]
def pick(src:List (Option Nat))(σ:L2.St):L2.St:=src.map fun o=>o.bind fun j=>(σ[j]?).bind id
theorem an1{src:List (Option Nat)}{σ:L2.St}{i:Nat}{v:V}(h:(pick src σ)[i]? = some (some v)):∃j,src[i]? = some (some j)/\σ[j]? = some (some v):=by
 unfold pick at h;rw[List.getElem?_map] at h;cases e:src[i]? with
 | none=>rw[e] at h;cases h
 | some o =>
  rw[e] at h;have h':(o.bind fun j=>(σ[j]?).bind id)=some v:=Option.some.inj h
  cases o with
  | none=>cases h'
  | some j =>
   refine⟨j,rfl,?_⟩;have h2:(σ[j]?).bind id=some v:=h';cases q:σ[j]? with
   | none=>rw[q] at h2;cases h2
   | some z =>
    rw[q] at h2;have h3:z=some v:=h2;rw[h3]
def ae8(env:Env)(XN:List Str)(scope:Scope)(fr N:List Str)(src:List (Option Nat)):Bool :=
 scope.names.all (fun y=>y.2 != .cell&&(y.2 != .local||scope.names.lookup y.1==some .local)&&(y.2 != .free||fr.contains y.1)) &&
 fr.all (fun x=>scope.names.lookup x==some .free&&(env.kindOf x==some .cell||env.kindOf x==some .free))&&adn XN fr N src
structure CompOk (env:Env) (XN:List Str) (scope:Scope) (fr N:List Str) (src:List (Option Nat)):Prop where
 cell:∀y∈scope.names,y.2≠.cell
 loc:∀y∈scope.names,y.2=.local->scope.names.lookup y.1=some .local
 free:∀y∈scope.names,y.2=.free->y.1∈fr
 frk:∀x∈fr,scope.names.lookup x=some .free
 out:∀x∈fr,env.kindOf x=some .cell∨env.kindOf x=some .free
 src:adn XN fr N src=true
theorem CompOk.of{env:Env}{XN:List Str}{scope:Scope}{fr N:List Str}{src:List (Option Nat)}(h:ae8 env XN scope fr N src=true):CompOk env XN scope fr N src:=by
 simp only[ae8,Bool.and_eq_true,List.all_eq_true] at h;obtain⟨⟨h1,h2⟩,h3⟩:=h;refine⟨fun y hy =>?_,fun y hy e =>?_,fun y hy e =>?_,fun x hx =>?_,fun x hx =>?_,h3⟩
 ·have:=(h1 y hy).1.1
  simpa using this
 ·have:=(h1 y hy).1.2;rw[e] at this
  simpa using this
 ·have:=(h1 y hy).2;rw[e] at this
  simpa using this
 ·have:=(h2 x hx).1
  simpa using this
 ·have:=(h2 x hx).2
  simpa using this
theorem acx{env:Env}:∀{names:List (Str×NameKind)} {x:Str} {k:NameKind},
  (names.map fun(n,k)=>if (k==NameKind.free&&env.scope.kind==.function&&env.kindOf n==some .cell) then (n,NameKind.cell) else (n,k)).lookup x=some k ->
  ∃k0,names.lookup x=some k0/\(k=k0∨(k0=.free/\k=.cell))
 | [],x,k,h=>by simp at h
 | (n,q)::r,x,k,h=>by
  by_cases hx:x=n
  ·subst hx;have hb:(x==x)=true:=beq_iff_eq.mpr rfl;refine⟨q,by simp only[List.lookup,hb],?_⟩
   by_cases hc:(q==NameKind.free&&env.scope.kind==.function&&env.kindOf x==some .cell)=true
   ·rw[List.map_cons] at h;simp only[hc,if_true,List.lookup,hb] at h;simp only[Bool.and_eq_true] at hc;exact .inr ⟨by simpa using hc.1.1,(Option.some.inj h).symm⟩
   ·rw[List.map_cons] at h;simp only[hc,List.lookup,hb] at h;exact .inl (by simpa using h.symm)
  ·have hb:(x==n)=false:=beq_eq_false_iff_ne.mpr hx;have h':(r.map fun(n,k)=>if (k==NameKind.free&&env.scope.kind==.function&&env.kindOf n==some .cell) then (n,NameKind.cell) else (n,k)).lookup x=some k:=by
    rw[List.map_cons] at h
    by_cases hc:(q==NameKind.free&&env.scope.kind==.function&&env.kindOf n==some .cell)=true
    ·simp only[hc,if_true,List.lookup,hb] at h;exact h
    ·have h2:List.lookup x ((if (q==NameKind.free&&env.scope.kind==.function&&env.kindOf n==some .cell)=true then (n,NameKind.cell) else (n,q))::(r.map fun(n,k)=>if (k==NameKind.free&&env.scope.kind==.function&&env.kindOf n==some .cell) then (n,NameKind.cell) else (n,k)))=some k:=h
     rw[if_neg hc] at h2;simp only[List.lookup,hb] at h2;exact h2
   obtain⟨k0,e,d⟩:=acx h';exact⟨k0,by simp only[List.lookup,hb];exact e,d⟩
theorem zy{env:Env}:∀{names:List (Str×NameKind)} {x:Str},names.lookup x=some .free ->
  (names.map fun(n,k)=>if (k==NameKind.free&&env.scope.kind==.function&&env.kindOf n==some .cell) then (n,NameKind.cell) else (n,k)).lookup x=some .free ∨
  (names.map fun(n,k)=>if (k==NameKind.free&&env.scope.kind==.function&&env.kindOf n==some .cell) then (n,NameKind.cell) else (n,k)).lookup x=some .cell
 | [],x,h=>by simp at h
 | (n,q)::r,x,h=>by
  by_cases hx:x=n
  ·subst hx;have hb:(x==x)=true:=beq_iff_eq.mpr rfl;simp only[List.lookup,hb] at h;have hq:q=.free:=Option.some.inj h;subst hq
   by_cases hc:(NameKind.free==NameKind.free&&env.scope.kind==.function&&env.kindOf x==some .cell)=true
   ·right
    rw[List.map_cons];simp only[hc,if_true,List.lookup,hb]
   ·left
    show List.lookup x ((if (NameKind.free==NameKind.free&&env.scope.kind==.function&&env.kindOf x==some .cell)=true then (x,NameKind.cell) else (x,NameKind.free))::_)=some NameKind.free
    rw[if_neg hc];simp only[List.lookup,hb]
  ·have hb:(x==n)=false:=beq_eq_false_iff_ne.mpr hx;simp only[List.lookup,hb] at h;rw[List.map_cons]
   by_cases hc:(q==NameKind.free&&env.scope.kind==.function&&env.kindOf n==some .cell)=true
   ·simp only[hc,if_true,List.lookup,hb];exact zy h
   ·simp only[hc,List.lookup,hb]
    simpa[List.lookup,hb] using zy (env:=env) h
def cxC(X:Cx)(N:List Str)(scope:Scope)(fr:List Str)(fp:List Addr)(s:Shared)(H:Hp):Cx where
 prog:=X.prog
 w:=X.w
 K:=X.K
 mg:=X.mg
 base:=X.base
 A:=X.A
 N:=N
 s₀:=s
 H₀:=H
 env:=compEnvC scope (xf X.env fr) s.heap.objs.size X.env
 outer:=X.stack
 stack:=X.stack
 ex:=fp
 fn:=fun _=>false
 calm:=X.calm
 pn:=[]
 xe:=fun _ _=>False
section
variable{X:Cx}{zv:List (Addr×Obj)}{σ:L2.St}{H:Hp}{s:Shared}{scope:Scope}{fr N:List Str}{src:List (Option Nat)}{fp:List Addr}
theorem av5(I:Inv X zv σ H s)(C:CompOk X.env X.N scope fr N src)(hkind:scope.kind=.function)(hf:∀b∈fp,FpOk X zv H b)(hl:∀b∈fp,b < s.heap.objs.size):(cxC X N scope fr fp s H).Ok where
 mod:=I.ok.mod
 kind:=hkind
 glob:=I.ok.glob
 blt:=I.ok.blt
 above:=Nat.le_refl _
 inj:=fun x y c h1 h2=>I.ok.inj x y c (rm h1) (rm h2)
 has:=fun x hx=>by
  have mem:∀k,(k=NameKind.cell∨k=NameKind.free)->(cxC X N scope fr fp s H).env.kindOf x=some k->x∈fr:=fun k hk e=>by
   obtain⟨k0,e0,d⟩:=acx (env:=X.env) (names:=scope.names) e;have hm:=PySem.mem_of_lookup e0;rcases d with rfl | ⟨rfl,_⟩
   ·rcases hk with rfl | rfl
    ·exact absurd rfl (C.cell _ hm)
    ·exact C.free _ hm rfl
   ·exact C.free _ hm rfl
  have hm:x∈fr:=by
   rcases hx with e | e
   ·exact mem _ (.inl rfl) e
   ·exact mem _ (.inr rfl) e
  obtain⟨c,hc⟩:=I.ok.has x (C.out x hm);exact⟨c,aar hm hc⟩
 cab:=fun _ _ h _=>absurd h Bool.false_ne_true
 hd:=I.ok.hd
 frames:=I.ok.frames
 stk:=.inl rfl
 exf:=fun b hb=>⟨Nat.ne_of_lt (hl b hb),fun x c e=>(hf b hb).2.2.2.2.1 x c (rm e)⟩
 bs:=I.bs
 bsz:=Nat.le_trans I.ok.bsz I.sz
 noex:=fun b o e hb=>by
  rcases(hf b hb).2.2.2.1 with z | z
  ·exact I.ok.noex b o e z
  ·exact absurd (Nat.lt_of_lt_of_le (Heap.lt_size e) (Nat.le_trans I.ok.bsz z)) (Nat.lt_irrefl _)
 exfs:=fun b hb z=>by
  rcases List.mem_cons.mp (I.stkSub b z) with e | e
  ·exact(hf b hb).2.1 e
  ·exact(hf b hb).2.2.1 e
 funs:=I.stack
 frf:=I.stkFree
theorem ajg(I:Inv X zv σ H s)(C:CompOk X.env X.N scope fr N src)(hkind:scope.kind=.function)(hf:∀b∈fp,FpOk X zv H b)(hl:∀b∈fp,b < s.heap.objs.size){h':Heap}{tk:Nat}{m:Str->Option Value}
  (hns:h'.Ns s.heap.objs.size m) (hk:∀b o,s.heap.get? b=some o->h'.get? b=some o):Inv (cxC X N scope fr fp s H) [] (pick src σ) H { s with heap:=h',toks:=tk } where
 ok:=av5 I C hkind hf hl
 os:=rfl
 bare:=I.bare
 base:=Un.kept hk
 loc:=by
  refine⟨m,hns,fun i x v h1 h2 h3 =>?_⟩
  obtain⟨j,hj,hv⟩:=an1 h2;obtain⟨hN,hm⟩:=adm C.src h1 hj;obtain⟨mo,_,hlo⟩:=I.loc;have vis:Vis X.env.scope x:=by
   rcases C.out x hm with e | e
   ·exact .inr (.inl e)
   ·exact .inr (.inr e)
  obtain⟨u,r,l⟩:=hlo j x v hN hv vis;refine⟨u,r,.inr ⟨?_,?_⟩⟩
  ·rcases zy (env:=X.env) (C.frk x hm) with e | e
   ·exact .inr e
   ·exact .inl e
  ·rcases l with⟨e,_⟩ | ⟨_,c,hc,z⟩
   ·rcases C.out x hm with q | q
    ·rw[q] at e;cases e
    ·rw[q] at e;cases e
   ·obtain⟨o,ho,hd⟩:=z;exact⟨c,aar hm hc,o,hk c o ho,hd⟩
 cell:=fun x c e=>by
  obtain⟨v,o,ho,hd⟩:=I.cell x c (rm e);exact⟨v,o,hk c o ho,hd⟩
 free:=I.hok.fresh (Nat.le_refl _)
 freeC:=fun x c e=>I.freeC x c (rm e)
 pin:=fun p hp=>absurd (show p∈([]:List (Addr×Obj)) from hp) (by simp)
 hok:=I.hok.kept hk
 len:=by
  unfold pick;rw[List.length_map];exact adl C.src
theorem ajh{pins':List (Addr×Obj)}{σ':L2.St}{H':Hp}{s':Shared}{h'':Heap}(I:Inv X zv σ H s)(hf:∀b∈fp,FpOk X zv H b)(J:Inv (cxC X N scope fr fp s H) pins' σ' H' s')
  (hs:Heap.SameBut s.heap.objs.size s'.heap h''):Inv X zv σ H' { s' with heap:=h'' }:=by
 have k:∀b o,b≠s.heap.objs.size->s'.heap.get? b=some o->h''.get? b=some o:=fun b o hb e=>(hs.2 b hb).trans e
 have old:∀b o,s.heap.get? b=some o->b≠s.heap.objs.size:=fun b o e=>Nat.ne_of_lt (Heap.lt_size e)
 have un:Un (frs X.stack) fp H H' s.heap h'':=by
  have u:Un (frs X.stack) fp H H' s.heap s'.heap:=J.base;refine⟨fun b o e n hb hx=>k b o (old b o e) (u.keep b o e n hb hx),fun b o e n hb hx =>?_,u.free,fun b o e hx =>?_,u.tups,u.frzs,u.tbls⟩
  ·obtain⟨sl,q⟩:=u.slot b o e n hb hx;exact⟨sl,k b _ (old b o e) q⟩
  ·obtain⟨o',q⟩:=u.there b o e hx;exact⟨o',k b _ (old b o e) q⟩
 have hok:HOk X.prog X.w H' h'':=fun b u e=>by
  have nC:∀c z,H' c=some z->c≠s.heap.objs.size:=fun c z q w=>by
   have f:H' s.heap.objs.size=none:=J.free;rw[w,f] at q;cases q
  refine(J.hok b u e).stay (fun c v hc q=>k c v ?_ q) (fun _ q=>q) fun _ _ q=>q
  rcases hc with z | z
  ·rw[z];exact nC b u e
  ·exact nC c _ z
 have os:s'.os=s.os:=J.os;refine Inv.call' (s':={ s' with heap:=h'' }) I os un hok J.bare fun b hb =>?_
 obtain⟨_,f1,_,f3,f4,f5⟩:=hf b hb;exact⟨f3,f1,f4,f5⟩
end
def ah1(ifs:List Expr)(env:Env):Sem Bool:=forIn ifs true fun c r=>if r=true then do let ok <-isTrue c env (eval c env);pure (ForInStep.yield ok) else pure (ForInStep.yield r)
def PIf(X:Cx)(ifs:List Expr)(t:TT):Prop :=
 ∀(zv:List (Addr×Obj)) (s:Shared) (σ:L2.St) (H:Hp) (Q:Bool->Hp->Prop),Inv X zv σ H s->t σ H Q->wpAny (model X.prog X.w) X.A (ah1 ifs X.env) (TP X zv σ Q) X.xe s
def tYes:TT:=fun _ H Q=>Q true H
theorem ara{X:Cx}:PIf X [] tYes:=fun zv s σ H Q I h=>by
 show wpAny _ _ (pure true) _ _ s;exact wpAny_pure ⟨H,I,h⟩
theorem aq9{X:Cx}{c:Expr}{t:TT}(hc:PT X c t):PIf X [c] t:=fun zv s σ H Q I h=>by
 unfold ah1;rw[List.forIn_cons];rw[if_pos rfl];refine wpAny_bind (wpAny_bind (thn (hc zv s σ H _ I h) fun b s1 q=>wpAny_pure ?_))
 show wpAny _ _ (forIn [] b _) _ _ s1;exact wpAny_pure q
section
variable{prog:Program}{w:World}{A:Around}{R:Result->Shared->Prop}{s:Shared}
theorem compLoop{elt target iter:Expr}{ifs:List Expr}{scope:Scope}{pos:Pos}{it acc:Value}{env:Env}(I:Nat->Shared->Prop)
  (turn:∀n s,I n s->wpAny (model prog w) A (pyNext it) (fun r s₁=>match r with
   | none=>R (.ok .next) s₁
   | some v=>wpAny (model prog w) A (letOwnedTupleGo target it v) (fun _ s₁'=>wpAny (model prog w) A (assign target env v) (fun _ s₂ =>
     wpAny (model prog w) A (ah1 ifs env) (fun ok s₃ =>
      if ok=true then wpAny (model prog w) A (eval elt env) (fun x s₄ =>
       wpAny (model prog w) A (call (.builtin "list.append") [acc,x]) (fun _ s₅=>∃m,m < n/\I m s₅) (fun _ _=>False) s₄) (fun _ _=>False) s₃
      else ∃m,m < n/\I m s₃) (fun _ _=>False) s₂) (fun _ _=>False) s₁') (fun _ _=>False) s₁) (fun _ _=>False) s)
  (n:Nat) (h:I n s) :
  codeAny (model prog w) A (.compLoop (.ListComp elt [⟨target,iter,ifs,0⟩] scope pos) 0 it acc env) R s:=by
 refine codeAny_loop rfl I (fun n s hI =>?_) n h
 show wpAny _ A ((compTurn (.ListComp elt [⟨target,iter,ifs,0⟩] scope pos) 0 it acc env).onRaise (fun x=>do noteFrame x env;theTreesLotGoes x)) _ _ s
 refine wpAny_noted ?_;rw[compTurn_list];refine wpAny_bind (wpAny_standAt (wpAny_bind (wpAny_mono (turn n s hI) (fun r s₁ h₁ =>?_) fun _ _ h'=>h'.elim)))
 cases r with
 | none=>exact wpAny_pure h₁
 | some v =>
  refine wpAny_bind (wpAny_mono h₁ (fun _ s₁' h₁' =>?_) fun _ _ h'=>h'.elim)
  refine wpAny_bind (wpAny_mono h₁' (fun _ s₂ h₂=>wpAny_bind (wpAny_mono h₂ (fun ok s₃ h₃ =>?_) fun _ _ h'=>h'.elim)) fun _ _ h'=>h'.elim)
  cases ok with
  | false=>exact wpAny_pure ⟨rfl,h₃⟩
  | true =>
   exact wpAny_bind (wpAny_bind (wpAny_mono h₃ (fun x s₄ h₄=>wpAny_bind (wpAny_mono h₄ (fun _ s₅ h₅=>wpAny_pure (wpAny_pure ⟨rfl,h₅⟩)) fun _ _ h'=>h'.elim)) fun _ _ h'=>h'.elim))
end
def awd(J:It)(g:TG)(ti:TT)(te:TE)(Q:VK)(d:Addr)(σ0:L2.St)(H1:Hp):Prop :=
 ∃W:Nat->Nat->List V->L2.St->Hp->Prop,(∃m,W 0 m [] σ0 (upd H1 d (.lst [])))/\∀i m ys σ H2,W i m ys σ H2->H2 d=some (.lst ys) /\
  ((J.stop i H2/\Q (.ref d) H2)∨(J.go i H2/\∀x H3,J.yld i H2 x H3->g x σ H3 fun σ4 H4=>ti σ4 H4 fun b H5 =>
   if b=true then te σ4 H5 fun y H6=>H6 d=some (.lst ys)/\ys.length < sizeLine/\∃m',m' < m/\W (i+1) m' (ys++[y]) σ4 (upd H6 d (.lst (ys++[y]))) else ∃m',m' < m/\W (i+1) m' ys σ4 H5))
def aqs(wi:TI)(g:TG)(ti:TT)(te:TE)(src:List (Option Nat)):TE:=fun σ H Q=>wi σ H fun J H1=>∀d,H1 d=none->awd J g ti te Q d (pick src σ) H1
theorem ahh{X:Cx}{tg iter elt:Expr}{ifs:List Expr}{scope:Scope}{pos:Pos}{J:It}{fp:List Addr}{it d:Addr}{tn:Nat->Heap->Prop}{g:TG}{ti:TT}{te:TE}{Q:VK}{R:Result->Shared->Prop}
  {W:Nat->Nat->List V->L2.St->Hp->Prop} {m0:Nat} {σ0:L2.St} {H0:Hp} {s:Shared} (hc:X.calm=true) (hE:X.xe=fun _ _=>False) (T:Turn X.prog X.w X.K tg J fp it tn)
  (hf:∀H':Hp,(∀b∈fp,H' b=none)->∀b∈fp,FpOk X [] H' b) (hg:PG X tg g) (ht:PIf X ifs ti) (he:PE X elt te)
  (turn:∀i m ys σ H2,W i m ys σ H2->H2 d=some (.lst ys) /\
   ((J.stop i H2/\Q (.ref d) H2)∨(J.go i H2/\∀x H3,J.yld i H2 x H3->g x σ H3 fun σ4 H4=>ti σ4 H4 fun b H5 =>
    if b=true then te σ4 H5 fun y H6=>H6 d=some (.lst ys)/\ys.length < sizeLine/\∃m',m' < m/\W (i+1) m' (ys++[y]) σ4 (upd H6 d (.lst (ys++[y]))) else ∃m',m' < m/\W (i+1) m' ys σ4 H5)))
  (w0:W 0 m0 [] σ0 H0) (I0:Inv X [] σ0 H0 s) (st0:tn 0 s.heap) (fr0:∀b∈fp,H0 b=none)
  (hR:∀σ' H' s',Inv X [] σ' H' s'->Q (.ref d) H'->R (.ok .next) s') :
  codeAny (model X.prog X.w) X.A (.compLoop (.ListComp elt [⟨tg,iter,ifs,0⟩] scope pos) 0 (.ref it) (.ref d) X.env) R s:=by
 have hE':∀e s',X.xe e s'->False:=fun e s' h=>by rw[hE] at h;exact h
 refine compLoop (fun n s'=>∃i ys σ' H',Inv X [] σ' H' s'/\tn i s'.heap/\(∀b∈fp,H' b=none)/\W i n ys σ' H') ?_ m0 ⟨0,[],σ0,H0,I0,st0,fr0,w0⟩
 rintro n s5 ⟨i,ys,σ5,H5,I5,st5,fr5,w5⟩
 obtain⟨hD,alt⟩:=turn i n ys σ5 H5 w5;rcases alt with⟨stop,qn⟩ | ⟨go,step⟩
 ·refine wpAny_mono (T.done X rfl rfl rfl hc i [] s5 σ5 H5 (fun _ _=>False) I5 (hf _ fr5) st5 stop) (fun r s6 ⟨hr,I6⟩ =>?_) fun _ _ e=>e
  subst hr;exact hR σ5 H5 s6 I6 qn
 ·refine wpAny_mono (T.item X rfl rfl rfl hc i [] s5 σ5 H5 (fun _ _=>False) I5 (hf _ fr5) st5 go) (fun r s6 ⟨u,hr,h6⟩ =>?_) fun _ _ e=>e
  subst hr;refine wpAny_mono h6 (fun _ s7 ⟨x,H7,I7,r7,y7,st7,fr7⟩ =>?_) fun _ _ e=>e
  have I7':=I7.pinned (hf _ fr7) (T.obj _ _ st7);have again:∀{σ':L2.St} {H':Hp} {s':Shared} {ys':List V} {m':Nat},Inv X ([]++ago fp s7.heap) σ' H' s'->W (i+1) m' ys' σ' H'->∃i ys σ' H',Inv X [] σ' H' s'/\tn i s'.heap/\(∀b∈fp,H' b=none)/\W i m' ys σ' H':=fun{σ' H' s' ys' m'} Ia wa=>by
   refine⟨i+1,ys',σ',H',Ia.unpinned,T.keep _ _ _ st7 fun b hb o e=>(Ia.pin (b,o) (List.mem_append_right _ (List.mem_append_right _ (aap hb e)))).1,fun b hb =>?_,wa⟩
   obtain⟨o,e,d⟩:=T.obj _ _ st7 b hb;exact(Ia.pin (b,o) (List.mem_append_right _ (List.mem_append_right _ (aap hb e)))).2.1
  refine wpAny_mono (hg _ s7 σ5 H7 x u _ I7' r7 (step x H7 y7)) (fun _ s8 ⟨σ8,H8,I8,q8⟩ =>?_) hE'
  refine wpAny_mono (ht _ s8 σ8 H8 _ I8 q8) (fun ok s9 ⟨H9,I9,q9⟩ =>?_) hE'
  cases ok with
  | false =>
   rw[if_neg Bool.false_ne_true] at q9 ⊢
   obtain⟨m',hm,wa⟩:=q9;exact⟨m',hm,again I9 wa⟩
  | true =>
   rw[if_pos rfl] at q9 ⊢
   refine wpAny_mono (he _ s9 σ8 H9 _ I9 q9) (fun z s10 ⟨y,H10,I10,r10,hd10,hz,m',hm,wa⟩ =>?_) hE'
   refine wpAny_mono (ab0 _ s10 σ8 H10 (.ref d) [y] (.ref d) [z] (fun _ H'=>H'=upd H10 d (.lst (ys++[y]))) I10 rfl (.cons r10 .nil) ⟨d,ys,y,rfl,rfl,hd10,hz,rfl⟩) (fun _ s11 ⟨_,H11,I11,_,e11⟩ =>?_) hE'
   subst e11;exact⟨m',hm,again I11 wa⟩
theorem ari{X:Cx}{tg iter elt:Expr}{ifs:List Expr}{scope:Scope}{pos:Pos}{wi:TI}{g:TG}{ti:TT}{te:TE}(fr N:List Str)(src:List (Option Nat))(hc:X.calm=true)(hi:PI X tg iter wi)
  (hg:∀fp s H,PG (cxC X N scope fr fp s H) tg g) (ht:∀fp s H,PIf (cxC X N scope fr fp s H) ifs ti) (he:∀fp s H,PE (cxC X N scope fr fp s H) elt te)
  (hok:ae8 X.env X.N scope fr N src=true:=by rfl) (hkind:scope.kind=.function:=by rfl) (hclos:closureFor scope X.env=pure (xf X.env fr):=by rfl)
  (hs:∀x,foldedSetIterable iter X.env x=pure x:=by intro _;rfl):PE X (.ListComp elt [⟨tg,iter,ifs,0⟩] scope pos) (aqs wi g ti te src):=by
 have C:=CompOk.of hok;intro zv s σ H Q I h;rw[eval_ListComp];refine wpAny_comprehension_free (use:=none) rfl hs hclos hkind C.loc (wpAny_mono (hi zv s σ H _ I h) (fun v s1 h1=>wpAny_mono h1 (fun itv s2 h2 =>?_) fun _ _ e=>e) fun _ _ e=>e)
 obtain⟨it,fp,tn,J,H2,e,I2,T,st2,f2,q2⟩:=h2;subst e;have hd0:H2 s2.heap.objs.size=none:=I2.hok.fresh (Nat.le_refl _);obtain⟨W,⟨m0,w0⟩,turn⟩:=q2 s2.heap.objs.size hd0;refine wpAny_newObj_type ?_;generalize hs3:({ s2 with heap:=s2.heap.push { cls:=.type "list", dict:=none,data:=.seq ([]:List Value).toArray } }:Shared)=s3
 have keep2:∀b o,s2.heap.get? b=some o->s3.heap.get? b=some o:=fun b o e=>by rw[<-hs3];exact Heap.get?_push_of_some _ e
 have I3:Inv X zv σ (upd H2 s2.heap.objs.size (.lst [])) s3:=by
  rw[<-hs3];exact I2.laid (t':=s2.toks) (fun b u q=>Heap.get?_push_of_some _ q) (Nat.le_refl _) ⟨Nat.zero_le _,[],0,.nil,Heap.get?_push_size _ rfl⟩
 have ne0:∀b∈fp,b≠s2.heap.objs.size:=fun b hb=>by
  obtain⟨o,e,_⟩:=T.obj _ _ st2 b hb;exact Nat.ne_of_lt (Heap.lt_size e)
 have f3:∀b∈fp,FpOk X zv (upd H2 s2.heap.objs.size (.lst [])) b:=fun b hb=>⟨by rw[bu (ne0 b hb)];exact(f2 b hb).1,(f2 b hb).2⟩
 have lt3:∀b∈fp,b < s3.heap.objs.size:=fun b hb=>by
  obtain⟨o,e,_⟩:=T.obj _ _ st2 b hb;exact Heap.lt_size (keep2 b o e)
 refine wpAny_newFunctionEnv C.cell (by intro y hy;simp at hy) (fun h₁ hns₁ hsb₁ =>?_) hkind
 have keep3:∀b o,s3.heap.get? b=some o->h₁.get? b=some o:=fun b o e=>hsb₁.extBut b o (Nat.ne_of_lt (Heap.lt_size e)) (Heap.get?_push_of_some _ e)
 have st4:tn 0 h₁:=T.keep _ _ _ st2 fun b hb o e=>keep3 b o (keep2 b o e)
 have I4:=ajg (tk:=s3.toks+([]:List (Str×Value)).length) I3 C hkind f3 lt3 hns₁ keep3;have loop:=ahh (X:=cxC X N scope fr fp s3 (upd H2 s2.heap.objs.size (.lst []))) (iter:=iter) (scope:=scope) (pos:=pos) (d:=s2.heap.objs.size)
  (R:=compPost (model X.prog X.w) X.A X.xe none (EP X zv σ Q) (.ref s2.heap.objs.size) s3.heap.objs.size) hc rfl T
  (fun H' hn b hb=>⟨hn b hb,Nat.ne_of_lt (lt3 b hb),I4.ok.exfs b hb,.inl hb,(I4.ok.exf b hb).2,fun p hp=>absurd (show p∈([]:List (Addr×Obj)) from hp) (by simp)⟩)
  (hg fp s3 _) (ht fp s3 _) (he fp s3 _) turn w0 I4 st4 (fun b hb=>(f3 b hb).1) (fun σ' H' s' I6 qn=>by
   obtain⟨m6,hn6,_⟩:=I6.loc;exact⟨m6,hn6,fun h'' hs''=>⟨.ref s2.heap.objs.size,H',ajh I3 f3 I6 hs'',rfl,qn⟩⟩)
 exact codeAny_compStart_list loop (T.self _ 0 _ _ _ st4 loop)
theorem Same.new{H:Hp}{p:Addr}(h:H p=none)(o:HO):Same H (upd H p o):=fun b u q=>by rw[bu (gr q h)];exact q
structure ItOf (J:It) (xs:List V) (S:Hp->Prop):Prop where
 go:∀i H,S H->i < xs.length->J.go i H
 yld:∀i H x H',S H->J.yld i H x H'->H'=H/\(i < xs.length->xs[i]? = some x)
 stop:∀i H,S H->xs.length<=i->J.stop i H
theorem aor{K:Fg9}{a:Addr}{xs:List V}:ItOf (Itt K a) xs fun H=>SqT K H a xs :=
 ⟨fun i H h hi=>⟨xs,xs[i],h,by simp[hi]⟩,fun i H x H' h y=>⟨y.1,fun _=>y.2 xs h⟩,fun i H h hi=>⟨xs,h,hi⟩⟩
theorem aje{K:Fg9}{a:Addr}{xs:List V}:ItOf (Itl K a) xs fun H=>SqL K H a xs :=
 ⟨fun i H h hi=>⟨xs,xs[i],h,by simp[hi]⟩,fun i H x H' h y=>⟨y.1,fun _=>y.2 xs h⟩,fun i H h hi=>⟨xs,h,hi⟩⟩
def ups(lo:Int)(n:Nat):List V:=(List.range n).map fun i=>V.int (lo+(i:Nat))
theorem ah0(lo:Int)(n:Nat):(ups lo n).length=n:=by simp[ups]
theorem aqj{lo:Int}{n i:Nat}(h:i < n):(ups lo n)[i]? = some (.int (lo+(i:Nat))):=by
 unfold ups;rw[List.getElem?_map,List.getElem?_range h];rfl
theorem aos{lo:Int}{n:Nat}:ItOf (Itr lo n) (ups lo n) fun _=>True :=
 ⟨fun i H _ hi=>by rw[ah0] at hi;exact hi,fun i H x H' _ y=>⟨y.1,fun hi=>by rw[ah0] at hi;rw[aqj hi,y.2]⟩,fun i H _ hi=>by rw[ah0] at hi;exact hi⟩
section
variable{X:Cx}
def rAll(K:Fg9):List V->Hp->VK->Prop:=fun xs H Q=>∃(p:Addr) (bs:List Bool),xs=[.ref p]/\SqL K H p (bs.map V.bl)/\Q (.bl (bs.all id)) H
theorem api(hc:X.calm=true):acu X (.builtin "all") (rAll X.K):=by
 intro zv s σ H xs us Q I r h;obtain⟨p,bs,rfl,hq,q⟩:=h;obtain⟨u,rfl,ru⟩:=vals1 r;cases ru;obtain⟨its,rv,pl,hz⟩:=I.list hq;have hl:=pl.isList;have hlen:=rv.length;rw[List.length_map] at hlen;have hlt:p < s.heap.objs.size:=by obtain⟨_,e,_⟩:=hl;exact Heap.lt_size e
 refine call_all_walk (wpAny_pyIter_list hl ?_);refine⟨s.heap.objs.size,[s.heap.objs.size,p],[s.heap.objs.size],its.toArray.size,_,_,fun i=>(bs[i]?).getD true,rfl,Walks.list (A:=X.A.in1) (I.ok.hd hc) _ p (Nat.ne_of_lt hlt) its.toArray,
  ⟨⟨_,Heap.get?_push_size _ rfl,rfl,rfl⟩,hl.push _⟩,fun i v s' Q' E' hP hQ =>?_,fun h' tk hk =>?_⟩
 ·have hi:its[i]? = some v:=by simpa using hP
  cases e:bs[i]? with
  | none =>
   have h1:bs.length<=i:=List.getElem?_eq_none_iff.mp e;have h2:i < its.length:=(List.getElem?_eq_some_iff.mp hi).1;omega
  | some b =>
   obtain⟨u,hu,ru⟩:=rv.get (i:=i) (x:=V.bl b) (by rw[List.getElem?_map,e];rfl)
   rw[hi] at hu;cases hu;obtain rfl:v=Value.bool b:=ru;simp only[e,Option.getD_some] at hQ;exact wpAny_truthy_bool hQ
 ·have e:((List.range its.toArray.size).all fun i=>(bs[i]?).getD true)=bs.all id:=by
   rw[List.size_toArray,<-hlen];exact LSm.range_all bs
  rw[e];exact⟨.bl (bs.all id),H,I.kept (t':=tk) (LSm.kept_iter hk),rfl,q⟩
end
def Dfn(P:Program)(w:World)(K:Fg9)(mg:Str->Option Value)(base:Heap)(x:Str)(ps:List Str)(k:Nat)(sp:Sp):Prop :=
 ∃(f:Addr) (fd:FuncData),FnOk P w K mg base CX0 k f fd ps sp/\mg x=some (.ref f)/\keepIn K (.ref f)=true/\Binds K fd ps []
section
variable{X:Cx}{x:Str}{ps:List Str}{k:Nat}{sp:Sp}{e:Expr}{es:List Expr}{t:TA}{p pos:Pos}
theorem axw(F:Dfn X.prog X.w X.K X.mg X.base x ps k sp)(hr:Room k X.A)(hg:Gl X x)(ha:PA X (e::es) t)(hdb:(x==("__debug__" : Str))=false:=by decide)
  (he:starEach (e::es) X.env=(false,eval e X.env)::starEach es X.env:=by rfl) (hpl:(backTo pos (starEach es X.env)).any (·.1)=false:=by rfl):PE X (.Call (.Name x p) (e::es) [] pos) (aqt sp [] E0 t):=by
 obtain⟨f,fd,F,hm,hk,hb⟩:=F;exact ark F hr hg hm hk hb .nil arn ha hdb he hpl
theorem arh{n:Int}(hg:Gl X x)(hm:∃t,X.mg x=some (.int n t))(hd:(x==("__debug__" : Str))=false:=by decide):PE X (.Name x pos) (tC (.int n)):=by
 obtain⟨t,hm⟩:=hm;exact alo hg hm ⟨t,rfl⟩ hd
theorem aeo{T:String}(hg:Gl X x)(hm:X.mg x=none)(hv:bootBuiltins x=some (.type T))(hn:x ≠ "__name__" := by decide)(hd:(x==("__debug__" : Str))=false:=by decide):PE X (.Name x pos) (tC (.ty T)) :=
 arl hg hm hv rfl hn hd
end
section
variable{X:Cx}
end
section
variable{prog:Program}{w:World}{A:Around}{E:Value->Shared->Prop}{s:Shared}
theorem aph{t b:Addr}{vs ws:List Value}{Q:Value->Shared->Prop}(ht:IsTup s.heap t vs.toArray)(hb:IsTup s.heap b ws.toArray)(hv:vs=[])(h:Q (.ref b) s):wpAny (model prog w) A (binaryOp .Add (.ref t) (.ref b)) Q E s:=by
 obtain⟨⟨cls,dd,data,sl⟩,ho,hc,n,hd⟩:=id ht;obtain⟨⟨cls2,dd2,data2,sl2⟩,ho2,hc2,n2,hd2⟩:=id hb;simp only at hc hd hc2 hd2;subst hc hd hc2 hd2;exact concat_meets ⟨_,ho,rfl⟩ ⟨_,ho2,rfl⟩ noFill_tuple_add seq_tuple_add PySem.F.slot_tuple_add PySem.F.entry_tuple_add (PySem.F.args_tuple_add_2 _ _)
  (tuple_addW0 t b vs.toArray ws.toArray n n2 dd dd2 sl sl2 (by simp[hv])) ⟨ho,ho2,h⟩
end
section
variable{X:Cx}
end
section
variable{X:Cx}
def atl(x:Str)(n:Int):TE:=fun _ H Q=>∀p,H p=none->Q (.ref p) (upd H p (.dK [(Sum.inr x,.int n)]))
theorem an5{x:Str}{n:Int}{j1 j2:Nat}{p1 p2 pos:Pos}:PE X (.Dict [some (.Constant (.str x) j1 p1)] [.Constant (.int n) j2 p2] pos) (atl x n):=by
 intro zv s σ H Q I q;have big:sysModules < s.heap.objs.size:=by
  have h:mainGlobals < s.heap.objs.size:=(I.mod.glob.keeps I.bk).lt;exact Nat.lt_trans (by decide) h
 have hn:=I.hok.fresh (Nat.le_refl s.heap.objs.size);refine wpAny_Dict_walk (knd:=aae X.prog X.w) rfl rfl (by simp) (by show 1<=15;decide) ?_
 refine pairTrees_cons_walk (Calls.Constant_str (wpAny_Constant_int (pairTrees_nil_walk ?_)));refine⟨[((Sum.inr x:Key),Value.int n (s.toks+1))],⟨aig X.prog X.w x s.toks,rfl,True.intro⟩,Heap.DictOf.new s.heap,fun h' dd hs =>?_⟩
 refine⟨.ref s.heap.objs.size,upd H s.heap.objs.size (.dK [(Sum.inr x,.int n)]),?_,rfl,q _ hn⟩;refine I.laid (fun b u e=>hs.extBut b u (Nat.ne_of_lt (Heap.lt_size e)) (Heap.get?_push_of_some _ e)) (Nat.le_refl _) ?_
 exact⟨by show 1<=sizeLine;decide,beq_eq_false_iff_ne.mpr (Ne.symm (Nat.ne_of_lt big)),_,.cons ⟨rfl,_,rfl⟩ .nil,dd⟩
end
theorem yx:fillsNumberSlot (.type "tuple") "mul" = pure false :=
 PySem.fillsNumberSlot_seq (id := "tuple.__mul__") (r:=some (.builtin "tuple.__rmul__")) F.slot_tuple_mul.lookup (by decide +kernel) F.slot_tuple_rmul.lookup (by decide +kernel)
theorem acw:seqRepeat? (.type "tuple")=pure (some (.builtin "tuple.__mul__")):=by
 unfold seqRepeat?;rw[PySem.seqSlot_of (T := "tuple") (name := "__mul__") (id := "tuple.__mul__") F.slot_tuple_mul.lookup (by decide +kernel),PySem.seqSlot_of (T := "tuple") (name := "__rmul__") (id := "tuple.__rmul__") F.slot_tuple_rmul.lookup (by decide +kernel)]
 rfl
theorem aax(a:Int)(t:Tok)(l:Addr)(items:Array Value)(n:Nat)(dd:Option Addr)(sl:Array (Option Value)) :
  Meets (Builtin.«int.__rmul__» ⟨[.int a t,.ref l],[]⟩) (fun _ R s=>s.heap.get? l=some { cls:=.type "tuple", dict:=dd,data:=.seq items n,slots:=sl }/\R (.ok (.ret Value.notImplemented)) s) :=
 .of_wp fun prog w A R s h=>by obtain⟨hp,g,d,tk,os⟩:=s;obtain⟨hl,h⟩:=h;wp_walk;exact⟨_,rfl,h⟩
theorem aj4(l:Addr)(items:Array Value)(n:Nat)(dd:Option Addr)(sl:Array (Option Value))(x:Int)(u:Tok)(h0:items.isEmpty=false)(h2:2<=x)(h63:x < 2 ^ 63)(hsz:items.size*x.toNat<=sizeLine) :
  Meets (Builtin.«tuple.__mul__» ⟨[.ref l,.int x u],[]⟩) (fun _ R s=>s.heap.get? l=some { cls:=.type "tuple", dict:=dd,data:=.seq items n,slots:=sl } /\
   R (.ok (.ret (Value.ref s.heap.objs.size))) { s with heap:=s.heap.push { cls:=Value.type "tuple", data:=Data.seq (List.foldl (fun x1 x2=>x1++x2) #[] (List.replicate x.toNat items)) },toks:=s.toks }) :=
 .of_wp fun prog w A R s h=>by
  obtain⟨hp,g,d,tk,os⟩:=s;obtain⟨hl,h⟩:=h;have c1:(decide (x < -2 ^ 63)||decide (x≥2 ^ 63))=false:=by
   rw[Bool.or_eq_false_iff];exact⟨decide_eq_false (by omega),decide_eq_false (by omega)⟩
  have c2:(items.isEmpty||x==1)=false:=by
   rw[h0,Bool.false_or,beq_eq_false_iff_ne];omega
  have c3:(decide (x<=0)||items.isEmpty)=false:=by
   rw[h0,Bool.or_false];exact decide_eq_false (by omega)
  have e4:((items.size:Int)*x)=((items.size*x.toNat:Nat):Int):=by
   have:x=(x.toNat:Int):=by omega
   rw[Int.natCast_mul,<-this]
  have h4:(sizeLine:Int)<=(2 ^ 63 - 1) / 8:=by decide
  have c4:¬((items.size:Int)*x > (2 ^ 63 - 1) / 8):=by rw[e4];omega
  have c5:Builtin.Tuple.tupleTooMany ((items.size:Int)*x)=false:=by
   unfold Builtin.Tuple.tupleTooMany;rw[e4];exact decide_eq_false (by omega)
  wp_walk;refine wpAny_ite_false (by rw[c1];rfl) ?_
  wp_walk;refine wpAny_ite_false (by rw[c2];rfl) ?_
  try dsimp only
  refine wpAny_ite_false (by rw[c3];rfl) ?_
  try dsimp only
  refine wpAny_ite_false (decide_eq_false c4) ?_
  try dsimp only
  refine wpAny_ite_false (by rw[c5];rfl) ?_
  have hso:sizeOk (.seq (List.foldl (fun x1 x2=>x1++x2) #[] (List.replicate x.toNat items))):=by
   show(List.foldl (fun x1 x2=>x1++x2) #[] (List.replicate x.toNat items)).size<=sizeLine
   have hn:=foldl_rep items.toList x.toNat [];rw[List.nil_append] at hn;have hn':List.foldl (fun x1 x2=>x1++x2) #[] (List.replicate x.toNat items)=(List.replicate x.toNat items.toList).flatten.toArray:=hn
   rw[hn',List.size_toArray,len_rep,Array.length_toList,Nat.mul_comm];exact hsz
  refine wpAny_bind (m:=Builtin.Tuple.tupleExact _) (wpAny_newObj_type (wpAny_pure ⟨_,rfl,h⟩) hso)
theorem aj5(l:Addr)(items:Array Value)(n:Nat)(dd:Option Addr)(sl:Array (Option Value))(x:Int)(u:Tok)(hx:x=1) :
  Meets (Builtin.«tuple.__mul__» ⟨[.ref l,.int x u],[]⟩) (fun _ R s=>s.heap.get? l=some { cls:=.type "tuple", dict:=dd,data:=.seq items n,slots:=sl }/\R (.ok (.ret (Value.ref l))) s) :=
 .of_wp fun prog w A R s h=>by
  obtain⟨hp,g,d,tk,os⟩:=s;obtain⟨hl,h⟩:=h;have c1:(decide (x < -2 ^ 63)||decide (x≥2 ^ 63))=false:=by
   rw[Bool.or_eq_false_iff];exact⟨decide_eq_false (by omega),decide_eq_false (by omega)⟩
  have c2:(items.isEmpty||x==1)=true:=by rw[hx];simp
  wp_walk;exact⟨_,rfl,h⟩
section
variable{X:Cx}
theorem ars:OpR X (binaryOp .Mult) (fun x y H Q=>∃a xs,x=.ref a/\y=.int 1/\H a=some (.tup xs)/\Q (.ref a) H):=by
 intro zv s σ H x y v u Q I rx ry h;obtain⟨a,xs,rfl,rfl,ha,q⟩:=h;cases rx;obtain⟨t,rfl⟩:=ry;obtain⟨its,r1,p1,_⟩:=I.tuple (SqT.of ha);obtain⟨⟨cls,dd,data,sl⟩,ho,hc,n,hd⟩:=id p1;simp only at hc hd;subst hc hd;exact wpAny_binaryOp_repeat_ref (T := "tuple") (U := "int") (by decide) ⟨_,ho,rfl⟩ (fun s'=>typeIs_int s' 1 t) yx F.fills_int_mul F.slot_int_rmul acw F.slot_int_index.lookup
  (call_meets F.slot_int_rmul (typeIs_int s 1 t) F.entry_int_rmul (F.args_int_rmul_2 _ _) (aax 1 t a its.toArray n dd sl)
   ⟨ho,rfl,⟨_,ho,rfl⟩,call_meets F.slot_tuple_mul ⟨_,ho,rfl⟩ F.entry_tuple_mul (F.args_tuple_mul_2 _ _) (aj5 a its.toArray n dd sl 1 t rfl) ⟨ho,⟨.ref a,H,I,rfl,q⟩⟩⟩)
def atx:R2:=fun x y H Q=>∃a xs k,x=.ref a/\y=.int k/\H a=some (.tup xs)/\xs≠[]/\2<=k/\k < 2 ^ 63/\xs.length*k.toNat<=sizeLine/\∀p,H p=none->Q (.ref p) (upd H p (.tup (List.replicate k.toNat xs).flatten))
theorem aoa:OpR X (binaryOp .Mult) atx:=by
 intro zv s σ H x y v u Q I rx ry h;obtain⟨a,xs,k,rfl,rfl,ha,hx,h2,h63,hz,q⟩:=h;cases rx;obtain⟨t,rfl⟩:=ry;obtain⟨its,r1,p1,_⟩:=I.tuple (SqT.of ha);obtain⟨⟨cls,dd,data,sl⟩,ho,hc,n,hd⟩:=id p1;simp only at hc hd;subst hc hd;have hnew:List.foldl (fun x1 x2=>x1++x2) #[] (List.replicate k.toNat its.toArray)=(List.replicate k.toNat its).flatten.toArray:=by
  have:=foldl_rep its k.toNat [];rw[List.nil_append] at this;exact this
 refine wpAny_binaryOp_repeat_ref (T := "tuple") (U := "int") (by decide) ⟨_,ho,rfl⟩ (fun s'=>typeIs_int s' k t) yx F.fills_int_mul F.slot_int_rmul acw F.slot_int_index.lookup
  (call_meets F.slot_int_rmul (typeIs_int s k t) F.entry_int_rmul (F.args_int_rmul_2 _ _) (aax k t a its.toArray n dd sl)
   ⟨ho,rfl,⟨_,ho,rfl⟩,call_meets F.slot_tuple_mul ⟨_,ho,rfl⟩ F.entry_tuple_mul (F.args_tuple_mul_2 _ _) (aj4 a its.toArray n dd sl k t ?_ h2 h63 ?_) ⟨ho,?_⟩⟩)
 ·cases its with
  | nil=>exact absurd (r1.nil_iff.mp rfl) hx
  | cons _ _=>rfl
 ·rw[List.size_toArray,<-r1.length];exact hz
 ·rw[hnew];refine⟨.ref s.heap.objs.size,_,I.laid (t':=s.toks) (o:=.tup (List.replicate k.toNat xs).flatten) (fun b ob q=>Heap.get?_push_of_some _ q) (Nat.le_refl _) ?_,rfl,q _ (I.hok.fresh (Nat.le_refl _))⟩
  exact⟨by rw[len_rep,Nat.mul_comm];exact hz,_,r1.rep k.toNat,IsTp.new _ _⟩
end
section
variable{prog:Program}{w:World}{A:Around}{E:Value->Shared->Prop}{s:Shared}
theorem abb{t sl:Addr}{items:Array Value}{vl vu:Value}{lo hi:Option Int}{Q:Value->Shared->Prop}(ht:IsTup s.heap t items)(hs:s.heap.IsSliceOf sl vl vu .none)(pl:IsPart vl lo)(pu:IsPart vu hi)
  (h1:HT.sIx items.size 0 lo=0) (h2:HT.sIx items.size items.size hi=items.size) (h:Q (.ref t) s):wpAny (model prog w) A (getItem (.ref t) (.ref sl)) Q E s:=by
 obtain⟨os,hos,hcs,hds⟩:=id hs;have hTs:s.TypeIs (.ref sl) "slice" := ⟨os,hos,hcs⟩;unfold getItem
 try with_reducible refine wpAny_holding ?_
 first | refine wpAny_bind (wpAny_pure ?_) | skip
 refine wpAny_bind (wpAny_sequenceKey ht.typeIs (by decide) ?_)
 refine wpAny_bind (wpAny_callSpecial?_slot (name:=Str.ofString "__getitem__") ht.typeIs PyProof.Rows.slot_tuple_getitem
  (wpAny_call_entry PyProof.Rows.slot_tuple_getitem ht.typeIs entry_tuple_getitem ?_ (args_tuple_getitem _ _)))
 show wpAny _ _ (Builtin.Tuple.tupleItemsOf (.ref t) >>= _) _ _ s;refine wpAny_bind (tupleItemsOf_ ht ?_);refine wpAny_bind (wpAny_typeOf hTs ?_);rw[if_pos (by decide)]
 refine wpAny_bind (HT.yw hs pl pu ?_);have hyes:(((HT.sIx items.size 0 lo:Nat):Int)==0&&(1:Int)==1&&(HT.sIx items.size items.size hi - HT.sIx items.size 0 lo)==items.size)=true:=by
  rw[h1,h2];simp
 show wpAny _ _ (if (((HT.sIx items.size 0 lo:Nat):Int)==0&&(1:Int)==1&&(HT.sIx items.size items.size hi - HT.sIx items.size 0 lo)==items.size)=true then _ else _) _ _ s
 rw[if_pos hyes];refine wpAny_bind (wpAny_bind (wpAny_typeOf ht.typeIs (wpAny_pure ?_)));rw[if_pos (by decide)]
 exact wpAny_bind (wpAny_rule (wpAny_pure ⟨_,rfl,wpAny_pure h⟩))
end
section
variable{X:Cx}
end
section
variable{X:Cx}(K:Fg9)(hK:X.K=K)
include hK
variable{tg:Expr}
end
theorem mj:bootBuiltins "len" = some (.builtin "len"):=by decide +kernel
theorem anb:bootBuiltins "all" = some (.builtin "all"):=by decide +kernel
theorem ao:bootBuiltins "isinstance" = some (.builtin "isinstance"):=by decide +kernel
theorem aqc:bootBuiltins "max" = some (.builtin "max"):=by decide +kernel
theorem ana:bootBuiltins "divmod" = some (.builtin "divmod"):=by decide +kernel
theorem ajw:bootBuiltins "int" = some (.type "int"):=by decide +kernel
theorem aiq:bootBuiltins "bool" = some (.type "bool"):=by decide +kernel
theorem nj:bootBuiltins "tuple" = some (.type "tuple"):=by decide +kernel
theorem abl:bootBuiltins "list" = some (.type "list"):=by decide +kernel
theorem ahp:bootBuiltins "enumerate" = some (.type "enumerate"):=by decide +kernel
structure ExcK (K:Fg9) (C:Addr):Prop where
 ga:findIn K (.ref C) "__getattribute__" = some (some (.builtin "BaseException.__getattribute__"))
 gh:findIn K (.ref C) "__getattr__" = some none
 be:PySem.W.mroIn K C (.type "BaseException")=some true
 hd:PySem.W.hasDictIn K C=true
 cl:findIn K (.ref C) "__class__" = some (some (.builtin "object.__class__"))
 sp:PySem.W.specialIn K (.builtin "object.__class__") "__get__" = some (some (.builtin "getset_descriptor.__get__"))
 tk:PySem.W.takesIn K (.builtin "object.__class__")=some true
 ob:PySem.W.mroIn K C (.type "object")=some true
 no:∀T∈["int","bool","tuple","list","str","dict"],PySem.W.subIn K (.ref C) (.type T)=some false
theorem ain{K:Fg9}{C:Addr}{od:Option Obj}{name:Str}{a g:Value}(hc:(PySem.W.clsIn K C).isSome=true)(ha:findIn K (.ref C) name=some (some a))(hg:PySem.W.specialIn K a "__get__" = some (some g))(ht:PySem.W.takesIn K a=some true):PySem.W.findObj K C od name=some (.bind g a):=by
 obtain⟨cd,hc⟩:=Option.isSome_iff_exists.mp hc;unfold PySem.W.findObj;rw[hc,Option.bind_some,ha,Option.bind_some];simp[hg,ht]
section
variable{prog:Program}{w:World}{A:Around}{E:Value->Shared->Prop}{s:Shared}{K:Fg9}{x D:Addr}{ox:Obj}{od:Option Obj}{name:Str}
theorem ajl{fill expr:Bool}{tk:Tok}{Q:Value->Shared->Prop}(X:K.In s.heap)(I:PySem.W.InstAt s.heap x ox D od)(k:ExcK K D)
  (h:wpAny (model prog w) A.in1 (Builtin.«object.__getattribute__» ⟨[.ref x,.str name tk],[]⟩)
   (fun fin s'=>match fin with | .done (.ret v)=>wpAny (model prog w) A (handedOut v) Q E s' | _=>False) (fun _ _=>False) s) :
  wpAny (model prog w) A (getAttrBy (.ref x) (.str name tk) fill expr) Q E s:=by
 obtain⟨hh,g,d,t,os⟩:=s;have L0:=I.type (M:=model prog w);have L1:=PySem.W.looks_findIn (M:=model prog w) X k.ga;have L2:=PySem.W.looks_findIn (M:=model prog w) X k.gh;have L3:PySem.W.Looks (model prog w) hh (isInstance (.ref x) (.type "BaseException")) true:=L0.andThen (PySem.W.looks_mroIn X k.be);unfold getAttrBy;refine wpAny_holding (wpAny_bind (L0.at (wpAny_bind (L1.at ?_))));have hx2:(Value.builtin "BaseException.__getattribute__" == Value.builtin "object.__getattribute__")=false:=by decide +kernel
 have hx1:(onTheHeap (Value.ref D)&&Value.builtin "BaseException.__getattribute__" == Value.builtin "object.__getattribute__")=false:=by rw[hx2,Bool.and_false]
 simp only[hx1,Bool.false_eq_true,if_false];unfold getAttrByItsOwn hookBefore;rw[if_pos (show onTheHeap (Value.ref D)=true from rfl)]
 refine wpAny_bind ?_;refine L2.at (wpAny_bind (wpAny_attempt (wpAny_holding ?_)));have hx0:(expr&&onTheHeap (Value.builtin "BaseException.__getattribute__"))=false:=by cases expr <;> rfl
 unfold callGetattribute;rw[if_neg (by rw[hx0];exact Bool.false_ne_true)]
 unfold boundAndCalled;refine wpAny_bind (wpAny_of_eq (PySem.F.attr_ValueError.ga.bind (.ref x)) ?_);have hk1:builtinKind "BaseException.__getattribute__" = some .slot:=by decide +kernel
 have hs1:splitId "BaseException.__getattribute__" = some ("BaseException","__getattribute__"):=by decide +kernel
 have ha1:=PySem.F.args_bexc_ga (.ref x) (.str name tk);dsimp only[List.cons_append,List.nil_append];refine wpAny_call (codeAny_call_builtin (id := "BaseException.__getattribute__") (args:=⟨[.ref x,.str name tk],[]⟩) PySem.F.attr_ValueError.ga.plain PySem.F.entry_bexc_ga ?_);refine PySem.W.check_slot (i := "BaseException.__getattribute__") (owner := "BaseException") (n := "__getattribute__") (self:=.ref x) (rest:=[.str name tk]) (kw:=[]) hk1 hs1 L3 ha1 ?_;refine wpAny_mono h (fun fin s' z =>?_) fun _ _ z=>z.elim
 rcases fin with(_ | _ | _ | _) | _ <;> first | exact z | exact z.elim
theorem ao4{g a:Value}{tk:Tok}{P:Value->Shared->Prop}(X:K.In s.heap)(I:PySem.W.InstAt s.heap x ox D od)(hf:PySem.W.findObj K D od name=some (.bind g a))
  (h:wpAny (model prog w) A (call g [a,.ref x,.ref D]) P E s) :
  wpAny (model prog w) A (Builtin.«object.__getattribute__» ⟨[.ref x,.str name tk],[]⟩) (fun fin s'=>match fin with | .done (.ret v)=>P v s' | _=>False) E s:=by
 obtain⟨hh,gg,d,t,os⟩:=s;have L0:=I.type (M:=model prog w);have L1:=PySem.W.looks_find (M:=model prog w) X I hf;unfold Builtin.«object.__getattribute__»
 refine wpAny_bind (wpAny_pure (wpAny_bind (wpAny_pure (wpAny_bind (L0.at (wpAny_bind (L1.at ?_)))))));show wpAny _ _ (Builtin.ObjectAttr.bindTo g a (.ref x) (.ref D)) _ _ _;show wpAny _ _ (holding [a] (call g [a,.ref x,.ref D]) >>= ret) _ _ _;exact wpAny_bind (wpAny_holding (wpAny_mono h (fun v s' z=>wpAny_pure z) fun _ _ z=>z))
theorem exc_value{v:Value}{tk:Tok}{Q:Fin->Shared->Prop}(X:K.In s.heap)(I:PySem.W.InstAt s.heap x ox D od)(hf:PySem.W.findObj K D od name=some (.value v))(h:Q (.done (.ret v)) s) :
  wpAny (model prog w) A (Builtin.«object.__getattribute__» ⟨[.ref x,.str name tk],[]⟩) Q E s:=by
 obtain⟨hh,gg,d,t,os⟩:=s;have L0:=I.type (M:=model prog w);have L1:=PySem.W.looks_find (M:=model prog w) X I hf;unfold Builtin.«object.__getattribute__»
 refine wpAny_bind (wpAny_pure (wpAny_bind (wpAny_pure (wpAny_bind (L0.at (wpAny_bind (L1.at ?_)))))));exact wpAny_pure h
end
theorem ajd{K:Fg9}{x D:Addr}(k:ExcK K D):PySem.W.KitX K (.ref x) (.ref D) (fun h=>∃ox od,PySem.W.InstAt h x ox D od) where
 ty:=fun _ _ _ ⟨_,_,I⟩=>I.type
 it:=fun _ _ X _=>by
  obtain⟨cdD,hcD,_⟩:=PySem.W.any_some k.hd;unfold PySem.W.clsIn at hcD;split at hcD
  ·rename_i c' d' cd' sl' ho;intro A' Q' E' s' k q;unfold isType loadHead;exact wpAny_bind (wpAny_loadPart (k _ _ (X _ _ ho)) (wpAny_pure q))
  ·cases hcD
 ne:=fun h tp dd its n sl X htp=>by
  obtain⟨cdD,hcD,_⟩:=PySem.W.any_some k.hd;refine Bool.eq_false_iff.mpr fun q =>?_
  have e:D=tp:=Value.ref.inj (beq_iff_eq.mp q);subst e;unfold PySem.W.clsIn at hcD;split at hcD
  ·rename_i c' d' cd' sl' ho;have z:=(X _ _ ho).symm.trans htp;cases z
  ·cases hcD
 ca:=fun{prog w A E Q s} X ⟨ox,od,I⟩ q=>by
  have hf:PySem.W.findObj K D od "__class__" = some (.bind (.builtin "getset_descriptor.__get__") (.builtin "object.__class__")):=ain (by obtain⟨cd,hc,_⟩:=PySem.W.any_some k.hd;rw[hc];rfl) k.cl k.sp k.tk
  unfold getAttr? getAttrBy?;refine wpAny_bind (wpAny_mkText (wpAny_bind (wpAny_attempt (ajl (s:={ s with toks:=s.toks+1 }) X I k (ao4 (s:={ s with toks:=s.toks+1 }) X I hf
   (wpAny_call (PySem.W.class_get (s:={ s with toks:=s.toks+1 }) (ox:=ox) (od:=od) X I k.ob (PySem.W.handed_on rfl (wpAny_pure q)))))))))
end Mn
namespace Dn
open L2 Mn
inductive D where
 | non | bl (b:Bool) | int (i:Int) | str (x:Str) | tup (l:List D) | lst (l:List D) | kst (l:List D) | dct (kvs:List (Key×D)) | exn (c:Str) (fs:List (Str×Int))
def exO(a C:Addr)(dx:Option Addr):Heap->Prop:=fun h=>∃oe vs,h.get? a=some oe/\oe.cls=.ref C/\oe.dict=dx/\oe.data=.fields vs
section
variable(K:Fg9)(F:Hp)
mutual
inductive Is:D->V->Prop
 | non:Is .non .non
 | bl (b:Bool):Is (.bl b) (.bl b)
 | int (i:Int):Is (.int i) (.int i)
 | str (x:Str):Is (.str x) (.str x)
 | tup {a:Addr} {vs:List V} {ds:List D} (e:F a=some (.tup vs)) (h:IsL ds vs):Is (.tup ds) (.ref a)
 | lst {a:Addr} {vs:List V} {ds:List D} (e:F a=some (.lst vs)) (h:IsL ds vs):Is (.lst ds) (.ref a)
 | kst {a:Addr} {vs:List V} {ds:List D} (e:SqL K F a vs) (h:IsL ds vs):Is (.kst ds) (.ref a)
 | dct {a:Addr} {kvs:List (Key×V)} {ds:List (Key×D)} (e:F a=some (.dK kvs)) (h:IsK ds kvs):Is (.dct ds) (.ref a)
 | exn {a C:Addr} {c:Str} {dx:Option Addr} {fs:List (Str×Int)} (e:F a=some (.ext (exO a C dx))) (hc:nsIn K mainGlobals c=some (some (.ref C))) (hk:ExcK K C)
   (hf:(dx=none/\fs=[])∨∃d,dx=some d/\F d=some (.xd (fs.map fun p=>(p.1,V.int p.2)))):Is (.exn c fs) (.ref a)
inductive IsL:List D->List V->Prop
 | nil:IsL [] []
 | cons {d:D} {v:V} {ds:List D} {vs:List V} (h:Is d v) (t:IsL ds vs):IsL (d::ds) (v::vs)
inductive IsK:List (Key×D)->List (Key×V)->Prop
 | nil:IsK [] []
 | cons {k:Key} {d:D} {v:V} {ds:List (Key×D)} {vs:List (Key×V)} (h:Is d v) (t:IsK ds vs):IsK ((k,d)::ds) ((k,v)::vs)
end
end
section
variable{K:Fg9}{F F':Hp}
mutual
theorem Is.mono(g:Same F F'):∀{d:D} {v:V},Is K F d v->Is K F' d v
 | _,_,.non=>.non
 | _,_,.bl b=>.bl b
 | _,_,.int i=>.int i
 | _,_,.str x=>.str x
 | _,_,.tup e h=>.tup (g _ _ e) (IsL.mono g h)
 | _,_,.lst e h=>.lst (g _ _ e) (IsL.mono g h)
 | _,_,.kst e h=>.kst (L2.Same.seq g e) (IsL.mono g h)
 | _,_,.dct e h=>.dct (g _ _ e) (IsK.mono g h)
 | _,_,.exn e hc hk hf=>.exn (g _ _ e) hc hk (hf.imp id fun⟨d,h1,h2⟩=>⟨d,h1,g _ _ h2⟩)
theorem IsL.mono(g:Same F F'):∀{ds:List D} {vs:List V},IsL K F ds vs->IsL K F' ds vs
 | _,_,.nil=>.nil
 | _,_,.cons h t=>.cons (Is.mono g h) (IsL.mono g t)
theorem IsK.mono(g:Same F F'):∀{ds:List (Key×D)} {vs:List (Key×V)},IsK K F ds vs->IsK K F' ds vs
 | _,_,.nil=>.nil
 | _,_,.cons h t=>.cons (Is.mono g h) (IsK.mono g t)
end
theorem IsL.length:∀{ds:List D} {vs:List V},IsL K F ds vs->ds.length=vs.length
 | _,_,.nil=>rfl
 | _,_,.cons _ t=>by simp[IsL.length t]
theorem IsL.append:∀{ds es:List D} {vs ws:List V},IsL K F ds vs->IsL K F es ws->IsL K F (ds++es) (vs++ws)
 | _,_,_,_,.nil,h=>h
 | _,_,_,_,.cons h t,k=>.cons h (IsL.append t k)
theorem IsL.take:∀{ds:List D} {vs:List V} (n:Nat),IsL K F ds vs->IsL K F (ds.take n) (vs.take n)
 | _,_,0,_=>by simpa using IsL.nil
 | _,_,_+1,.nil=>.nil
 | _,_,n+1,.cons h t=>.cons h (IsL.take n t)
theorem IsL.drop:∀{ds:List D} {vs:List V} (n:Nat),IsL K F ds vs->IsL K F (ds.drop n) (vs.drop n)
 | _,_,0,h=>h
 | _,_,_+1,.nil=>.nil
 | _,_,n+1,.cons _ t=>IsL.drop n t
theorem IsL.get:∀{ds:List D} {vs:List V} {i:Nat} {d:D},IsL K F ds vs->ds[i]? = some d->∃v,vs[i]? = some v/\Is K F d v
 | _,_,_,_,.nil,e=>by simp at e
 | _,_,0,_,.cons h _,e=>by simp at e;subst e;exact⟨_,rfl,h⟩
 | _,_,i+1,v,.cons _ t,e=>by
  obtain⟨d,h1,h2⟩:=IsL.get (i:=i) (d:=v) t (by simpa using e)
  exact⟨d,by simpa using h1,h2⟩
theorem IsL.set{d:D}{v:V}(h:Is K F d v):∀{ds:List D} {vs:List V} (i:Nat),IsL K F ds vs->IsL K F (ds.set i d) (vs.set i v)
 | _,_,_,.nil=>.nil
 | _,_,0,.cons _ t=>.cons h t
 | _,_,i+1,.cons q t=>.cons q (IsL.set h i t)
theorem IsL.rep{ds:List D}{vs:List V}(h:IsL K F ds vs):∀k:Nat,IsL K F (List.replicate k ds).flatten (List.replicate k vs).flatten
 | 0=>by simpa using IsL.nil
 | k+1=>by
  rw[List.replicate_succ,List.replicate_succ,List.flatten_cons,List.flatten_cons];exact h.append (IsL.rep h k)
theorem IsL.bl_inv:∀{ns:List Bool} {vs:List V},IsL K F (ns.map D.bl) vs->vs=ns.map V.bl
 | [],_,.nil=>rfl
 | n::r,_,.cons (.bl _) t=>by rw[List.map_cons,IsL.bl_inv t]
theorem af6:∀ns:List Int,IsL K F (ns.map D.int) (ns.map V.int)
 | []=>.nil
 | n::r=>.cons (.int n) (af6 r)
end
inductive Sl where
 | emp | val (d:D) | own (t:Option Nat) (l:List D) | box (c:Str) (fs:List (Str×(Nat ⊕ D)))
abbrev Ro:=List Sl
def Owns(ρ:Ro)(σ:L2.St)(i:Nat)(a:Addr):Prop:=(∃t l,ρ[i]? = some (.own t l))/\σ[i]? = some (some (.ref a))
def Own(ρ:Ro)(σ:L2.St)(a:Addr):Prop:=∃i,Owns ρ σ i a
def SlOk(K:Fg9)(tg:Nat->Addr)(F H:Hp):Sl->Option V->Prop
 | .emp,_=>True
 | .val d,o=>∃v,o=some v/\Is K F d v
 | .own t l,o=>∃a vs,o=some (.ref a)/\F a=none/\H a=some (.lst vs)/\IsL K F l vs/\∀k,t=some k->tg k=a
 | .box c fs,o=>∃a C dx fvs,o=some (.ref a)/\F a=none/\H a=some (.ins C dx fvs)/\nsIn K mainGlobals c=some (some (.ref C))/\(∀f,fs.lookup f=none->fvs.lookup f=none)/\(∀f k,fs.lookup f=some (.inl k)->fvs.lookup f=some (.ref (tg k)))/\∀f d,fs.lookup f=some (.inr d)->∃v,fvs.lookup f=some v/\Is K F d v
structure Good (K:Fg9) (tg:Nat->Addr) (F H:Hp) (ρ:Ro) (σ:L2.St):Prop where
 sub:Same F H
 len:ρ.length=σ.length
 sl:∀(i:Nat) (s:Sl) (o:Option V),ρ[i]? = some s->σ[i]? = some o->SlOk K tg F H s o
 inj:∀(i j:Nat) (a:Addr),Owns ρ σ i a->Owns ρ σ j a->i=j
structure Ext (O O':Addr->Prop) (F H F' H':Hp):Prop where
 sub:Same F F'
 new:∀a o,F' a=some o->F a=some o∨H a=none∨O a
 keep:∀a o,H a=some o->¬O a->H' a=some o
 own:∀a,O' a->O a∨H a=none
 there:∀a,H' a=none->H a=none
theorem Ext.refl(O:Addr->Prop)(F H:Hp):Ext O O F H F H:=⟨fun _ _ e=>e,fun _ _ e=>.inl e,fun _ _ e _=>e,fun _ h=>.inl h,fun _ h=>h⟩
theorem Ext.trans{O O1 O2:Addr->Prop}{F H F1 H1 F2 H2:Hp}(a:Ext O O1 F H F1 H1)(b:Ext O1 O2 F1 H1 F2 H2):Ext O O2 F H F2 H2 where
 sub:=a.sub.trans b.sub
 new:=fun c o e=>by
  rcases b.new c o e with q | q | q
  ·exact a.new c o q
  ·exact .inr (.inl (a.there c q))
  ·rcases a.own c q with z | z
   ·exact .inr (.inr z)
   ·exact .inr (.inl z)
 keep:=fun c o e n=>b.keep c o (a.keep c o e n) fun z=>by
  rcases a.own c z with q | q
  ·exact n q
  ·rw[e] at q;cases q
 own:=fun c z=>by
  rcases b.own c z with q | q
  ·exact a.own c q
  ·exact .inr (a.there c q)
 there:=fun c z=>a.there c (b.there c z)
section
variable{K:Fg9}{tg:Nat->Addr}{F H F' H':Hp}{ρ ρ':Ro}{σ:L2.St}
theorem Good.ownAt(G:Good K tg F H ρ σ){a:Addr}(h:Own ρ σ a):F a=none/\∃vs,H a=some (.lst vs):=by
 obtain⟨i,⟨t,l,e⟩,q⟩:=h;obtain⟨b,vs,e1,f,e2,_⟩:=G.sl i _ _ e q;cases e1;exact⟨f,vs,e2⟩
theorem Good.grow(G:Good K tg F H ρ σ)(s:Same F F')(s':Same F' H')(k:∀a,Own ρ σ a->F' a=none/\H' a=H a)(kb:∀a C dx fvs,F a=none->H a=some (.ins C dx fvs)->F' a=none/\H' a=H a):Good K tg F' H' ρ σ where
 sub:=s'
 len:=G.len
 inj:=G.inj
 sl:=fun i sl o e q=>by
  have z:=G.sl i sl o e q;cases sl with
  | emp=>trivial
  | val d =>
   obtain⟨v,e1,h⟩:=z;exact⟨v,e1,h.mono s⟩
  | box c fs =>
   obtain⟨a,C,dx,fvs,e1,e2,e3,e4,e7,e5,e6⟩:=z;obtain⟨f1,f2⟩:=kb a C dx fvs e2 e3;exact⟨a,C,dx,fvs,e1,f1,f2.trans e3,e4,e7,e5,fun f d h=>(e6 f d h).imp fun v h=>⟨h.1,h.2.mono s⟩⟩
  | own t l =>
   obtain⟨a,vs,e1,f,e2,h,ht⟩:=z;have w:=k a ⟨i,⟨t,l,e⟩,by rw[q,e1]⟩
   exact⟨a,vs,e1,w.1,by rw[w.2];exact e2,h.mono s,ht⟩
theorem Same.put{p:Addr}(s:Same F H)(h:H p=none)(o:HO):Same (upd F p o) (upd H p o):=fun b u e=>by
 by_cases hb:b=p
 ·subst hb;rw[dg] at e ⊢
  exact e
 ·rw[bu hb] at e ⊢
  exact s b u e
theorem Good.freeF(G:Good K tg F H ρ σ){p:Addr}(h:H p=none):F p=none:=by
 cases e:F p with
 | none=>rfl
 | some o=>rw[G.sub p o e] at h;cases h
theorem Good.own_ne(G:Good K tg F H ρ σ){p a:Addr}(h:H p=none)(w:Own ρ σ a):a≠p:=by
 obtain⟨_,vs,e⟩:=G.ownAt w;exact gr e h
theorem Good.new(G:Good K tg F H ρ σ){p:Addr}(h:H p=none)(o:HO):Good K tg (upd F p o) (upd H p o) ρ σ :=
 G.grow (Same.new (G.freeF h) o) (Same.put G.sub h o) (fun a w=>by
  rw[bu (G.own_ne h w),bu (G.own_ne h w)];exact⟨(G.ownAt w).1,rfl⟩) fun a C dx fvs h1 h2=>by
  rw[bu (gr h2 h),bu (gr h2 h)];exact⟨h1,rfl⟩
theorem Good.newX(G:Good K tg F H ρ σ){p:Addr}(h:H p=none)(o:HO):Ext (Own ρ σ) (Own ρ σ) F H (upd F p o) (upd H p o) where
 sub:=Same.new (G.freeF h) o
 new:=fun a u e=>by
  by_cases ha:a=p
  ·subst ha;exact .inr (.inl h)
  ·rw[bu ha] at e;exact .inl e
 keep:=fun a u e _=>by rw[bu (gr e h)];exact e
 own:=fun a w=>.inl w
 there:=fun a e=>by
  by_cases ha:a=p
  ·subst ha;exact h
  ·rw[bu ha] at e;exact e
theorem Good.fresh(G:Good K tg F H ρ σ){p:Addr}(h:H p=none)(o:HO):Good K tg F (upd H p o) ρ σ :=
 G.grow (Same.refl F) (fun b u e=>by rw[bu (gr (G.sub b u e) h)];exact G.sub b u e) (fun a w=>by
  rw[bu (G.own_ne h w)];exact⟨(G.ownAt w).1,rfl⟩) fun a C dx fvs h1 h2=>⟨h1,bu (gr h2 h)⟩
theorem Good.freshX(G:Good K tg F H ρ σ){p:Addr}(h:H p=none)(o:HO):Ext (Own ρ σ) (Own ρ σ) F H F (upd H p o) where
 sub:=Same.refl F
 new:=fun a u e=>.inl e
 keep:=fun a u e _=>by rw[bu (gr e h)];exact e
 own:=fun a w=>.inl w
 there:=fun a e=>by
  by_cases ha:a=p
  ·subst ha;exact h
  ·rw[bu ha] at e;exact e
theorem Good.freeze(G:Good K tg F H ρ σ){p:Addr}{o:HO}(h:H p=some o)(n:¬Own ρ σ p)(hf:F p=none)(hi:∀C dx fs,o≠.ins C dx fs:=by intro _ _ _ z;cases z):Good K tg (upd F p o) H ρ σ :=
 G.grow (Same.new hf o) (fun b u e=>by
  by_cases hb:b=p
  ·subst hb;rw[dg] at e;cases e;exact h
  ·rw[bu hb] at e;exact G.sub b u e) (fun a w=>by
  have:a≠p:=fun z=>n (z▸w)
  rw[bu this];exact⟨(G.ownAt w).1,rfl⟩) fun a C dx fvs h1 h2=>by
  have:a≠p:=fun z=>by
   subst z;rw[h] at h2;exact hi _ _ _ (Option.some.inj h2)
  rw[bu this];exact⟨h1,rfl⟩
end
end Dn
namespace Dn
open L2 Mn
structure Exn where
 cls:Str
 fs:List (Str×Int)
inductive Out (α:Type) where
 | ok (a:α) | exc (x:Exn)
abbrev M(α:Type):=Ro->Option (Out α×Ro)
noncomputable def M.bind{α β:Type}(m:M α)(k:α->M β):M β:=fun ρ=>match m ρ with
 | some (.ok a,ρ1)=>k a ρ1
 | some (.exc x,ρ1)=>some (.exc x,ρ1)
 | none=>none
noncomputable def ret{α:Type}(a:α):M α:=fun ρ=>some (.ok a,ρ)
noncomputable def lift{α:Type}(o:Option α):M α:=fun ρ=>match o with
 | some a=>some (.ok a,ρ)
 | none=>none
section
variable{α β:Type}
theorem bf{m:M α}{k:α->M β}{ρ ρ2:Ro}{b:β}(h:m.bind k ρ=some (.ok b,ρ2)):∃a ρ1,m ρ=some (.ok a,ρ1)/\k a ρ1=some (.ok b,ρ2):=by
 unfold M.bind at h;split at h
 ·exact⟨_,_,by assumption,h⟩
 ·cases h
 ·cases h
theorem fu{o:Option α}{ρ ρ2:Ro}{b:α}(h:lift o ρ=some (.ok b,ρ2)):o=some b/\ρ2=ρ:=by
 unfold lift at h;split at h
 ·cases h;exact⟨rfl,rfl⟩
 ·cases h
theorem jt{a b:α}{ρ ρ2:Ro}(h:ret a ρ=some (.ok b,ρ2)):a=b/\ρ2=ρ:=by
 unfold ret at h;cases h;exact⟨rfl,rfl⟩
@[simp] theorem awe(a:α)(k:α->M β):(ret a).bind k=k a:=rfl
@[simp] theorem avc(a:α):lift (some a)=ret a:=rfl
end
inductive Rv where
 | v (d:D) | fr (l:List D)
 | tf (d:D) (l:List D)
abbrev Rel(α:Type):=α->V->(H:Hp)->(O:Addr->Prop)->(F' H':Hp)->(O':Addr->Prop)->Prop
def relD(K:Fg9):Rel D:=fun d v _ _ F' _ _=>Is K F' d v
def Bor(K:Fg9)(F H:Hp)(d:D)(v:V):Prop:=Is K F d v∨∃a vs l,d=.lst l/\v=.ref a/\H a=some (.lst vs)/\IsL K F l vs
def relB(K:Fg9):Rel D:=fun d v _ _ F' H' _=>Bor K F' H' d v
def relR(K:Fg9):Rel Rv:=fun r v H O F' H' O'=>match r with
 | .v d=>Is K F' d v
 | .fr l=>∃a vs,v=.ref a/\(H a=none∨O a)/\F' a=none/\H' a=some (.lst vs)/\IsL K F' l vs/\¬O' a
 | .tf d l=>∃t u a vs,v=.ref t/\F' t=some (.tup [u,.ref a])/\Is K F' d u/\(H a=none∨O a)/\F' a=none/\H' a=some (.lst vs)/\IsL K F' l vs/\¬O' a
def T{α:Type}(K:Fg9)(rel:Rel α)(m:M α):TE:=fun σ H Q=>∃tg F ρ a ρ',Good K tg F H ρ σ/\m ρ=some (.ok a,ρ') /\
 ∀v H' F',Good K tg F' H' ρ' σ->Ext (Own ρ σ) (Own ρ' σ) F H F' H'->rel a v H (Own ρ σ) F' H' (Own ρ' σ)->Q v H'
structure EV (K:Fg9) (X:Cx) (e:Expr) (m:M D):Prop where
 go:X.K=K->PE X e (T K (relD K) m)
instance {K:Fg9} {X:Cx} {e:Expr} {m:M D}:CoeFun (EV K X e m) fun _=>X.K=K->PE X e (T K (relD K) m):=⟨EV.go⟩
structure EB (K:Fg9) (X:Cx) (e:Expr) (m:M D):Prop where
 go:X.K=K->PE X e (T K (relB K) m)
instance {K:Fg9} {X:Cx} {e:Expr} {m:M D}:CoeFun (EB K X e m) fun _=>X.K=K->PE X e (T K (relB K) m):=⟨EB.go⟩
structure ER (K:Fg9) (X:Cx) (e:Expr) (m:M Rv):Prop where
 go:X.K=K->PE X e (T K (relR K) m)
instance {K:Fg9} {X:Cx} {e:Expr} {m:M Rv}:CoeFun (ER K X e m) fun _=>X.K=K->PE X e (T K (relR K) m):=⟨ER.go⟩
theorem PE.imp{X:Cx}{e:Expr}{t t':TE}(h:PE X e t)(w:∀σ H Q,t' σ H Q->t σ H Q):PE X e t':=fun zv s σ H Q I q=>h zv s σ H Q I (w σ H Q q)
section
variable{K:Fg9}{X:Cx}{e a b:Expr}{pos:Pos}
theorem EV.toB{m:M D}(h:EV K X e m):EB K X e m:=EB.mk fun hk=>PE.imp (h hk) fun σ H Q ⟨tg,F,ρ,d,ρ',G,em,q⟩=>⟨tg,F,ρ,d,ρ',G,em,fun v H' F' G' x r=>q v H' F' G' x (.inl r)⟩
def M.v(m:M D):M Rv:=m.bind fun d=>ret (.v d)
theorem EV.toR{m:M D}(h:EV K X e m):ER K X e m.v:=ER.mk fun hk=>PE.imp (h hk) fun σ H Q z9=>by
 obtain⟨tg,F,ρ,r,ρ',G,em,q⟩:=z9;obtain⟨d,ρ1,e1,e2⟩:=bf em;obtain⟨rfl,rfl⟩:=jt e2;exact⟨tg,F,ρ,d,_,G,e1,fun v H' F' G' x r=>q v H' F' G' x r⟩
def Rv.d:Rv->D
 | .v d=>d
 | .fr l=>.lst l
 | .tf d l=>.tup [d,.lst l]
def M.d(m:M Rv):M D:=m.bind fun r=>ret r.d
theorem frz{tg:Nat->Addr}{O:Addr->Prop}{F H F' H':Hp}{ρ':Ro}{σ':L2.St}{r:Rv}{v:V}(G:Good K tg F' H' ρ' σ')(x:Ext O (Own ρ' σ') F H F' H')(h:relR K r v H O F' H' (Own ρ' σ')) :
  ∃F2,Good K tg F2 H' ρ' σ'/\Ext O (Own ρ' σ') F H F2 H'/\Is K F2 r.d v:=by
 cases r with
 | v d=>exact⟨F',G,x,h⟩
 | fr l =>
  obtain⟨a,vs,rfl,ha,hf,hh,hl,hn⟩:=h;refine⟨upd F' a (.lst vs),G.freeze hh hn hf,⟨x.sub.trans (Same.new hf _),fun b o e =>?_,x.keep,x.own,x.there⟩,.lst dg (hl.mono (Same.new hf _))⟩
  by_cases hb:b=a
  ·subst hb;exact .inr ha
  ·rw[bu hb] at e;exact x.new b o e
 | tf d l =>
  obtain⟨t,u,a,vs,rfl,ht,hd,ha,hf,hh,hl,hn⟩:=h;have hta:t≠a:=fun z=>by rw[z,hf] at ht;cases ht
  refine⟨upd F' a (.lst vs),G.freeze hh hn hf,⟨x.sub.trans (Same.new hf _),fun b o e =>?_,x.keep,x.own,x.there⟩,.tup (by rw[bu hta];exact ht) (.cons (hd.mono (Same.new hf _)) (.cons (.lst dg (hl.mono (Same.new hf _))) .nil))⟩
  by_cases hb:b=a
  ·subst hb;exact .inr ha
  ·rw[bu hb] at e;exact x.new b o e
theorem ER.toD{m:M Rv}(h:ER K X e m):EV K X e m.d:=EV.mk fun hk=>PE.imp (h hk) fun σ H Q z9=>by
 obtain⟨tg,F,ρ,d,ρ',G,em,q⟩:=z9;obtain⟨r,ρ1,e1,e2⟩:=bf em;obtain⟨rfl,rfl⟩:=jt e2;refine⟨tg,F,ρ,r,_,G,e1,fun v H' F' G' x w =>?_⟩
 obtain⟨F2,G2,x2,i2⟩:=frz G' x w;exact q v H' F2 G2 x2 i2
noncomputable def di(i:Nat):M D:=fun ρ=>match ρ[i]? with
 | some (.val d)=>some (.ok d,ρ)
 | some (.own _ l)=>some (.ok (.lst l),ρ)
 | _=>none
theorem Good.at{tg:Nat->Addr}{F H:Hp}{ρ:Ro}{σ:L2.St}(G:Good K tg F H ρ σ){i:Nat}{s:Sl}(e:ρ[i]? = some s):∃o,σ[i]? = some o/\SlOk K tg F H s o:=by
 have hi:i < σ.length:=by rw[<-G.len];exact(List.getElem?_eq_some_iff.mp e).1
 exact⟨σ[i],List.getElem?_eq_getElem hi,G.sl i s _ e (List.getElem?_eq_getElem hi)⟩
theorem j7{tg:Nat->Addr}{F H:Hp}{ρ ρ':Ro}{σ:L2.St}(G:Good K tg F H ρ σ){i:Nat}{d:D}(em:di i ρ=some (.ok d,ρ')):ρ'=ρ/\∃v,σ[i]? = some (some v)/\Bor K F H d v:=by
 unfold di at em;split at em
 ·rename_i d' e';cases em;obtain⟨o,ho,v,rfl,hv⟩:=G.at e';exact⟨rfl,v,ho,.inl hv⟩
 ·rename_i t l e';cases em;obtain⟨o,ho,a,vs,rfl,hf,hh,hl,_⟩:=G.at e';exact⟨rfl,_,ho,.inr ⟨a,vs,l,rfl,rfl,hh,hl⟩⟩
 ·cases em
theorem cj{i:Nat}(h:PE X e (tVar i)):EB K X e (di i):=EB.mk fun _=>PE.imp h fun σ H Q z9=>by
 obtain⟨tg,F,ρ,d,ρ',G,em,q⟩:=z9;obtain⟨rfl,v,ho,hv⟩:=j7 G em;exact⟨v,ho,q v H F G (Ext.refl _ _ _) hv⟩
def akk(i:Nat):M Rv:=fun ρ=>match ρ[i]? with
 | some (.val d)=>some (.ok (.v d),ρ)
 | some (.own none l)=>some (.ok (.fr l),ρ.set i .emp)
 | _=>none
theorem Good.drop{tg:Nat->Addr}{F H:Hp}{ρ:Ro}{σ:L2.St}(G:Good K tg F H ρ σ)(i:Nat):Good K tg F H (ρ.set i .emp) σ:=by
 have sub:∀j t l,(List.set ρ i Sl.emp)[j]? = some (Sl.own t l)->(ρ:List Sl)[j]? = some (Sl.own t l):=fun j t l e=>by
  rw[List.getElem?_set] at e;split at e
  ·split at e <;> cases e
  ·exact e
 refine⟨G.sub,by rw[List.length_set];exact G.len,fun j s o e q =>?_,fun j k a ⟨⟨t,l,e⟩,q⟩ ⟨⟨t',l',e'⟩,q'⟩=>G.inj j k a ⟨⟨t,l,sub _ _ _ e⟩,q⟩ ⟨⟨t',l',sub _ _ _ e'⟩,q'⟩⟩
 rw[List.getElem?_set] at e;split at e
 ·split at e
  ·cases e;trivial
  ·cases e
 ·exact G.sl j s o e q
theorem abv{ρ:Ro}{σ:L2.St}{i:Nat}{a:Addr}(h:Own (ρ.set i .emp) σ a):Own ρ σ a/\∀t l,ρ[i]? = some (.own t l)->∀(inj:∀i j a,Owns ρ σ i a->Owns ρ σ j a->i=j),¬Owns ρ σ i a:=by
 obtain⟨j,⟨t,l,e⟩,q⟩:=h;rw[List.getElem?_set] at e;split at e
 ·split at e <;> cases e
 ·rename_i hne;have w:Owns ρ σ j a:=⟨⟨t,l,e⟩,q⟩;exact⟨⟨j,w⟩,fun t' l' _ inj z=>hne (inj _ _ _ z w)⟩
theorem aio{i:Nat}(h:PE X e (tVar i)):ER K X e (akk i):=ER.mk fun _=>PE.imp h fun σ H Q z9=>by
 obtain⟨tg,F,ρ,d,ρ',G,em,q⟩:=z9;unfold akk at em;split at em
 ·rename_i d' e';cases em;obtain⟨o,ho,v,rfl,hv⟩:=G.at e';exact⟨v,ho,q v H F G (Ext.refl _ _ _) hv⟩
 ·rename_i l e';cases em;obtain⟨o,ho,a,vs,rfl,hf,hh,hl,_⟩:=G.at e';have w:Owns ρ σ i a:=⟨⟨_,_,e'⟩,ho⟩;refine⟨_,ho,q _ H F (G.drop i) ⟨Same.refl _,fun _ _ e=>.inl e,fun _ _ e _=>e,fun b z=>.inl (abv z).1,fun _ z=>z⟩ ⟨a,vs,rfl,.inr ⟨i,w⟩,hf,hh,hl,fun z=>(abv z).2 _ _ e' G.inj w⟩⟩
 ·cases em
noncomputable def mVar(i:Nat):M D:=fun ρ=>match ρ[i]? with
 | some (.val d)=>some (.ok d,ρ)
 | some (.own none l)=>some (.ok (.lst l),ρ.set i (.val (.lst l)))
 | _=>none
theorem an8{ρ:Ro}{σ:L2.St}{i:Nat}{d:D}{a:Addr}(h:Own (ρ.set i (.val d)) σ a):Own (ρ.set i .emp) σ a:=by
 obtain⟨j,⟨t,l,e⟩,q⟩:=h;refine⟨j,⟨t,l,?_⟩,q⟩;rw[List.getElem?_set] at e ⊢
 split at e
 ·split at e <;> cases e
 ·rename_i hne;rw[if_neg hne];exact e
theorem Good.setv{tg:Nat->Addr}{F H:Hp}{ρ:Ro}{σ:L2.St}{i:Nat}{d:D}{v:V}(G:Good K tg F H (ρ.set i .emp) σ)(e:σ[i]? = some (some v))(h:Is K F d v):Good K tg F H (ρ.set i (.val d)) σ:=by
 have sub:∀j t l,(List.set ρ i (Sl.val d))[j]? = some (Sl.own t l)->(List.set ρ i Sl.emp)[j]? = some (Sl.own t l):=fun j t l z=>by
  rw[List.getElem?_set] at z ⊢
  split at z
  ·split at z <;> cases z
  ·rename_i hne;rw[if_neg hne];exact z
 refine⟨G.sub,by have:=G.len;rw[List.length_set] at this ⊢;exact this,fun j s o z q =>?_,fun j k a ⟨⟨t,l,z⟩,q⟩ ⟨⟨t',l',z'⟩,q'⟩=>G.inj j k a ⟨⟨t,l,sub _ _ _ z⟩,q⟩ ⟨⟨t',l',sub _ _ _ z'⟩,q'⟩⟩
 by_cases hij:i=j
 ·subst hij;rw[List.getElem?_set,if_pos rfl] at z;split at z
  ·cases z;rw[e] at q;cases q;exact⟨v,rfl,h⟩
  ·cases z
 ·refine G.sl j s o ?_ q;rw[List.getElem?_set,if_neg hij] at z ⊢
  exact z
theorem az{i:Nat}(h:PE X e (tVar i)):EV K X e (mVar i):=EV.mk fun _=>PE.imp h fun σ H Q z9=>by
 obtain⟨tg,F,ρ,d,ρ',G,em,q⟩:=z9;unfold mVar at em;split at em
 ·rename_i d' e';cases em;obtain⟨o,ho,v,rfl,hv⟩:=G.at e';exact⟨v,ho,q v H F G (Ext.refl _ _ _) hv⟩
 ·rename_i l e';cases em;obtain⟨o,ho,a,vs,rfl,hf,hh,hl,_⟩:=G.at e';have w:Owns ρ σ i a:=⟨⟨_,_,e'⟩,ho⟩;have nown:¬Own (ρ.set i .emp) σ a:=fun z=>(abv z).2 _ _ e' G.inj w
  have G2:=(G.drop i).freeze hh nown hf;have i2:Is K (upd F a (.lst vs)) (.lst l) (.ref a):=.lst dg (hl.mono (Same.new hf _));refine⟨_,ho,q _ H _ (G2.setv ho i2) ⟨Same.new hf _,fun b o z =>?_,fun _ _ z _=>z,fun b z=>.inl (abv (an8 z)).1,fun _ z=>z⟩ i2⟩
  by_cases hb:b=a
  ·subst hb;exact .inr (.inr ⟨i,w⟩)
  ·rw[bu hb] at z;exact .inl z
 ·cases em
theorem ev_c{d:D}{v:V}(h:PE X e (tC v))(hi:∀F,Is K F d v):EV K X e (ret d):=EV.mk fun _=>PE.imp h fun σ H Q z9=>by
 obtain⟨tg,F,ρ,d',ρ',G,em,q⟩:=z9;obtain⟨rfl,rfl⟩:=jt em;exact q v H F G (Ext.refl _ _ _) (hi F)
theorem aq{i:Int}{j:Nat}:EV K X (.Constant (.int i) j pos) (ret (.int i)):=ev_c auh fun _=>.int i
theorem aaw{i:Bool}{j:Nat}:EV K X (.Constant (.bool i) j pos) (ret (.bl i)):=ev_c axx fun _=>.bl i
theorem ae5{j:Nat}:EV K X (.Constant .none j pos) (ret .non):=ev_c aue fun _=>.non
theorem ig{i:Str}{j:Nat}:EV K X (.Constant (.str i) j pos) (ret (.str i)):=ev_c aub fun _=>.str i
def T2(K:Fg9)(m:M (D×D))(σ:L2.St)(H:Hp)(R:V->V->Hp->Prop):Prop:=∃tg F ρ p ρ',Good K tg F H ρ σ/\m ρ=some (.ok p,ρ') /\
 ∀x y H' F',Good K tg F' H' ρ' σ->Ext (Own ρ σ) (Own ρ' σ) F H F' H'->Bor K F' H' p.1 x->Bor K F' H' p.2 y->R x y H'
structure E2 (K:Fg9) (X:Cx) (a b:Expr) (m:M (D×D)):Prop where
 go:X.K=K->∃ta tb,PE X a ta/\PE X b tb/\∀σ H R,T2 K m σ H R->ta σ H fun x H1=>tb σ H1 fun y H2=>R x y H2
instance {K:Fg9} {X:Cx} {a b:Expr} {m:M (D×D)}:CoeFun (E2 K X a b m) fun _=>X.K=K->∃ta tb,PE X a ta/\PE X b tb/\∀σ H R,T2 K m σ H R->ta σ H fun x H1=>tb σ H1 fun y H2=>R x y H2:=⟨E2.go⟩
def gn(m1 m2:M D):M (D×D):=m1.bind fun x=>m2.bind fun y=>ret (x,y)
def fj(i:Nat)(m2:M D):M (D×D):=(di i).bind fun _=>m2.bind fun y=>(di i).bind fun x=>ret (x,y)
theorem e2_v{m1 m2:M D}(ha:EV K X a m1)(hb:EB K X b m2):E2 K X a b (gn m1 m2):=E2.mk fun hk=>⟨_,_,ha hk,hb hk,fun σ H R z9=>by
 obtain⟨tg,F,ρ,p,ρ',G,em,q⟩:=z9;obtain⟨d1,ρ1,e1,em⟩:=bf em;obtain⟨d2,ρ2,e2,em⟩:=bf em;obtain⟨rfl,rfl⟩:=jt em;exact⟨tg,F,ρ,d1,ρ1,G,e1,fun x H1 F1 G1 x1 r1=>⟨tg,F1,ρ1,d2,_,G1,e2,fun y H2 F2 G2 x2 r2=>q x y H2 F2 G2 (x1.trans x2) (.inl (r1.mono x2.sub)) r2⟩⟩⟩
theorem e2_n{i:Nat}{m2:M D}(ha:PE X a (tVar i))(hb:EB K X b m2):E2 K X a b (fj i m2):=E2.mk fun hk=>⟨_,_,ha,hb hk,fun σ H R z9=>by
 obtain⟨tg,F,ρ,p,ρ',G,em,q⟩:=z9;obtain⟨d0,ρ0,e0,em⟩:=bf em;obtain⟨d2,ρ2,e2,em⟩:=bf em;obtain⟨d1,ρ1,e1,em⟩:=bf em;obtain⟨rfl,rfl⟩:=jt em;obtain⟨rfl,v,hv,_⟩:=j7 G e0;exact⟨v,hv,tg,F,ρ0,d2,ρ2,G,e2,fun y H2 F2 G2 x2 r2=>by
  obtain⟨rfl,v',hv',b'⟩:=j7 G2 e1;rw[hv] at hv';cases hv';exact q v y H2 F2 G2 x2 b' r2⟩⟩
end
section
variable{K:Fg9}{X:Cx}{e a b c:Expr}{es:List Expr}{pos p:Pos}
section
variable{F H:Hp}{x:V}
theorem Bor.lst{l:List D}(g:Same F H)(h:Bor K F H (.lst l) x):∃a vs,x=.ref a/\H a=some (.lst vs)/\IsL K F l vs:=by
 rcases h with h | ⟨a,vs,l',e1,e2,e3,h⟩
 ·cases h with
  | lst e h=>exact⟨_,_,rfl,g _ _ e,h⟩
 ·cases e1;exact⟨a,vs,e2,e3,h⟩
theorem Bor.tup{l:List D}(h:Bor K F H (.tup l) x):∃a vs,x=.ref a/\F a=some (.tup vs)/\IsL K F l vs:=by
 rcases h with h | ⟨a,vs,l',e1,_⟩
 ·cases h with
  | tup e h=>exact⟨_,_,rfl,e,h⟩
 ·cases e1
theorem Bor.kst{l:List D}(h:Bor K F H (.kst l) x):∃a vs,x=.ref a/\SqL K F a vs/\IsL K F l vs:=by
 rcases h with h | ⟨a,vs,l',e1,_⟩
 ·cases h with
  | kst e h=>exact⟨_,_,rfl,e,h⟩
 ·cases e1
theorem Bor.int{i:Int}(h:Bor K F H (.int i) x):x=.int i:=by
 rcases h with h | ⟨a,vs,l',e1,_⟩
 ·cases h;rfl
 ·cases e1
theorem Bor.bl{i:Bool}(h:Bor K F H (.bl i) x):x=.bl i:=by
 rcases h with h | ⟨a,vs,l',e1,_⟩
 ·cases h;rfl
 ·cases e1
theorem Bor.str{i:Str}(h:Bor K F H (.str i) x):x=.str i:=by
 rcases h with h | ⟨a,vs,l',e1,_⟩
 ·cases h;rfl
 ·cases e1
theorem Bor.non(h:Bor K F H .non x):x=.non:=by
 rcases h with h | ⟨a,vs,l',e1,_⟩
 ·cases h;rfl
 ·cases e1
end
def Res(K:Fg9)(tg:Nat->Addr)(F H:Hp)(ρ:Ro)(σ:L2.St)(r:Rv)(Q:VK):Prop :=
 ∀v H' F',Good K tg F' H' ρ σ->Ext (Own ρ σ) (Own ρ σ) F H F' H'->relR K r v H (Own ρ σ) F' H' (Own ρ σ)->Q v H'
section
variable{tg:Nat->Addr}{F H:Hp}{ρ:Ro}{σ:L2.St}{Q:VK}
theorem Res.same{d:D}{v:V}(G:Good K tg F H ρ σ)(q:Res K tg F H ρ σ (.v d) Q)(h:Is K F d v):Q v H:=q v H F G (Ext.refl _ _ _) h
theorem Res.tup{l:List D}{vs:List V}(G:Good K tg F H ρ σ)(q:Res K tg F H ρ σ (.v (.tup l)) Q)(h:IsL K F l vs){p:Addr}(hp:H p=none):Q (.ref p) (upd H p (.tup vs)) :=
 q _ _ _ (G.new hp _) (G.newX hp _) (.tup dg (h.mono (Same.new (G.freeF hp) _)))
theorem Res.lst{l:List D}{vs:List V}(G:Good K tg F H ρ σ)(q:Res K tg F H ρ σ (.fr l) Q)(h:IsL K F l vs){p:Addr}(hp:H p=none):Q (.ref p) (upd H p (.lst vs)) :=
 q _ _ _ (G.fresh hp _) (G.freshX hp _) ⟨p,vs,rfl,.inl hp,G.freeF hp,dg,h,fun z=>G.own_ne hp z rfl⟩
end
def rOf(K:Fg9)(g:D->D->Option Rv):R2:=fun x y H Q=>∃tg F ρ σ d1 d2 r,Good K tg F H ρ σ/\Bor K F H d1 x/\Bor K F H d2 y/\g d1 d2=some r/\Res K tg F H ρ σ r Q
structure OpD (K:Fg9) (X:Cx) (f:Value->Value->Sem Value) (g:D->D->Option Rv):Prop where
 go:X.K=K->OpR X f (rOf K g)
instance {K:Fg9} {X:Cx} {f:Value->Value->Sem Value} {g:D->D->Option Rv}:CoeFun (OpD K X f g) fun _=>X.K=K->OpR X f (rOf K g):=⟨OpD.go⟩
def mOp(g:D->D->Option Rv)(m:M (D×D)):M Rv:=m.bind fun p=>lift (g p.1 p.2)
theorem ai4{g:D->D->Option Rv}{m:M (D×D)}{ta tb:TE}(h:∀σ H R,T2 K m σ H R->ta σ H fun x H1=>tb σ H1 fun y H2=>R x y H2)(σ:L2.St)(H:Hp)(Q:VK)(t:T K (relR K) (mOp g m) σ H Q):tOp (rOf K g) ta tb σ H Q:=by
 obtain⟨tg,F,ρ,r,ρ',G,em,q⟩:=t;obtain⟨p,ρ1,e1,em⟩:=bf em;obtain⟨e2,rfl⟩:=fu em;refine h σ H _ ⟨tg,F,ρ,p,_,G,e1,fun x y H' F' G' x' bx by'=>⟨tg,F',_,σ,p.1,p.2,r,G',bx,by',e2,fun v H2 F2 G2 x2 rr=>q v H2 F2 G2 (x'.trans x2) ?_⟩⟩
 cases r with
 | v d=>exact rr
 | fr l =>
  obtain⟨a,vs,ev,ha,w⟩:=rr;refine⟨a,vs,ev,?_,w⟩;rcases ha with ha | ha
  ·exact .inl (x'.there a ha)
  ·exact(x'.own a ha).symm
 | tf d l =>
  obtain⟨t,u,a,vs,ev,ht,hd,ha,w⟩:=rr;refine⟨t,u,a,vs,ev,ht,hd,?_,w⟩;rcases ha with ha | ha
  ·exact .inl (x'.there a ha)
  ·exact(x'.own a ha).symm
theorem cz{op:Operator}{g:D->D->Option Rv}{m:M (D×D)}(ho:OpD K X (binaryOp op) g)(h:E2 K X a b m):ER K X (.BinOp a op b pos) (mOp g m):=ER.mk fun hk=>by
 obtain⟨ta,tb,ha,hb,h⟩:=h hk;exact PE.imp (axu (ho hk) ha hb) (ai4 h)
theorem amt{op:CmpOp}{g:D->D->Option Rv}{m:M (D×D)}(ho:OpD K X (compareOp op) g)(h:E2 K X a b m)(hm:behindInMarks op b=false):ER K X (.Compare a [op] [b] pos) (mOp g m):=ER.mk fun hk=>by
 obtain⟨ta,tb,ha,hb,h⟩:=h hk;exact PE.imp (arj (ho hk) ha hb hm) (ai4 h)
def capS:Nat:=16777216
theorem aem{n:Nat}(h:n<=capS):n<=sizeLine:=by rw[sizeLine_eq];exact h
def gAdd:D->D->Option Rv
 | .int i,.int j=>some (.v (.int (i+j)))
 | .tup l,.tup k=>if l.length+k.length<=capS then some (.v (.tup (l++k))) else none
 | .lst l,.lst k=>if l.length+k.length<=capS then some (.fr (l++k)) else none
 | .str i,.str j=>if i.length+j.length<=capS then some (.v (.str (i++j))) else none
 | _,_=>none
theorem jf:OpD K X (binaryOp .Add) gAdd:=OpD.mk fun hk=>by
 intro zv s σ0 H x y v u Q I rx ry ⟨tg,F,ρ,σ,d1,d2,r,G,b1,b2,eg,q⟩;subst hk;unfold gAdd at eg;split at eg
 ·cases eg;obtain rfl:=b1.int;obtain rfl:=b2.int;exact auu zv s σ0 H _ _ v u Q I rx ry ⟨_,_,rfl,rfl,Res.same G q (.int _)⟩
 ·split at eg
  ·rename_i hz;cases eg;obtain⟨a1,vs1,rfl,s1,i1⟩:=b1.tup;obtain⟨a2,vs2,rfl,s2,i2⟩:=b2.tup;have l1:=i1.length;have l2:=i2.length
   by_cases hx:vs1=[]
   ·subst hx;cases i1;cases rx;cases ry;obtain⟨its,r1,p1,_⟩:=I.tuple (SqT.of (G.sub _ _ s1));obtain⟨its2,r2,p2,_⟩:=I.tuple (SqT.of (G.sub _ _ s2));exact aph p1 p2 (r1.nil_iff.mpr rfl) ⟨.ref a2,H,I,rfl,Res.same G q (.tup s2 i2)⟩
   ·refine art zv s σ0 H _ _ v u Q I rx ry ⟨a1,a2,vs1,vs2,rfl,rfl,SqT.of (G.sub _ _ s1),SqT.of (G.sub _ _ s2),hx,by rw[<-l1,<-l2];exact aem hz,fun e =>?_,fun _ p hp=>Res.tup G q (i1.append i2) hp⟩
    subst e;cases i2;exact Res.same G q (.tup s1 (by simpa using i1))
  ·cases eg
 ·split at eg
  ·rename_i hz;cases eg;obtain⟨a1,vs1,rfl,s1,i1⟩:=b1.lst G.sub;obtain⟨a2,vs2,rfl,s2,i2⟩:=b2.lst G.sub;have l1:=i1.length;have l2:=i2.length;exact aut zv s σ0 H _ _ v u Q I rx ry ⟨a1,a2,vs1,vs2,rfl,rfl,s1,s2,by rw[<-l1,<-l2];exact aem hz,fun p hp=>Res.lst G q (i1.append i2) hp⟩
  ·cases eg
 ·split at eg
  ·rename_i hz;cases eg;obtain rfl:=b1.str;obtain rfl:=b2.str;exact ake zv s σ0 H _ _ v u Q I rx ry ⟨_,_,rfl,rfl,aem hz,Res.same G q (.str _)⟩
  ·cases eg
 ·cases eg
def gInt(f:Int->Int->Option Int):D->D->Option Rv
 | .int i,.int j=>(f i j).map fun k=>.v (.int k)
 | _,_=>none
theorem ah9{op:Operator}{f:Int->Int->Option Int}{C:Int->Int->Prop}{g:Int->Int->Int}(h:OpR X (binaryOp op) (rI C fun i j=>.int (g i j)))(hf:∀i j k,f i j=some k->C i j/\k=g i j):OpD K X (binaryOp op) (gInt f):=OpD.mk fun hk=>by
 intro zv s σ0 H x y v u Q I rx ry ⟨tg,F,ρ,σ,d1,d2,r,G,b1,b2,eg,q⟩;unfold gInt at eg;split at eg
 ·rename_i i j;obtain rfl:=b1.int;obtain rfl:=b2.int;cases z:f i j with
  | none=>rw[z] at eg;cases eg
  | some k =>
   rw[z] at eg;cases eg;obtain⟨h1,rfl⟩:=hf i j k z;exact h zv s σ0 H _ _ v u Q I rx ry ⟨_,_,rfl,rfl,h1,Res.same G q (.int _)⟩
 ·cases eg
def fSub(i j:Int):Option Int:=some (i - j)
def fMul(i j:Int):Option Int:=if (-18446744073709551616 < i/\i < 18446744073709551616)∨(-18446744073709551616 < j/\j < 18446744073709551616) then some (i*j) else none
theorem au0{i j:Int}(h0:0 < j)(h:j < 1000000000000000000000000000000000000000000000000000000000000):Builtin.divisionGoesByPylong i j=false:=by
 have e2:(2:Nat) ^ 200=1606938044258990275541962092341162602522202993782792835301376:=by decide +kernel
 have hl:j.natAbs.log2 < 200:=(Nat.log2_lt (by omega)).2 (by rw[e2];omega)
 have hd:¬(j.natAbs.log2 / 30+1 > 300):=by omega
 have hj:(j==0)=false:=by
  rw[beq_eq_false_iff_ne];omega
 unfold Builtin.divisionGoesByPylong;simp only[hj,Bool.false_eq_true,if_false,hd,decide_false,Bool.false_and]
theorem aob:OpR X (binaryOp .FloorDiv) (rI (fun _ j=>0 < j/\j < 1000000000000000000000000000000000000000000000000000000000000) fun i j=>.int (i / j)):=opI fun i j _ _ _ _ _ hc q=>by
 have h1:(0:Int) < j:=hc.1;exact floordiv_int (by omega) (by rw[Int.fdiv_eq_ediv_of_nonneg i (by omega)];exact q) (.inl (au0 hc.1 hc.2))
def fDiv(i j:Int):Option Int:=if 0 < j/\j < 1000000000000000000000000000000000000000000000000000000000000 then some (i / j) else none
def fMod(i j:Int):Option Int:=if 0 < j then some (i % j) else none
def fPow(i j:Int):Option Int:=if 0<=j/\j<=1000000/\i.natAbs < 18446744073709551616 then some (i ^ j.toNat) else none
theorem ql:OpD K X (binaryOp .Sub) (gInt fSub):=OpD.mk fun hk=>by
 intro zv s σ0 H x y v u Q I rx ry ⟨tg,F,ρ,σ,d1,d2,r,G,b1,b2,eg,q⟩;unfold gInt at eg;split at eg
 ·obtain rfl:=b1.int;obtain rfl:=b2.int;cases eg;exact aun zv s σ0 H _ _ v u Q I rx ry ⟨_,_,rfl,rfl,Res.same G q (.int _)⟩
 ·cases eg
end
mutual
def toPy:D->PyData
 | .non=>.none
 | .bl b=>.bool b
 | .int i=>.int i
 | .str x=>.str x
 | .tup l=>.tuple (ab8 l)
 | .lst l=>.list (ab8 l)
 | .kst l=>.list (ab8 l)
 | .dct _=>.dict []
 | .exn _ _=>.dict []
def ab8:List D->List PyData
 | []=>[]
 | d::r=>toPy d::ab8 r
end
def okD:Nat->D->Bool
 | _,.non=>true
 | _,.bl _=>true
 | _,.int _=>true
 | _,.str x=>PyData.strOk x
 | n+1,.tup l=>l.all (okD n)
 | n+1,.lst l=>l.all (okD n)
 | n+1,.kst l=>l.all (okD n)
 | _,_=>false
theorem afy{n:Nat}(ih:∀d,okD n d=true->(toPy d).canLay0=true/\(toPy d).depth<=n):∀l:List D,l.all (okD n)=true->PyData.canLayAll0 (ab8 l)=true/\PyData.depthAll (ab8 l)<=n
 | [],_=>⟨rfl,Nat.zero_le _⟩
 | d::r,h=>by
  rw[List.all_cons,Bool.and_eq_true] at h;obtain⟨h1,h2⟩:=ih d h.1;obtain⟨h3,h4⟩:=afy ih r h.2;refine⟨?_,?_⟩
  ·show(PyData.canLay0 (toPy d)&&PyData.canLayAll0 (ab8 r))=true;rw[h1,h3];rfl
  ·show max (PyData.depth (toPy d)) (PyData.depthAll (ab8 r))<=n;omega
theorem ul:∀(n:Nat) (d:D),okD n d=true->(toPy d).canLay0=true/\(toPy d).depth<=n
 | n,.non,_=>⟨rfl,Nat.zero_le _⟩
 | n,.bl _,_=>⟨rfl,Nat.zero_le _⟩
 | n,.int _,_=>⟨rfl,Nat.zero_le _⟩
 | n,.str x,h=>by
  refine⟨?_,Nat.zero_le _⟩;cases n <;> exact h
 | n+1,.tup l,h=>by
  obtain⟨h1,h2⟩:=afy (ul n) l h;exact⟨h1,Nat.succ_le_succ h2⟩
 | n+1,.lst l,h=>by
  obtain⟨h1,h2⟩:=afy (ul n) l h;exact⟨h1,Nat.succ_le_succ h2⟩
 | n+1,.kst l,h=>by
  obtain⟨h1,h2⟩:=afy (ul n) l h;exact⟨h1,Nat.succ_le_succ h2⟩
 | 0,.tup l,h=>by cases h
 | 0,.lst l,h=>by cases h
 | 0,.kst l,h=>by cases h
 | 0,.dct l,h=>by cases h
 | n+1,.dct l,h=>by cases h
 | 0,.exn _ _,h=>by cases h
 | n+1,.exn _ _,h=>by cases h
def eqD(a b:D):Bool:=PyData.eqv (toPy a) (toPy b)
def eqDs:List D->List D->Bool
 | [],[]=>true
 | a::r,b::t=>eqD a b&&eqDs r t
 | _,_=>false
theorem amu:∀a b:List D,PyData.eqvAll (ab8 a) (ab8 b)=eqDs a b
 | [],[]=>rfl
 | a::r,b::t=>by
  show(PyData.eqv (toPy a) (toPy b)&&PyData.eqvAll (ab8 r) (ab8 t))=_;rw[amu r t];rfl
 | [],_::_=>rfl
 | _::_,[]=>rfl
section
variable{K:Fg9}{X:Cx}
section
variable{zv:List (Addr×Obj)}{σ:L2.St}{F H:Hp}{s:Shared}
mutual
theorem u9(I:Inv X zv σ H s)(g:Same F H):∀{n:Nat} {d:D} {v:V} {u:Value},Is X.K F d v->okD n d=true->RelV v u->∃as,Reads s.heap u (toPy d) as
 | _,_,_,_,.non,_,r=>by cases r;exact⟨_,.none⟩
 | _,_,_,_,.bl b,_,r=>by cases r;exact⟨_,.bool b⟩
 | _,_,_,_,.int i,_,r=>by obtain⟨t,rfl⟩:=r;exact⟨_,.int i t⟩
 | _,_,_,_,.str i,_,r=>by obtain⟨t,rfl⟩:=r;exact⟨_,.str i t⟩
 | 0,_,_,_,.tup e h,k,r=>by cases k
 | n+1,_,_,_,.tup e h,k,r=>by
  cases r;obtain⟨its,rv,p1,_⟩:=I.tuple (SqT.of (g _ _ e));obtain⟨o,ho,hc,m,hd⟩:=p1;obtain⟨as,ra⟩:=aaa I g h k rv;exact⟨_,.tuple ho hc hd (by simpa using ra)⟩
 | 0,_,_,_,.lst e h,k,r=>by cases k
 | n+1,_,_,_,.lst e h,k,r=>by
  cases r;obtain⟨its,rv,p1,_⟩:=I.list (SqL.of (g _ _ e));obtain⟨o,ho,hc,m,hd⟩:=p1.isList;obtain⟨as,ra⟩:=aaa I g h k rv;exact⟨_,.list ho hc hd (by simpa using ra)⟩
 | 0,_,_,_,.kst e h,k,r=>by cases k
 | n+1,_,_,_,.kst e h,k,r=>by
  cases r;obtain⟨its,rv,p1,_⟩:=I.list (L2.Same.seq g e);obtain⟨o,ho,hc,m,hd⟩:=p1.isList;obtain⟨as,ra⟩:=aaa I g h k rv;exact⟨_,.list ho hc hd (by simpa using ra)⟩
 | 0,_,_,_,.dct e h,k,r=>by cases k
 | n+1,_,_,_,.dct e h,k,r=>by cases k
 | 0,_,_,_,.exn ..,k,r=>by cases k
 | n+1,_,_,_,.exn ..,k,r=>by cases k
theorem aaa(I:Inv X zv σ H s)(g:Same F H):∀{n:Nat} {ds:List D} {vs:List V} {us:List Value},IsL X.K F ds vs->ds.all (okD n)=true->Vals vs us->∃as,ReadsAll s.heap us (ab8 ds) as
 | _,_,_,_,.nil,_,r=>by cases r;exact⟨_,.nil⟩
 | n,_,_,_,.cons h t,k,r=>by
  rw[List.all_cons,Bool.and_eq_true] at k;cases r with
  | cons r1 r2 =>
   obtain⟨as,ra⟩:=u9 I g h k.1 r1;obtain⟨bs,rb⟩:=aaa I g t k.2 r2;exact⟨_,.cons ra rb⟩
end
theorem vy(I:Inv X zv σ H s)(g:Same F H){n:Nat}{d:D}{v:V}{u:Value}(h:Bor X.K F H d v)(k:okD n d=true)(r:RelV v u):∃as,Reads s.heap u (toPy d) as:=by
 rcases h with h | ⟨a,vs,l,rfl,rfl,e,h⟩
 ·exact u9 I g h k r
 ·cases r;cases n with
  | zero=>cases k
  | succ n =>
   obtain⟨its,rv,p1,_⟩:=I.list (SqL.of e);obtain⟨o,ho,hc,m,hd⟩:=p1.isList;obtain⟨as,ra⟩:=aaa I g h k rv;exact⟨_,.list ho hc hd (by simpa using ra)⟩
end
def gEq(neg:Bool)(a b:D):Option Rv:=if okD 30 a&&okD 30 b then some (.v (.bl (if neg then !eqD a b else eqD a b))) else none
theorem ady(hu:X.A.units+64 < cLine):OpD K X (compareOp .Eq) (gEq false):=OpD.mk fun hk=>by
 intro zv s σ0 H x y v u Q I rx ry ⟨tg,F,ρ,σ,d1,d2,r,G,b1,b2,eg,q⟩;subst hk;unfold gEq at eg;split at eg
 ·rename_i ho;rw[Bool.and_eq_true] at ho;cases eg;obtain⟨as,ra⟩:=vy I G.sub b1 ho.1 rx;obtain⟨bs,rb⟩:=vy I G.sub b2 ho.2 ry;obtain⟨c1,p1⟩:=ul _ _ ho.1;obtain⟨c2,p2⟩:=ul _ _ ho.2;exact PySem.SeqAt.compareEq_reads ra rb c1 c2 (by omega) ⟨.bl _,H,I,rfl,Res.same G q (.bl _)⟩
 ·cases eg
theorem adw(hu:X.A.units+64 < cLine):OpD K X (compareOp .NotEq) (gEq true):=OpD.mk fun hk=>by
 intro zv s σ0 H x y v u Q I rx ry ⟨tg,F,ρ,σ,d1,d2,r,G,b1,b2,eg,q⟩;subst hk;unfold gEq at eg;split at eg
 ·rename_i ho;rw[Bool.and_eq_true] at ho;cases eg;obtain⟨as,ra⟩:=vy I G.sub b1 ho.1 rx;obtain⟨bs,rb⟩:=vy I G.sub b2 ho.2 ry;obtain⟨c1,p1⟩:=ul _ _ ho.1;obtain⟨c2,p2⟩:=ul _ _ ho.2;exact PySem.SeqAt.compareNe_reads ra rb c1 c2 (by omega) ⟨.bl _,H,I,rfl,Res.same G q (.bl _)⟩
 ·cases eg
def bz:D->Option (List D)
 | .tup l=>some l
 | .lst l=>some l
 | .kst l=>some l
 | _=>none
open Classical in
noncomputable def agc(h:Heap)(dx:PyData)(u:Value):Bool:=decide (∃d as,Reads h u d as/\d.canLay0=true/\PyData.eqv d dx=true)
open Classical in
theorem adf{h:Heap}{dx d:PyData}{u:Value}{as:List Addr}(r:Reads h u d as)(c:d.canLay0=true):agc h dx u=PyData.eqv d dx:=by
 unfold agc;cases e:PyData.eqv d dx with
 | true=>exact decide_eq_true ⟨d,as,r,c,e⟩
 | false =>
  refine decide_eq_false ?_
  rintro⟨d',as',r',c',e'⟩
  rw[<-PySem.SeqAt.Reads.unique d d' u as as' c r r'] at e';rw[e] at e';cases e'
theorem ab7{zv:List (Addr×Obj)}{σ:L2.St}{F H:Hp}{s:Shared}(I:Inv X zv σ H s)(g:Same F H){a:D}{n:Nat}:∀{ds:List D} {vs:List V} {us:List Value},IsL X.K F ds vs->ds.all (okD n)=true->Vals vs us ->
  us.any (agc s.heap (toPy a))=ds.any (fun y=>eqD y a)/\∀u∈us,∃d as,Reads s.heap u d as/\d.canLay0=true/\d.depth<=n
 | _,_,_,.nil,_,r=>by cases r;exact⟨rfl,fun u hu=>by cases hu⟩
 | _,_,_,.cons h t,k,r=>by
  rw[List.all_cons,Bool.and_eq_true] at k;cases r with
  | cons r1 r2 =>
   obtain⟨as,ra⟩:=u9 I g h k.1 r1;obtain⟨c,p⟩:=ul _ _ k.1;obtain⟨e,z⟩:=ab7 I g (a:=a) t k.2 r2;refine⟨?_,fun u hu =>?_⟩
   ·rw[List.any_cons,List.any_cons,e,adf ra c];rfl
   ·rcases List.mem_cons.mp hu with rfl | hu
    ·exact⟨_,as,ra,c,p⟩
    ·exact z u hu
theorem acp{s:Shared}{A:Around}(hu:A.units+64 < cLine){us:List Value}{a:D}{v:Value}{as:List Addr}(ra:Reads s.heap v (toPy a) as)(ka:okD 30 a=true)(z:∀u∈us,∃d as,Reads s.heap u d as/\d.canLay0=true/\d.depth<=30) :
  ∀u∈us,SeqAt.EqAt A.in1 s u v (agc s.heap (toPy a) u):=fun u hm=>by
 obtain⟨d,bs,rb,c,p⟩:=z u hm;obtain⟨c2,p2⟩:=ul _ _ ka;rw[adf rb c];refine PySem.SeqAt.eqAt_reads d (toPy a) A.in1 s u v bs as rb ra c c2 ?_;show A.units+1+_ < _;omega
theorem ah4{F H:Hp}{d:D}{l:List D}{x:V}(g:Same F H)(e:bz d=some l)(h:Bor K F H d x):∃a vs,x=.ref a/\IsL K F l vs/\(SqL K H a vs∨SqT K H a vs):=by
 cases d with
 | tup k =>
  cases e;obtain⟨a,vs,rfl,e,h⟩:=h.tup;exact⟨a,vs,rfl,h,.inr (SqT.of (g _ _ e))⟩
 | lst k =>
  cases e;obtain⟨a,vs,rfl,e,h⟩:=h.lst g;exact⟨a,vs,rfl,h,.inl (SqL.of e)⟩
 | kst k =>
  cases e;obtain⟨a,vs,rfl,e,h⟩:=h.kst;exact⟨a,vs,rfl,h,.inl (L2.Same.seq g e)⟩
 | _=>cases e
end
end Dn
namespace Dn
open L2 Mn
section
variable{K:Fg9}{X:Cx}{e a b c:Expr}{es:List Expr}{pos p:Pos}
theorem als:OpD K X (binaryOp .FloorDiv) (gInt fDiv):=ah9 aob fun i j k h=>by
 unfold fDiv at h;split at h
 ·cases h;exact⟨by assumption,rfl⟩
 ·cases h
theorem aac:OpD K X (binaryOp .Mod) (gInt fMod):=ah9 aur fun i j k h=>by
 unfold fMod at h;split at h
 ·cases h;exact⟨by assumption,rfl⟩
 ·cases h
theorem alr:OpD K X (binaryOp .Pow) (gInt fPow):=ah9 aup fun i j k h=>by
 unfold fPow at h;split at h
 ·rename_i hc;cases h;exact⟨⟨hc.1,hc.2.1,hc.2.2⟩,rfl⟩
 ·cases h
def gMul:D->D->Option Rv
 | .int i,.int j=>(fMul i j).map fun k=>.v (.int k)
 | .tup l,.int k=>if k=1 then some (.v (.tup l)) else if l≠[]/\2<=k/\k < 9223372036854775808/\l.length*k.toNat<=capS then some (.v (.tup (List.replicate k.toNat l).flatten)) else none
 | .lst l,.int k=>if k.natAbs < 9223372036854775808/\l.length*k.toNat<=capS then some (.fr (List.replicate k.toNat l).flatten) else none
 | _,_=>none
theorem adx:OpD K X (binaryOp .Mult) gMul:=OpD.mk fun hk=>by
 intro zv s σ0 H x y v u Q I rx ry ⟨tg,F,ρ,σ,d1,d2,r,G,b1,b2,eg,q⟩;subst hk;unfold gMul at eg;split at eg
 ·rename_i i j;obtain rfl:=b1.int;obtain rfl:=b2.int;unfold fMul at eg;split at eg
  ·rename_i hc;cases eg;exact auq zv s σ0 H _ _ v u Q I rx ry ⟨_,_,rfl,rfl,hc,Res.same G q (.int _)⟩
  ·cases eg
 ·rename_i l k;split at eg
  ·rename_i hk1;subst hk1;cases eg;obtain⟨a1,vs1,rfl,s1,i1⟩:=b1.tup;obtain rfl:=b2.int;exact ars zv s σ0 H _ _ v u Q I rx ry ⟨a1,vs1,rfl,rfl,G.sub _ _ s1,Res.same G q (.tup s1 i1)⟩
  split at eg
  ·rename_i hc;obtain⟨h0,h2,h3,hz⟩:=hc;cases eg;obtain⟨a1,vs1,rfl,s1,i1⟩:=b1.tup;obtain rfl:=b2.int;have l1:=i1.length;refine aoa zv s σ0 H _ _ v u Q I rx ry ⟨a1,vs1,k,rfl,rfl,G.sub _ _ s1,?_,h2,h3,by rw[<-l1];exact aem hz,fun p hp=>Res.tup G q (i1.rep _) hp⟩
   intro z;subst z;cases i1;exact h0 rfl
  ·cases eg
 ·rename_i l k;split at eg
  ·rename_i hc;obtain⟨hab,hz⟩:=hc;have h0 : -9223372036854775808<=k:=by omega
   have h2:k < 9223372036854775808:=by omega
   cases eg;obtain⟨a1,vs1,rfl,s1,i1⟩:=b1.lst G.sub;obtain rfl:=b2.int;have l1:=i1.length;exact auo zv s σ0 H _ _ v u Q I rx ry ⟨a1,k,vs1,rfl,rfl,s1,h0,h2,by rw[<-l1];exact aem hz,fun p hp=>Res.lst G q (i1.rep _) hp⟩
  ·cases eg
 ·cases eg
def gCmp(f:Int->Int->Bool):D->D->Option Rv
 | .int i,.int j=>some (.v (.bl (f i j)))
 | _,_=>none
theorem aia{op:CmpOp}{f:Int->Int->Bool}(h:OpR X (compareOp op) (rI0 fun i j=>.bl (f i j))):OpD K X (compareOp op) (gCmp f):=OpD.mk fun hk=>by
 intro zv s σ0 H x y v u Q I rx ry ⟨tg,F,ρ,σ,d1,d2,r,G,b1,b2,eg,q⟩;unfold gCmp at eg;split at eg
 ·cases eg;obtain rfl:=b1.int;obtain rfl:=b2.int;exact h zv s σ0 H _ _ v u Q I rx ry ⟨_,_,rfl,rfl,Res.same G q (.bl _)⟩
 ·cases eg
theorem aul:OpD K X (compareOp .Lt) (gCmp fun i j=>decide (i < j)):=aia aus
theorem aum:OpD K X (compareOp .Gt) (gCmp fun i j=>decide (j < i)):=aia axy
theorem ai3:OpD K X (compareOp .GtE) (gCmp fun i j=>decide (j<=i)):=aia axz
def gNeg:D->Option D
 | .int i=>some (.int (-i))
 | _=>none
def mUn(g:D->Option D)(m:M D):M D:=m.bind fun d=>lift (g d)
theorem aed{m:M D}(h:EV K X a m):EV K X (.UnaryOp .USub a pos) (mUn gNeg m):=EV.mk fun hk=>PE.imp (axt ath (h hk)) fun σ H Q z9=>by
 obtain⟨tg,F,ρ,d,ρ',G,em,q⟩:=z9;obtain⟨d1,ρ1,e1,em⟩:=bf em;obtain⟨e2,rfl⟩:=fu em;refine⟨tg,F,ρ,d1,_,G,e1,fun v H' F' G' x r =>?_⟩
 cases d1 with
 | int i =>
  cases e2;cases r;exact⟨i,rfl,q _ H' F' G' x (.int _)⟩
 | _=>cases e2
def asB:D->Option Bool
 | .bl b=>some b
 | _=>none
def gNot(d:D):Option D:=(asB d).map fun k=>.bl (!k)
theorem ajz{d:D}{k:Bool}(h:asB d=some k):d=.bl k:=by
 cases d with
 | bl b=>cases h;rfl
 | _=>cases h
theorem amo{m:M D}(h:EV K X a m):EV K X (.UnaryOp .Not a pos) (mUn gNot m):=EV.mk fun hk=>PE.imp (aud (h hk)) fun σ H Q z9=>by
 obtain⟨tg,F,ρ,d,ρ',G,em,q⟩:=z9;obtain⟨d1,ρ1,e1,em⟩:=bf em;obtain⟨e2,rfl⟩:=fu em;refine⟨tg,F,ρ,d1,_,G,e1,fun v H' F' G' x r =>?_⟩
 cases d1 with
 | bl i =>
  cases e2;cases r;exact⟨i,rfl,q _ H' F' G' x (.bl _)⟩
 | _=>cases e2
def mAnd(m1 m2:M D):M D:=m1.bind fun d=>(lift (asB d)).bind fun k=>if k=true then m2 else ret (.bl false)
theorem ae4{op}{m:M D}(h:EV K X a m):EV K X (.BoolOp op [a] pos) m:=EV.mk fun hk=>auc (h hk)
theorem ae6{m1 m2:M D}{rest:List Expr}(h1:EV K X a m1)(h2:EV K X (.BoolOp .And (b::rest) pos) m2):EV K X (.BoolOp .And (a::b::rest) pos) (mAnd m1 m2):=EV.mk fun hk=>PE.imp (auk (h1 hk) (h2 hk)) fun σ H Q z9=>by
 obtain⟨tg,F,ρ,d,ρ',G,em,q⟩:=z9;obtain⟨d1,ρ1,e1,em⟩:=bf em;obtain⟨k,ρ2,e2,em⟩:=bf em;obtain⟨e3,rfl⟩:=fu e2;obtain rfl:=ajz e3;refine⟨tg,F,ρ,_,_,G,e1,fun v H' F' G' x r =>?_⟩
 cases r;refine⟨k,rfl,?_⟩;cases k with
 | true=>exact iteT ⟨tg,F',_,d,ρ',G',em,fun v2 H2 F2 G2 x2 r2=>q v2 H2 F2 G2 (x.trans x2) r2⟩
 | false =>
  obtain⟨rfl,rfl⟩:=jt (show ret (D.bl false) _=_ from em)
  exact iteF (q _ H' F' G' x (.bl _))
def TB(K:Fg9)(m:M Bool):TT:=fun σ H Q=>∃tg F ρ k ρ',Good K tg F H ρ σ/\m ρ=some (.ok k,ρ')/\∀H' F',Good K tg F' H' ρ' σ->Ext (Own ρ σ) (Own ρ' σ) F H F' H'->Q k H'
structure ET (K:Fg9) (X:Cx) (e:Expr) (m:M Bool):Prop where
 go:X.K=K->PT X e (TB K m)
instance {K:Fg9} {X:Cx} {e:Expr} {m:M Bool}:CoeFun (ET K X e m) fun _=>X.K=K->PT X e (TB K m):=⟨ET.go⟩
structure EW (K:Fg9) (X:Cx) (e:Expr) (m:M Bool):Prop where
 go:X.K=K->PW X e (TB K m)
instance {K:Fg9} {X:Cx} {e:Expr} {m:M Bool}:CoeFun (EW K X e m) fun _=>X.K=K->PW X e (TB K m):=⟨EW.go⟩
theorem PT.imp{t t':TT}(h:PT X e t)(w:∀σ H Q,t' σ H Q->t σ H Q):PT X e t':=fun zv s σ H Q I q=>h zv s σ H Q I (w σ H Q q)
theorem PW.imp{t t':TT}(h:PW X e t)(w:∀σ H Q,t' σ H Q->t σ H Q):PW X e t':=fun wh zv s σ H Q I q=>h wh zv s σ H Q I (w σ H Q q)
theorem EW.pt{m:M Bool}(h:EW K X e m):ET K X e m:=ET.mk fun hk=>(h hk).pt
def uo(m:M D):M Bool:=m.bind fun d=>lift (asB d)
theorem ano{m:M D}(σ:L2.St)(H:Hp)(Q:Bool->Hp->Prop)(t:TB K (uo m) σ H Q):tB (T K (relD K) m) σ H Q:=by
 obtain⟨tg,F,ρ,k,ρ',G,em,q⟩:=t;obtain⟨d1,ρ1,e1,em⟩:=bf em;obtain⟨e3,rfl⟩:=fu em;obtain rfl:=ajz e3;refine⟨tg,F,ρ,_,_,G,e1,fun v H' F' G' x r =>?_⟩
 cases r;exact⟨k,rfl,q H' F' G' x⟩
theorem lr{m:M D}(h:EV K X e m)(he:∀whole,isTrue e X.env whole=(do let v <-whole;standAt e.pos;holding [v] (truthy v)):=by intro _;rfl):ET K X e (uo m):=ET.mk fun hk=>PT.imp (at4 (h hk) he) ano
def um(g:D->D->Option Rv)(m:M (D×D)):M Bool:=uo (mOp g m).d
theorem qt{op:CmpOp}{g:D->D->Option Rv}{m:M (D×D)}(ho:OpD K X (compareOp op) g)(h:E2 K X a b m)(hm:behindInMarks op b=false):ET K X (.Compare a [op] [b] pos) (um g m):=ET.mk fun hk=>by
 obtain⟨ta,tb,ha,hb,h⟩:=h hk;refine PT.imp (aq1 (ho hk) ha hb hm) fun σ H Q t =>?_
 obtain⟨tg,F,ρ,k,ρ',G,em,q⟩:=t;obtain⟨d1,ρ1,e1,em⟩:=bf em;obtain⟨e3,rfl⟩:=fu em;obtain rfl:=ajz e3;obtain⟨r,ρ2,e1,em⟩:=bf e1;obtain⟨er,rfl⟩:=jt em;refine ai4 h σ H _ ⟨tg,F,ρ,r,_,G,e1,fun v H' F' G' x w =>?_⟩
 cases r with
 | v d =>
  have er:d=.bl k:=er;subst er;have w:Is K F' (.bl k) v:=w;cases w;exact⟨k,rfl,q H' F' G' x⟩
 | fr l=>cases er
 | tf d l=>cases er
def yc(m:M Bool):M Bool:=m.bind fun k=>ret (!k)
theorem kj{m:M Bool}(h:ET K X a m):ET K X (.UnaryOp .Not a pos) (yc m):=ET.mk fun hk=>PT.imp (at5 (h hk)) fun σ H Q z9=>by
 obtain⟨tg,F,ρ,k,ρ',G,em,q⟩:=z9;obtain⟨d1,ρ1,e1,em⟩:=bf em;obtain⟨rfl,rfl⟩:=jt em;exact⟨tg,F,ρ,d1,_,G,e1,fun H' F' G' x=>q H' F' G' x⟩
def mOrB(m1 m2:M Bool):M Bool:=m1.bind fun k=>if k=true then ret true else m2
theorem w6{m:M Bool}(h:ET K X a m):EW K X (.BoolOp .Or [a] pos) m:=EW.mk fun hk=>aty (h hk)
theorem abh{m1 m2:M Bool}{rest:List Expr}(h1:ET K X a m1)(h2:EW K X (.BoolOp .Or (b::rest) pos) m2):EW K X (.BoolOp .Or (a::b::rest) pos) (mOrB m1 m2):=EW.mk fun hk=>PW.imp (axp (h1 hk) (h2 hk)) fun σ H Q z9=>by
 obtain⟨tg,F,ρ,d,ρ',G,em,q⟩:=z9;obtain⟨k,ρ1,e1,em⟩:=bf em;refine⟨tg,F,ρ,k,_,G,e1,fun H' F' G' x =>?_⟩
 cases k with
 | false=>exact iteF ⟨tg,F',_,d,ρ',G',em,fun H2 F2 G2 x2=>q H2 F2 G2 (x.trans x2)⟩
 | true =>
  obtain⟨rfl,rfl⟩:=jt (show ret true _=_ from em)
  exact iteT (q H' F' G' x)
def ad0(f g:Int->Int->Bool)(m1 m2 m3:M D):M D:=m1.bind fun x=>m2.bind fun y=>match x,y with
 | .int i,.int j=>if f i j=true then m3.bind fun z=>match z with
  | .int k=>ret (.bl (g j k))
  | _=>lift none
  else ret (.bl false)
 | _,_=>lift none
theorem ahi{f g:Int->Int->Bool}{m1 m2 m3:M D}(σ:L2.St)(H:Hp)(Q:VK)(t:T K (relD K) (ad0 f g m1 m2 m3) σ H Q) :
  ak7 (rI0 fun i j=>.bl (f i j)) (rI0 fun i j=>.bl (g i j)) (T K (relD K) m1) (T K (relD K) m2) (T K (relD K) m3) σ H Q:=by
 obtain⟨tg,F,ρ,d,ρ',G,em,q⟩:=t;obtain⟨d1,ρ1,e1,em⟩:=bf em;obtain⟨d2,ρ2,e2,em⟩:=bf em;have bad:∀{ρ:Ro},(lift (none:Option D)) ρ=some (.ok d,ρ')->False:=fun z=>by
  obtain⟨z,_⟩:=fu z;cases z
 cases d1 with
 | int i =>
  cases d2 with
  | int j =>
   refine⟨tg,F,ρ,_,ρ1,G,e1,fun v H1 F1 G1 x1 r1=>⟨tg,F1,ρ1,_,ρ2,G1,e2,fun v2 H2 F2 G2 x2 r2 =>?_⟩⟩
   cases r1;cases r2;refine⟨i,j,rfl,rfl,f i j,rfl,?_⟩;have em:(if f i j=true then m3.bind fun z=>match z with
    | .int k=>ret (.bl (g j k))
    | _=>lift none
    else ret (.bl false)) ρ2=some (.ok d,ρ'):=em
   by_cases hf:f i j=true
   ·rw[if_pos hf] at em ⊢
    obtain⟨d3,ρ3,e3,em⟩:=bf em;refine⟨tg,F2,ρ2,d3,ρ3,G2,e3,fun v3 H3 F3 G3 x3 r3 =>?_⟩
    cases d3 with
    | int k =>
     obtain⟨rfl,rfl⟩:=jt (show ret (D.bl (g j k)) _=_ from em)
     cases r3;exact⟨j,k,rfl,rfl,q _ H3 F3 G3 ((x1.trans x2).trans x3) (.bl _)⟩
    | _=>exact(bad em).elim
   ·rw[if_neg hf] at em ⊢
    obtain⟨rfl,rfl⟩:=jt em;exact q _ H2 F2 G2 (x1.trans x2) (.bl _)
  | _=>exact(bad em).elim
 | _=>cases d2 <;> exact(bad em).elim
theorem ajn{op op':CmpOp}{f g:Int->Int->Bool}{m1 m2 m3:M D}(ho:OpR X (compareOp op) (rI0 fun i j=>.bl (f i j)))(ho':OpR X (compareOp op') (rI0 fun i j=>.bl (g i j)))(h1:EV K X a m1)(h2:EV K X b m2)(h3:EV K X c m3)
  (hm:lastMarks [op,op'] [b,c]=false:=by with_unfolding_all rfl):EV K X (.Compare a [op,op'] [b,c] pos) (ad0 f g m1 m2 m3):=EV.mk fun hk=>PE.imp (an6 ho ho' (h1 hk) (h2 hk) (h3 hk) hm) ahi
theorem ao7{op op':CmpOp}{f g:Int->Int->Bool}{m1 m2 m3:M D}(ho:OpR X (compareOp op) (rI0 fun i j=>.bl (f i j)))(ho':OpR X (compareOp op') (rI0 fun i j=>.bl (g i j)))(h1:EV K X a m1)(h2:EV K X b m2)(h3:EV K X c m3)
  (hm:lastMarks [op,op'] [b,c]=false:=by with_unfolding_all rfl):ET K X (.Compare a [op,op'] [b,c] pos) (uo (ad0 f g m1 m2 m3)):=ET.mk fun hk=>PT.imp (an0 ho ho' (h1 hk) (h2 hk) (h3 hk) hm) fun σ H Q t=>by
 obtain⟨tg,F,ρ,k,ρ',G,em,q⟩:=t;obtain⟨d1,ρ1,e1,em⟩:=bf em;obtain⟨e3,rfl⟩:=fu em;obtain rfl:=ajz e3;refine ahi σ H _ ⟨tg,F,ρ,_,_,G,e1,fun v H' F' G' x r =>?_⟩
 cases r;exact⟨k,rfl,q H' F' G' x⟩
end
section
variable{K:Fg9}{X:Cx}{e a b c:Expr}{es:List Expr}{pos p p2:Pos}
def TL(K:Fg9)(m:M (List D)):TA:=fun σ H Q=>∃tg F ρ ds ρ',Good K tg F H ρ σ/\m ρ=some (.ok ds,ρ')/\∀vs H' F',Good K tg F' H' ρ' σ->Ext (Own ρ σ) (Own ρ' σ) F H F' H'->IsL K F' ds vs->Q vs H'
structure ED (K:Fg9) (X:Cx) (es:List Expr) (m:M (List D)):Prop where
 go:X.K=K->PA X es (TL K m)
instance {K:Fg9} {X:Cx} {es:List Expr} {m:M (List D)}:CoeFun (ED K X es m) fun _=>X.K=K->PA X es (TL K m):=⟨ED.go⟩
theorem PA.imp{t t':TA}(h:PA X es t)(w:∀σ H Q,t' σ H Q->t σ H Q):PA X es t':=fun ps zv s σ H Q I q=>h ps zv s σ H Q I (w σ H Q q)
def mNil:M (List D):=ret []
def bc(m:M D)(ms:M (List D)):M (List D):=m.bind fun d=>ms.bind fun ds=>ret (d::ds)
theorem bj:ED K X [] mNil:=ED.mk fun _=>PA.imp abu fun σ H Q z9=>by
 obtain⟨tg,F,ρ,ds,ρ',G,em,q⟩:=z9;obtain⟨rfl,rfl⟩:=jt em;exact q [] H F G (Ext.refl _ _ _) .nil
theorem aj{m:M D}{ms:M (List D)}(h:EV K X e m)(t:ED K X es ms)(hs:starEach (e::es) X.env=(false,eval e X.env)::starEach es X.env:=by rfl):ED K X (e::es) (bc m ms):=ED.mk fun hk=>PA.imp (jy (h hk) (t hk) hs) fun σ H Q z9=>by
 obtain⟨tg,F,ρ,ds,ρ',G,em,q⟩:=z9;obtain⟨d,ρ1,e1,em⟩:=bf em;obtain⟨r,ρ2,e2,em⟩:=bf em;obtain⟨rfl,rfl⟩:=jt em;exact⟨tg,F,ρ,d,ρ1,G,e1,fun v H1 F1 G1 x1 r1=>⟨tg,F1,ρ1,r,_,G1,e2,fun vs H2 F2 G2 x2 r2=>q _ H2 F2 G2 (x1.trans x2) (.cons (r1.mono x2.sub) r2)⟩⟩
def gTup(ds:List D):Option D:=if ds.length<=capS then some (.tup ds) else none
def gLst(ds:List D):Option Rv:=if ds.length<=capS then some (.fr ds) else none
def mTup(m:M (List D)):M D:=m.bind fun ds=>lift (gTup ds)
def mLst(m:M (List D)):M Rv:=m.bind fun ds=>lift (gLst ds)
theorem lq{k}{m:M (List D)}(h:ED K X es m):EV K X (.Tuple es k pos) (mTup m):=EV.mk fun hk=>PE.imp (apv (h hk)) fun σ H Q z9=>by
 obtain⟨tg,F,ρ,d,ρ',G,em,q⟩:=z9;obtain⟨ds,ρ1,e1,em⟩:=bf em;obtain⟨e2,rfl⟩:=fu em;unfold gTup at e2;split at e2
 ·rename_i hz;cases e2;refine⟨tg,F,ρ,ds,_,G,e1,fun vs H1 F1 G1 x1 r1=>⟨by rw[<-r1.length];exact aem hz,fun p hp=>q _ _ _ (G1.new hp _) (x1.trans (G1.newX hp _)) (.tup dg (r1.mono (Same.new (G1.freeF hp) _)))⟩⟩
 ·cases e2
theorem gw{m:M (List D)}(h:ED K X es m):ER K X (.List es pos) (mLst m):=ER.mk fun hk=>PE.imp (auf (h hk)) fun σ H Q z9=>by
 obtain⟨tg,F,ρ,d,ρ',G,em,q⟩:=z9;obtain⟨ds,ρ1,e1,em⟩:=bf em;obtain⟨e2,rfl⟩:=fu em;unfold gLst at e2;split at e2
 ·rename_i hz;cases e2;refine⟨tg,F,ρ,ds,_,G,e1,fun vs H1 F1 G1 x1 r1=>⟨by rw[<-r1.length];exact aem hz,fun p hp=>q _ _ _ (G1.fresh hp _) (x1.trans (G1.freshX hp _)) ⟨p,vs,rfl,.inl (x1.there p hp),G1.freeF hp,dg,r1,fun z=>G1.own_ne hp z rfl⟩⟩⟩
 ·cases e2
theorem ao6{x:Str}{n:Int}{j1 j2:Nat}{p1 p2:Pos}:EV K X (.Dict [some (.Constant (.str x) j1 p1)] [.Constant (.int n) j2 p2] pos) (ret (.dct [(Sum.inr x,.int n)])):=EV.mk fun _=>PE.imp an5 fun σ H Q z9=>by
 obtain⟨tg,F,ρ,d,ρ',G,em,q⟩:=z9;obtain⟨rfl,rfl⟩:=jt em;exact fun p hp=>q _ _ _ (G.new hp _) (G.newX hp _) (.dct dg (.cons (.int n) .nil))
inductive BorL (K:Fg9) (F H:Hp):List D->List V->Prop
 | nil:BorL K F H [] []
 | cons {d:D} {v:V} {ds:List D} {vs:List V} (h:Bor K F H d v) (t:BorL K F H ds vs):BorL K F H (d::ds) (v::vs)
def TA'(K:Fg9)(m:M (List D)):TA:=fun σ H Q=>∃tg F ρ ds ρ',Good K tg F H ρ σ/\m ρ=some (.ok ds,ρ')/\∀vs H' F',Good K tg F' H' ρ' σ->Ext (Own ρ σ) (Own ρ' σ) F H F' H'->BorL K F' H' ds vs->Q vs H'
structure EA (K:Fg9) (X:Cx) (es:List Expr) (m:M (List D)):Prop where
 go:X.K=K->PA X es (TA' K m)
instance {K:Fg9} {X:Cx} {es:List Expr} {m:M (List D)}:CoeFun (EA K X es m) fun _=>X.K=K->PA X es (TA' K m):=⟨EA.go⟩
def dw(i:Nat)(ms:M (List D)):M (List D):=(di i).bind fun _=>ms.bind fun ds=>(di i).bind fun d=>ret (d::ds)
theorem dq:EA K X [] mNil:=EA.mk fun _=>PA.imp abu fun σ H Q z9=>by
 obtain⟨tg,F,ρ,ds,ρ',G,em,q⟩:=z9;obtain⟨rfl,rfl⟩:=jt em;exact q [] H F G (Ext.refl _ _ _) .nil
theorem ea_v{m:M D}{ms:M (List D)}(h:EV K X e m)(t:EA K X es ms)(hs:starEach (e::es) X.env=(false,eval e X.env)::starEach es X.env:=by rfl):EA K X (e::es) (bc m ms):=EA.mk fun hk=>PA.imp (jy (h hk) (t hk) hs) fun σ H Q z9=>by
 obtain⟨tg,F,ρ,ds,ρ',G,em,q⟩:=z9;obtain⟨d,ρ1,e1,em⟩:=bf em;obtain⟨r,ρ2,e2,em⟩:=bf em;obtain⟨rfl,rfl⟩:=jt em;exact⟨tg,F,ρ,d,ρ1,G,e1,fun v H1 F1 G1 x1 r1=>⟨tg,F1,ρ1,r,_,G1,e2,fun vs H2 F2 G2 x2 r2=>q _ H2 F2 G2 (x1.trans x2) (.cons (.inl (r1.mono x2.sub)) r2)⟩⟩
theorem ea_n{i:Nat}{ms:M (List D)}(h:PE X e (tVar i))(t:EA K X es ms)(hs:starEach (e::es) X.env=(false,eval e X.env)::starEach es X.env:=by rfl):EA K X (e::es) (dw i ms):=EA.mk fun hk=>PA.imp (jy h (t hk) hs) fun σ H Q z9=>by
 obtain⟨tg,F,ρ,ds,ρ',G,em,q⟩:=z9;obtain⟨d0,ρ0,e0,em⟩:=bf em;obtain⟨r,ρ2,e2,em⟩:=bf em;obtain⟨d,ρ1,e1,em⟩:=bf em;obtain⟨rfl,rfl⟩:=jt em;obtain⟨rfl,v,hv,_⟩:=j7 G e0;exact⟨v,hv,tg,F,ρ0,r,_,G,e2,fun vs H2 F2 G2 x2 r2=>by
  obtain⟨rfl,v',hv',b'⟩:=j7 G2 e1;rw[hv] at hv';cases hv';exact q _ H2 F2 G2 x2 (.cons b' r2)⟩
def rcOf(K:Fg9)(g:List D->Option Rv):List V->Hp->VK->Prop:=fun vs H Q=>∃tg F ρ σ ds r,Good K tg F H ρ σ/\BorL K F H ds vs/\g ds=some r/\Res K tg F H ρ σ r Q
structure CallD (K:Fg9) (X:Cx) (f:Value) (g:List D->Option Rv):Prop where
 go:X.K=K->acu X f (rcOf K g)
instance {K:Fg9} {X:Cx} {f:Value} {g:List D->Option Rv}:CoeFun (CallD K X f g) fun _=>X.K=K->acu X f (rcOf K g):=⟨CallD.go⟩
def jc(g:List D->Option Rv)(m:M (List D)):M Rv:=m.bind fun ds=>lift (g ds)
theorem qj{O O1 O2:Addr->Prop}{F H F1 H1 F2 H2:Hp}{r:Rv}{v:V}(x:Ext O O1 F H F1 H1)(h:relR K r v H1 O1 F2 H2 O2):relR K r v H O F2 H2 O2:=by
 cases r with
 | v d=>exact h
 | fr l =>
  obtain⟨a,vs,ev,ha,w⟩:=h;refine⟨a,vs,ev,?_,w⟩;rcases ha with ha | ha
  ·exact .inl (x.there a ha)
  ·exact(x.own a ha).symm
 | tf d l =>
  obtain⟨t,u,a,vs,ev,ht,hd,ha,w⟩:=h;refine⟨t,u,a,vs,ev,ht,hd,?_,w⟩;rcases ha with ha | ha
  ·exact .inl (x.there a ha)
  ·exact(x.own a ha).symm
theorem ajv{g:List D->Option Rv}{m:M (List D)}(σ:L2.St)(H:Hp)(Q:VK)(t:T K (relR K) (jc g m) σ H Q):tCB (rcOf K g) (TA' K m) σ H Q:=by
 obtain⟨tg,F,ρ,r,ρ',G,em,q⟩:=t;obtain⟨ds,ρ1,e1,em⟩:=bf em;obtain⟨e2,rfl⟩:=fu em;exact⟨tg,F,ρ,ds,_,G,e1,fun vs H' F' G' x' bl=>⟨tg,F',_,σ,ds,r,G',bl,e2,fun v H2 F2 G2 x2 rr=>q v H2 F2 G2 (x'.trans x2) (qj x' rr)⟩⟩
section
variable{x:Str}{id Ty:String}{g:List D->Option Rv}{m:M (List D)}
theorem dj(hc:CallD K X (.builtin id) g)(hg:Gl X x)(hm:X.mg x=none)(hv:bootBuiltins x=some (.builtin id))(ha:EA K X (e::es) m)(hn:x ≠ "__name__" := by decide)(hdb:(x==("__debug__" : Str))=false:=by decide)
  (he:starEach (e::es) X.env=(false,eval e X.env)::starEach es X.env:=by rfl) (hpl:(backTo pos (starEach es X.env)).any (·.1)=false:=by rfl):ER K X (.Call (.Name x p) (e::es) [] pos) (jc g m):=ER.mk fun hk=>PE.imp (adc (hc hk) hg hm hv (ha hk) hn hdb he hpl) ajv
theorem ik(hc:CallD K X (.type Ty) g)(hg:Gl X x)(hm:X.mg x=none)(hv:bootBuiltins x=some (.type Ty))(ha:EA K X (e::es) m)(hn:x ≠ "__name__" := by decide)(hdb:(x==("__debug__" : Str))=false:=by decide)
  (he:starEach (e::es) X.env=(false,eval e X.env)::starEach es X.env:=by rfl) (hpl:(backTo pos (starEach es X.env)).any (·.1)=false:=by rfl):ER K X (.Call (.Name x p) (e::es) [] pos) (jc g m):=ER.mk fun hk=>PE.imp (alp (hc hk) hg hm hv (ha hk) hn hdb he hpl) ajv
end
theorem BorL.one{F H:Hp}{d:D}{vs:List V}(h:BorL K F H [d] vs):∃v,vs=[v]/\Bor K F H d v:=by
 cases h with
 | cons h t=>cases t;exact⟨_,rfl,h⟩
theorem BorL.two{F H:Hp}{d d':D}{vs:List V}(h:BorL K F H [d,d'] vs):∃v v',vs=[v,v']/\Bor K F H d v/\Bor K F H d' v':=by
 cases h with
 | cons h t =>
  obtain⟨v',rfl,h'⟩:=t.one;exact⟨_,_,rfl,h,h'⟩
def g1(f:D->Option Rv):List D->Option Rv
 | [d]=>f d
 | _=>none
def g2(f:D->D->Option Rv):List D->Option Rv
 | [d,d']=>f d d'
 | _=>none
theorem ahj{f:D->Option Rv}{w:Value} (h:X.K=K->∀(zv:List (Addr×Obj)) (s:Shared) (σ0:L2.St) (H:Hp) (x:V) (u:Value) (Q:VK) (tg:Nat->Addr) (F:Hp) (ρ:Ro) (σ:L2.St) (d:D) (r:Rv),Inv X zv σ0 H s->RelV x u->Good K tg F H ρ σ->Bor K F H d x->f d=some r->Res K tg F H ρ σ r Q ->
  wpAny (model X.prog X.w) X.A (call w [u]) (EP X zv σ0 Q) X.xe s):CallD K X w (g1 f):=CallD.mk fun hk=>by
 intro zv s σ0 H xs us Q I r ⟨tg,F,ρ,σ,ds,rv,G,bl,eg,q⟩
 match ds,eg with
 | [d],eg =>
  obtain⟨v,rfl,bv⟩:=bl.one;obtain⟨u,rfl,ru⟩:=vals1 r;exact h hk zv s σ0 H v u Q tg F ρ σ d rv I ru G bv eg q
theorem lu:CallD K X (.builtin "len") (g1 fun d=>(bz d).map fun l=>.v (.int l.length)):=ahj fun hk zv s σ0 H x u Q tg F ρ σ d r I ru G bd eg q=>by
 subst hk;cases e:bz d with
 | none=>rw[e] at eg;cases eg
 | some l =>
  rw[e] at eg;cases eg;obtain⟨a,vs,rfl,hl,hs⟩:=ah4 G.sub e bd;have q':=Res.same G q (.int _);rw[hl.length] at q';exact ahl zv s σ0 H [.ref a] [u] Q I (.cons ru .nil) ⟨a,vs,rfl,hs,q'⟩
def vg:List D->Option (List Bool)
 | []=>some []
 | .bl b::r=>(vg r).map (b :: ·)
 | _::_=>none
theorem ahq:∀{l:List D} {bs:List Bool},vg l=some bs->l=bs.map D.bl
 | [],_,h=>by cases h;rfl
 | .bl b::r,bs,h=>by
  have h':(vg r).map (b :: ·)=some bs:=h;cases e:vg r with
  | none=>rw[e] at h';cases h'
  | some t =>
   rw[e] at h';cases h';rw[ahq e];rfl
 | .non::_,_,h=>by cases h
 | .int _::_,_,h=>by cases h
 | .str _::_,_,h=>by cases h
 | .tup _::_,_,h=>by cases h
 | .lst _::_,_,h=>by cases h
 | .kst _::_,_,h=>by cases h
 | .dct _::_,_,h=>by cases h
@[simp] theorem acs(bs:List Bool):vg (bs.map D.bl)=some bs:=by
 induction bs with
 | nil=>rfl
 | cons b r ih=>show(vg (r.map D.bl)).map (b :: ·)=_;rw[ih];rfl
def gAll:D->Option Rv
 | .lst l=>(vg l).map fun bs=>.v (.bl (bs.all id))
 | _=>none
theorem am5(hc:X.calm=true):CallD K X (.builtin "all") (g1 gAll):=ahj fun hk zv s σ0 H x u Q tg F ρ σ d r I ru G bd eg q=>by
 subst hk;cases d with
 | lst l =>
  have eg:(vg l).map (fun bs=>Rv.v (.bl (bs.all id)))=some r:=eg
  cases e:vg l with
  | none=>rw[e] at eg;cases eg
  | some bs =>
   rw[e] at eg;cases eg;obtain⟨a,vs,rfl,ea,hl⟩:=bd.lst G.sub;rw[ahq e] at hl;rw[hl.bl_inv] at ea;exact api hc zv s σ0 H [.ref a] [u] Q I (.cons ru .nil) ⟨a,bs,rfl,SqL.of ea,Res.same G q (.bl _)⟩
 | _=>cases eg
def ao0:D->Option Rv
 | .int i=>some (.v (.int i))
 | .bl k=>some (.v (.int (if k then 1 else 0)))
 | _=>none
theorem av6:CallD K X (.type "int") (g1 ao0):=ahj fun hk zv s σ0 H x u Q tg F ρ σ d r I ru G bd eg q=>by
 cases d with
 | int i =>
  cases eg;obtain rfl:=bd.int;exact ahn zv s σ0 H [_] [u] Q I (.cons ru .nil) (.inl ⟨i,rfl,Res.same G q (.int _)⟩)
 | bl k =>
  cases eg;obtain rfl:=bd.bl;exact ahn zv s σ0 H [_] [u] Q I (.cons ru .nil) (.inr ⟨k,rfl,Res.same G q (.int _)⟩)
 | _=>cases eg
theorem rz:CallD K X (.type "tuple") (g1 fun d=>(bz d).map fun l=>.v (.tup l)):=ahj fun hk zv s σ0 H x u Q tg F ρ σ d r I ru G bd eg q=>by
 subst hk;cases d with
 | tup l =>
  cases eg;obtain⟨a,vs,rfl,ea,hl⟩:=bd.tup;exact yq zv s σ0 H [_] [u] Q I (.cons ru .nil) ⟨a,vs,rfl,.inr ⟨SqT.of (G.sub _ _ ea),Res.same G q (.tup ea hl)⟩⟩
 | lst l =>
  cases eg;obtain⟨a,vs,rfl,ea,hl⟩:=bd.lst G.sub;exact yq zv s σ0 H [_] [u] Q I (.cons ru .nil) ⟨a,vs,rfl,.inl ⟨SqL.of ea,fun p hp=>Res.tup G q hl hp⟩⟩
 | kst l =>
  cases eg;obtain⟨a,vs,rfl,ea,hl⟩:=bd.kst;exact yq zv s σ0 H [_] [u] Q I (.cons ru .nil) ⟨a,vs,rfl,.inl ⟨L2.Same.seq G.sub ea,fun p hp=>Res.tup G q hl hp⟩⟩
 | _=>cases eg
theorem abk:CallD K X (.type "list") (g1 fun d=>(bz d).map fun l=>.fr l):=ahj fun hk zv s σ0 H x u Q tg F ρ σ d r I ru G bd eg q=>by
 subst hk;cases e:bz d with
 | none=>rw[e] at eg;cases eg
 | some l =>
  rw[e] at eg;cases eg;obtain⟨a,vs,rfl,hl,hs⟩:=ah4 G.sub e bd;exact ahk zv s σ0 H [_] [u] Q I (.cons ru .nil) ⟨a,vs,rfl,hs,fun p hp=>Res.lst G q hl hp⟩
theorem aqa{f:D->D->Option Rv}{w:Value} (h:X.K=K->∀(zv:List (Addr×Obj)) (s:Shared) (σ0:L2.St) (H:Hp) (x y:V) (u v:Value) (Q:VK) (tg:Nat->Addr) (F:Hp) (ρ:Ro) (σ:L2.St) (d d':D) (r:Rv),Inv X zv σ0 H s->RelV x u->RelV y v->Good K tg F H ρ σ->Bor K F H d x->Bor K F H d' y->f d d'=some r->Res K tg F H ρ σ r Q ->
  wpAny (model X.prog X.w) X.A (call w [u,v]) (EP X zv σ0 Q) X.xe s):CallD K X w (g2 f):=CallD.mk fun hk=>by
 intro zv s σ0 H xs us Q I r ⟨tg,F,ρ,σ,ds,rv,G,bl,eg,q⟩
 match ds,eg with
 | [d,d'],eg =>
  obtain⟨v,v',rfl,bv,bv'⟩:=bl.two;obtain⟨u,w,rfl,ru,rw'⟩:=vals2 r;exact h hk zv s σ0 H v v' u w Q tg F ρ σ d d' rv I ru rw' G bv bv' eg q
theorem aqb(hc:X.calm=true):CallD K X (.builtin "max") (g2 (gInt fun i j=>some (if j > i then j else i))):=aqa fun hk zv s σ0 H x y u v Q tg F ρ σ d d' r I ru rv G bd bd' eg q=>by
 unfold gInt at eg;split at eg
 ·cases eg;obtain rfl:=bd.int;obtain rfl:=bd'.int;exact am7 hc zv s σ0 H [_,_] [u,v] Q I (.cons ru (.cons rv .nil)) ⟨_,_,rfl,Res.same G q (.int _)⟩
 ·cases eg
theorem aho:acu X (.builtin "divmod") (fun xs H Q=>∃i j,xs=[.int i,.int j]/\(0 < j/\j < 1000000000000000000000000000000000000000000000000000000000000)/\∀p,H p=none->Q (.ref p) (upd H p (.tup [.int (i / j),.int (i % j)]))):=by
 intro zv s σ H xs us Q I r h;obtain⟨i,j,rfl,hj,q⟩:=h;obtain⟨u,w',rfl,⟨t,rfl⟩,⟨t',rfl⟩⟩:=vals2 r;have h1:=hj.1;refine divmod_int (by omega) ?_ (.inl (au0 hj.1 hj.2))
 rw[Int.fdiv_eq_ediv_of_nonneg i (by omega),Int.fmod_eq_emod_of_nonneg i (by omega)]
 refine⟨.ref s.heap.objs.size,_,?_,rfl,q _ (I.hok.fresh (Nat.le_refl _))⟩;exact I.laid (fun b o e=>Heap.get?_push_of_some _ e) (Nat.le_refl _) ⟨by simp only[List.length_cons,List.length_nil];rw[sizeLine_eq];decide,[.int (i / j) s.toks,.int (i % j) (s.toks+1)],.cons ⟨_,rfl⟩ (.cons ⟨_,rfl⟩ .nil),⟨_,Heap.get?_push_size s.heap rfl,rfl,rfl,0,rfl⟩⟩
def af9:D->D->Option Rv
 | .int i,.int j=>if 0 < j/\j < 1000000000000000000000000000000000000000000000000000000000000 then some (.v (.tup [.int (i / j),.int (i % j)])) else none
 | _,_=>none
theorem am4:CallD K X (.builtin "divmod") (g2 af9):=aqa fun hk zv s σ0 H x y u v Q tg F ρ σ d d' r I ru rv G bd bd' eg q=>by
 unfold af9 at eg;split at eg
 ·split at eg
  ·rename_i hc;cases eg;obtain rfl:=bd.int;obtain rfl:=bd'.int;exact aho zv s σ0 H [_,_] [u,v] Q I (.cons ru (.cons rv .nil)) ⟨_,_,rfl,hc,fun p hp=>Res.tup G q (.cons (.int _) (.cons (.int _) .nil)) hp⟩
  ·cases eg
 ·cases eg
inductive Ty where
 | int | bool | tuple | list | str | dict
def Ty.nm:Ty->String
 | .int => "int" | .bool => "bool" | .tuple => "tuple" | .list => "list" | .str => "str" | .dict => "dict"
def tyD:D->Value
 | .non=>.type "NoneType"
 | .bl _=>.type "bool"
 | .int _=>.type "int"
 | .str _=>.type "str"
 | .tup _=>.type "tuple"
 | .lst _=>.type "list"
 | .kst _=>.type "list"
 | .dct _=>.type "dict"
 | .exn _ _=>.type "NoneType"
def isTy:Ty->D->Bool
 | .int,.int _=>true
 | .int,.bl _=>true
 | .bool,.bl _=>true
 | .tuple,.tup _=>true
 | .list,.lst _=>true
 | .list,.kst _=>true
 | .str,.str _=>true
 | .dict,.dct _=>true
 | _,_=>false
theorem ap2(t:Ty)(d:D):PySem.W.kitOne K (tyD d) (.type t.nm)=some (isTy t d):=by
 cases d <;> cases t <;> kernel_rfl
theorem am8{X:Cx}:acu X (.builtin "isinstance") (fun xs H Q=>∃F d x t,xs=[x,.ty (Ty.nm t)]/\Same F H/\Bor X.K F H d x/\Q (.bl (isTy t d)) H):=by
 intro zv s σ H xs us Q I r ⟨F,d,x,t,e,g,h,q⟩;subst e;obtain⟨u,w',rfl,r1,r2⟩:=vals2 r;obtain rfl:w'=Value.type t.nm:=r2;have fin:∀tk,EP X zv σ Q (.bool (isTy t d)) { s with toks:=tk }:=fun tk=>⟨.bl _,H,I.tok tk,rfl,q⟩
 have go:TyOf X.K H x (tyD d)->wpAny (model X.prog X.w) X.A (call (.builtin "isinstance") [u,.type t.nm]) (EP X zv σ Q) X.xe s:=fun ty=>amb I r1 ty (ap2 t d) fin
 cases d with
 | non=>obtain rfl:=h.non;exact go .non
 | bl b=>obtain rfl:=h.bl;exact go (.bl b)
 | int b=>obtain rfl:=h.int;exact go (.int b)
 | str b=>obtain rfl:=h.str;exact go (.str b)
 | tup b=>obtain⟨a,vs,rfl,e,_⟩:=h.tup;exact go (.tup (g _ _ e))
 | lst b=>obtain⟨a,vs,rfl,e,_⟩:=h.lst g;exact go (.lst e)
 | kst b =>
  obtain⟨a,vs,rfl,e,_⟩:=h.kst;cases(show u=Value.ref a from r1)
  obtain⟨its,_,pl,_⟩:=I.list (L2.Same.seq g e);obtain⟨o,ho,hc,n,hd⟩:=pl.isList;exact PySem.W.kia_one PySem.W.kitx_list I.kIn ⟨o,ho,hc⟩ (ap2 t (.kst b)) (fun z=>nomatch z) fin
 | dct b =>
  rcases h with h | ⟨a,vs,l',e1,_⟩
  ·cases h with
   | dct e h=>exact go (.dK (g _ _ e))
  ·cases e1
 | exn c fs =>
  rcases h with h | ⟨a,vs,l',e1,_⟩
  ·cases h with
   | @exn a C c dx fs e hc hk hf =>
    cases(show u=Value.ref a from r1)
    obtain⟨⟨oe,ws,h1,h2,h3,h4⟩,_⟩:=(show rn X.prog X.w H s.heap a (.ext (exO a C dx)) from I.hok a _ (g _ _ e))
    have hno:PySem.W.notCls oe=true:=by unfold PySem.W.notCls;rw[h4]
    have ia:∃ox od,PySem.W.InstAt s.heap a ox C od:=by
     rcases hf with⟨rfl,_⟩ | ⟨d,rfl,hd⟩
     ·exact⟨oe,none,h1,h2,hno,by rw[h3];trivial⟩
     ·obtain⟨mA,⟨od,_,_,e1,_⟩,_⟩:=(show rn X.prog X.w H s.heap d (.xd _) from I.hok d _ (g _ _ hd))
      exact⟨oe,some od,h1,h2,hno,by rw[h3];exact e1⟩
    have kq:PySem.W.kitOne X.K (.ref C) (.type t.nm)=some false:=by
     have h5:PySem.W.subIn X.K (.ref C) (.type t.nm)=some false:=hk.no _ (by cases t <;> simp[Ty.nm])
     have h6:PySem.W.kitMeta t.nm=true:=by cases t <;> kernel_rfl
     unfold PySem.W.kitOne PySem.W.kitCls;rw[if_neg (by simp)]
     show(if PySem.W.kitMeta t.nm=true then PySem.W.subIn X.K (.ref C) (.type t.nm) else none)=some false
     rw[if_pos h6];exact h5
    have e7:isTy t (.exn c fs)=false:=by cases t <;> rfl
    exact PySem.W.kia_one (ajd hk) I.kIn ia kq (fun z=>nomatch z) fun tk=>e7▸fin tk
  ·cases e1
def mIsi(t:Ty)(m:M D):M D:=m.bind fun d=>ret (.bl (isTy t d))
theorem ab4{t:Ty}{tn:Expr}{m:M D}{x:Str}(ht:PE X tn (tC (.ty t.nm)))(hg:Gl X x)(hm:X.mg x=none)(hv:bootBuiltins x=some (.builtin "isinstance"))(h:EB K X e m)(hn:x ≠ "__name__" := by decide)(hdb:(x==("__debug__" : Str))=false:=by decide)
  (h1:starEach [tn] X.env=(false,eval tn X.env)::starEach [] X.env:=by rfl) (he:starEach [e,tn] X.env=(false,eval e X.env)::starEach [tn] X.env:=by rfl) (hpl:(backTo pos (starEach [tn] X.env)).any (·.1)=false:=by rfl) :
  EV K X (.Call (.Name x p) [e,tn] [] pos) (mIsi t m):=EV.mk fun hk=>by
 refine PE.imp (adc am8 hg hm hv (jy (h hk) (jy ht abu h1) he) hn hdb he hpl) fun σ H Q z9 =>?_
 obtain⟨tg,F,ρ,d,ρ',G,em,q⟩:=z9;obtain⟨d1,ρ1,e1,em⟩:=bf em;obtain⟨rfl,rfl⟩:=jt em;subst hk;exact⟨tg,F,ρ,d1,_,G,e1,fun v H' F' G' x bv=>⟨F',d1,v,t,rfl,G'.sub,bv,q _ H' F' G' x (.bl _)⟩⟩
def gIx(d i:D):Option Rv:=match i with
 | .int k=>(bz d).bind fun l=>(atI l k).map fun x=>.v x
 | _=>none
theorem av8{F:Hp}{l:List D}{vs:List V}{k:Int}{d:D}(h:IsL K F l vs)(e:atI l k=some d):∃v,atI vs k=some v/\Is K F d v:=by
 unfold atI at e ⊢
 rw[h.length] at e;cases q:ixN vs.length k with
 | none=>rw[q] at e;cases e
 | some j =>
  rw[q] at e;obtain⟨v,e1,e2⟩:=h.get (i:=j) e;exact⟨v,e1,e2⟩
theorem ixd:X.K=K->IxR X (rOf K gIx):=fun hk=>by
 intro value slice zv s σ0 H x y v u Q I rx ry ⟨tg,F,ρ,σ,d1,d2,r,G,b1,b2,eg,q⟩ hs;subst hk;cases d2 with
 | int k =>
  have eg:(bz d1).bind (fun l=>(atI l k).map fun x=>Rv.v x)=some r:=eg
  cases e:bz d1 with
  | none=>rw[e] at eg;cases eg
  | some l =>
   rw[e] at eg;have eg:(atI l k).map (fun x=>Rv.v x)=some r:=eg
   cases e2:atI l k with
   | none=>rw[e2] at eg;cases eg
   | some d =>
    rw[e2] at eg;cases eg;obtain⟨a,vs,rfl,hl,hq⟩:=ah4 G.sub e b1;obtain rfl:=b2.int;obtain⟨z,hz,iz⟩:=av8 hl e2;rcases hq with hq | hq
    ·exact asd value slice zv s σ0 H _ _ v u Q I rx ry ⟨a,vs,k,z,rfl,rfl,hq,hz,Res.same G q iz⟩ hs
    ·exact avj value slice zv s σ0 H _ _ v u Q I rx ry ⟨a,vs,k,z,rfl,rfl,hq,hz,Res.same G q iz⟩ hs
 | _=>cases eg
theorem oh{m:M (D×D)}(h:E2 K X a b m)(hs:anh b):ER K X (.Subscript a b pos) (mOp gIx m):=ER.mk fun hk=>by
 obtain⟨ta,tb,ha,hb,h⟩:=h hk;exact PE.imp (axv (ixd hk) ha hb hs) (ai4 h)
def TOp(K:Fg9)(m:M (Option Int)):TO:=fun σ H Q=>∃tg F ρ o ρ',Good K tg F H ρ σ/\m ρ=some (.ok o,ρ')/\∀H' F',Good K tg F' H' ρ' σ->Ext (Own ρ σ) (Own ρ' σ) F H F' H'->Q o H'
structure EO (K:Fg9) (X:Cx) (e:Option Expr) (m:M (Option Int)):Prop where
 go:X.K=K->PO X e (TOp K m)
instance {K:Fg9} {X:Cx} {e:Option Expr} {m:M (Option Int)}:CoeFun (EO K X e m) fun _=>X.K=K->PO X e (TOp K m):=⟨EO.go⟩
theorem PO.imp{eo:Option Expr}{t t':TO}(h:PO X eo t)(w:∀σ H Q,t' σ H Q->t σ H Q):PO X eo t':=fun zv s σ H Q I q=>h zv s σ H Q I (w σ H Q q)
theorem aef:EO K X none (ret none):=EO.mk fun _=>PO.imp aq8 fun σ H Q z9=>by
 obtain⟨tg,F,ρ,o,ρ',G,em,q⟩:=z9;obtain⟨rfl,rfl⟩:=jt em;exact q H F G (Ext.refl _ _ _)
def asI:D->Option Int
 | .int i=>some i
 | _=>none
theorem ahv{d:D}{k:Int}(h:asI d=some k):d=.int k:=by
 cases d with
 | int b=>cases h;rfl
 | _=>cases h
def af2(m:M D):M (Option Int):=m.bind fun d=>lift ((asI d).map some)
theorem abi{m:M D}(h:EV K X e m):EO K X (some e) (af2 m):=EO.mk fun hk=>PO.imp (aq7 (h hk)) fun σ H Q z9=>by
 obtain⟨tg,F,ρ,o,ρ',G,em,q⟩:=z9;obtain⟨d,ρ1,e1,em⟩:=bf em;obtain⟨e2,rfl⟩:=fu em;refine⟨tg,F,ρ,d,_,G,e1,fun v H' F' G' x r =>?_⟩
 cases d with
 | int i =>
  cases e2;cases r;exact⟨i,rfl,q H' F' G' x⟩
 | _=>cases e2
def cutD(l:List D)(lo hi:Option Int):List D:=(l.drop (HT.sIx l.length 0 lo)).take (HT.sIx l.length l.length hi - HT.sIx l.length 0 lo)
theorem amz{F:Hp}{l:List D}{vs:List V}(h:IsL K F l vs)(lo hi:Option Int):IsL K F (cutD l lo hi) (cutV vs lo hi):=by
 unfold cutD cutV;rw[h.length];exact(h.drop _).take _
def gCut(d:D)(lo hi:Option Int):Option Rv:=match d with
 | .tup l=>some (.v (.tup (cutD l lo hi)))
 | .lst l=>some (.fr (cutD l lo hi))
 | .kst l=>some (.fr (cutD l lo hi))
 | _=>none
def rsOf(K:Fg9):V->Option Int->Option Int->Hp->VK->Prop:=fun x lo hi H Q=>∃tg F ρ σ d r,Good K tg F H ρ σ/\Bor K F H d x/\gCut d lo hi=some r/\Res K tg F H ρ σ r Q
theorem sld(hk:X.K=K):SlR X (rsOf K):=by
 intro zv s σ0 H x v vl vu lo hi sl Q I rx hs pl pu ⟨tg,F,ρ,σ,d,r,G,bd,eg,q⟩;subst hk;cases d with
 | tup l =>
  cases eg;obtain⟨a,vs,rfl,ea,hl⟩:=bd.tup
  by_cases hw:HT.sIx vs.length 0 lo=0/\HT.sIx vs.length vs.length hi=vs.length
  ·have ec:cutD l lo hi=l:=by
    unfold cutD;rw[hl.length,hw.1,hw.2,List.drop_zero,Nat.sub_zero,<-hl.length,List.take_length]
   rw[ec] at q;cases rx;obtain⟨its,r,ht,hz⟩:=I.tuple (SqT.of (G.sub _ _ ea));have hlen:its.toArray.size=vs.length:=by rw[List.size_toArray];exact r.length.symm
   refine⟨"tuple", _,PyProof.Rows.slot_tuple_getitem.lookup,ht.typeIs,?_⟩;exact abb ht hs pl pu (by rw[hlen];exact hw.1) (by rw[hlen];exact hw.2) ⟨.ref a,H,I,rfl,Res.same G q (.tup ea hl)⟩
  ·exact atq zv s σ0 H _ v vl vu lo hi sl Q I rx hs pl pu ⟨a,vs,rfl,SqT.of (G.sub _ _ ea),hw,fun p hp=>Res.tup G q (amz hl lo hi) hp⟩
 | lst l =>
  cases eg;obtain⟨a,vs,rfl,ea,hl⟩:=bd.lst G.sub;exact ak9 zv s σ0 H _ v vl vu lo hi sl Q I rx hs pl pu ⟨a,vs,rfl,SqL.of ea,fun p hp=>Res.lst G q (amz hl lo hi) hp⟩
 | kst l =>
  cases eg;obtain⟨a,vs,rfl,ea,hl⟩:=bd.kst;exact ak9 zv s σ0 H _ v vl vu lo hi sl Q I rx hs pl pu ⟨a,vs,rfl,L2.Same.seq G.sub ea,fun p hp=>Res.lst G q (amz hl lo hi) hp⟩
 | _=>cases eg
def agz(i:Nat)(ml mh:M (Option Int)):M Rv:=(di i).bind fun _=>ml.bind fun lo=>mh.bind fun hi=>(di i).bind fun d=>lift (gCut d lo hi)
theorem acn{i:Nat}{ml mh:M (Option Int)}{lo hi:Option Expr}(h:PE X a (tVar i))(hl:EO K X lo ml)(hh:EO K X hi mh):ER K X (.Subscript a (.Slice lo hi none p2) pos) (agz i ml mh):=ER.mk fun hk=>PE.imp (an4 (sld hk) h (hl hk) (hh hk)) fun σ H Q z9=>by
 obtain⟨tg,F,ρ,r,ρ',G,em,q⟩:=z9;obtain⟨d0,ρ0,e0,em⟩:=bf em;obtain⟨o1,ρ2,e2,em⟩:=bf em;obtain⟨o2,ρ3,e3,em⟩:=bf em;obtain⟨d,ρ4,e1,em⟩:=bf em;obtain⟨e4,rfl⟩:=fu em;obtain⟨rfl,v,hv,_⟩:=j7 G e0;refine⟨v,hv,tg,F,ρ0,o1,ρ2,G,e2,fun H2 F2 G2 x2=>⟨tg,F2,ρ2,o2,_,G2,e3,fun H3 F3 G3 x3 =>?_⟩⟩
 obtain⟨rfl,v',hv',b'⟩:=j7 G3 e1;rw[hv] at hv';cases hv';exact⟨tg,F3,_,σ,d,r,G3,b',e4,fun v' H4 F4 G4 x4 rr=>q v' H4 F4 G4 ((x2.trans x3).trans x4) (qj (x2.trans x3) rr)⟩
end
inductive Fl where
 | nx | ret (r:Rv) | brk | cont | exc (x:Exn)
abbrev Sd:=Ro->Option (Fl×Ro)
section
variable{K:Fg9}{X:Cx}{e a b c tgt:Expr}{es:List Expr}{pos p p2:Pos}{st:Stmt}{ss:List Stmt}
def FlOk(K:Fg9)(tg:Nat->Addr)(ρ:Ro)(σ:L2.St)(F H:Hp)(E:Ends)(fl:Fl)(ρ':Ro):Prop:=match fl with
 | .nx=>∀σ' H' F',Good K tg F' H' ρ' σ'->Ext (Own ρ σ) (Own ρ' σ') F H F' H'->E.nx σ' H'
 | .brk=>∀σ' H' F',Good K tg F' H' ρ' σ'->Ext (Own ρ σ) (Own ρ' σ') F H F' H'->E.bk σ' H'
 | .cont=>∀σ' H' F',Good K tg F' H' ρ' σ'->Ext (Own ρ σ) (Own ρ' σ') F H F' H'->E.ct σ' H'
 | .ret r=>∀v σ' H' F',Good K tg F' H' ρ' σ'->Ext (Own ρ σ) (Own ρ' σ') F H F' H'->relR K r v H (Own ρ σ) F' H' (Own ρ' σ')->E.rt v H'
 | .exc _=>False
def TSd(K:Fg9)(g:Sd):TS:=fun E σ H=>∃tg F ρ fl ρ',Good K tg F H ρ σ/\g ρ=some (fl,ρ')/\FlOk K tg ρ σ F H E fl ρ'
structure SV (K:Fg9) (X:Cx) (st:Stmt) (g:Sd):Prop where
 go:X.K=K->PS X st (TSd K g)
instance {K:Fg9} {X:Cx} {st:Stmt} {g:Sd}:CoeFun (SV K X st g) fun _=>X.K=K->PS X st (TSd K g):=⟨SV.go⟩
structure SVs (K:Fg9) (X:Cx) (ss:List Stmt) (g:Sd):Prop where
 go:X.K=K->PSs X ss (TSd K g)
instance {K:Fg9} {X:Cx} {ss:List Stmt} {g:Sd}:CoeFun (SVs K X ss g) fun _=>X.K=K->PSs X ss (TSd K g):=⟨SVs.go⟩
theorem PS.imp{t t':TS}(h:PS X st t)(w:∀E σ H,t' E σ H->t E σ H):PS X st t':=fun zv s σ H E I q=>h zv s σ H E I (w E σ H q)
theorem PSs.imp{t t':TS}(h:PSs X ss t)(w:∀E σ H,t' E σ H->t E σ H):PSs X ss t':=fun zv s σ H E I q=>h zv s σ H E I (w E σ H q)
theorem FlOk.back{tg:Nat->Addr}{ρ ρ1 ρ':Ro}{σ σ1:L2.St}{F H F1 H1:Hp}{E:Ends}{fl:Fl}(x:Ext (Own ρ σ) (Own ρ1 σ1) F H F1 H1)(h:FlOk K tg ρ σ F H E fl ρ'):FlOk K tg ρ1 σ1 F1 H1 E fl ρ':=by
 cases fl with
 | nx=>exact fun σ' H' F' G' x'=>h σ' H' F' G' (x.trans x')
 | brk=>exact fun σ' H' F' G' x'=>h σ' H' F' G' (x.trans x')
 | cont=>exact fun σ' H' F' G' x'=>h σ' H' F' G' (x.trans x')
 | ret r=>exact fun v σ' H' F' G' x' rr=>h v σ' H' F' G' (x.trans x') (qj x rr)
 | exc _=>exact h
def dNx:Sd:=fun ρ=>some (.nx,ρ)
noncomputable def dSeq(g k:Sd):Sd:=fun ρ=>match g ρ with
 | some (.nx,ρ1)=>k ρ1
 | r=>r
theorem jr:SVs K X [] dNx:=SVs.mk fun _=>PSs.imp alh fun E σ H z9=>by
 obtain⟨tg,F,ρ,fl,ρ',G,em,q⟩:=z9;cases em;exact q σ H F G (Ext.refl _ _ _)
theorem bh{g:Sd}(h:SV K X st g):SVs K X [st] g:=SVs.mk fun hk=>alg (h hk)
theorem au{g k:Sd}(h:SV K X st g)(t:SVs K X ss k):SVs K X (st::ss) (dSeq g k):=SVs.mk fun hk=>PSs.imp (afo (h hk) (t hk)) fun E σ H z9=>by
 obtain⟨tg,F,ρ,fl,ρ',G,em,q⟩:=z9;unfold dSeq at em;split at em
 ·rename_i ρ1 e1;exact⟨tg,F,ρ,.nx,ρ1,G,e1,fun σ' H' F' G' x=>⟨tg,F',ρ1,fl,ρ',G',em,q.back x⟩⟩
 ·rename_i hn;refine⟨tg,F,ρ,fl,ρ',G,em,?_⟩;cases fl with
  | nx=>exact absurd em (hn ρ')
  | brk=>exact q
  | cont=>exact q
  | ret r=>exact q
  | exc _=>exact q
noncomputable def dM{α:Type}(m:M α)(k:α->Sd):Sd:=fun ρ=>match m ρ with
 | some (.ok x,ρ1)=>k x ρ1
 | some (.exc x,ρ1)=>some (.exc x,ρ1)
 | none=>none
theorem j8{α:Type}{m:M α}{k:α->Sd}{ρ ρ':Ro}{fl:Fl}{P:Prop}(h:dM m k ρ=some (fl,ρ'))(hx:FlOk K tg ρ0 σ0 F0 H0 E0' fl ρ')(go:∀x ρ1,m ρ=some (.ok x,ρ1)->k x ρ1=some (fl,ρ')->P):P:=by
 unfold dM at h;split at h
 ·exact go _ _ (by assumption) h
 ·cases h;exact(show False from hx).elim
 ·cases h
noncomputable def dRet(m:M Rv):Sd:=dM m fun r ρ=>some (.ret r,ρ)
theorem gk{m:M Rv}(h:ER K X e m):SV K X (.Return (some e) pos) (dRet m):=SV.mk fun hk=>PS.imp (at6 (h hk)) fun E σ H ⟨tg,F,ρ,fl,ρ',G,em,q⟩=>j8 em q fun r ρ1 e1 em=>by
 cases em;exact⟨tg,F,ρ,r,_,G,e1,fun v H' F' G' x rr=>q v σ H' F' G' x rr⟩
noncomputable def dIf(m:M Bool)(g k:Sd):Sd:=dM m fun z=>if z=true then g else k
theorem ug{m:M Bool}{g k:Sd}{ss':List Stmt}(h:ET K X c m)(h1:SVs K X ss g)(h2:SVs K X ss' k):SV K X (.If c ss ss' pos) (dIf m g k):=SV.mk fun hk=>PS.imp (axs (h hk) (h1 hk) (h2 hk)) fun E σ H ⟨tg,F,ρ,fl,ρ',G,em,q⟩=>j8 em q fun z ρ1 e1 em=>by
 refine⟨tg,F,ρ,z,ρ1,G,e1,fun H' F' G' x =>?_⟩
 cases z with
 | true=>exact iteT ⟨tg,F',ρ1,fl,ρ',G',em,q.back x⟩
 | false=>exact iteF ⟨tg,F',ρ1,fl,ρ',G',em,q.back x⟩
def acr{α:Type}(m:M α):Sd:=dM m fun _ ρ=>some (.nx,ρ)
theorem qu{m:M Rv}(h:ER K X e m)(hs:swapsWith e none pos.line X.env=pure false:=by rfl):SV K X (.Expr e pos) (acr m):=SV.mk fun hk=>PS.imp (aq5 (h hk) hs) fun E σ H ⟨tg,F,ρ,fl,ρ',G,em,q⟩=>j8 em q fun r ρ1 e1 em=>by
 cases em;exact⟨tg,F,ρ,r,_,G,e1,fun v H' F' G' x rr=>q σ H' F' G' x⟩
section
variable{tg:Nat->Addr}{F H:Hp}{ρ:Ro}{σ:L2.St}
theorem xu{i:Nat}{s:Sl}{v:V}{b:Addr}(hl:ρ.length=σ.length)(h:Own (List.set ρ i s) (List.set σ i (some v)) b):Own ρ σ b∨((∃t l,s=.own t l)/\v=.ref b):=by
 obtain⟨j,⟨t,l,e⟩,q⟩:=h;rw[List.getElem?_set] at e q
 by_cases hj:i=j
 ·subst hj;rw[if_pos rfl] at e q;split at e
  ·rename_i hi;rw[if_pos (by rw[<-hl];exact hi)] at q
   cases e;cases q;exact .inr ⟨⟨t,l,rfl⟩,rfl⟩
  ·cases e
 ·rw[if_neg hj] at e q;exact .inl ⟨j,⟨t,l,e⟩,q⟩
theorem Good.put(G:Good K tg F H ρ σ){s:Sl}{v:V}(i:Nat)(h:SlOk K tg F H s (some v))(n:∀t l a,s=.own t l->v=.ref a->¬Own ρ σ a):Good K tg F H (List.set ρ i s) (List.set σ i (some v)) where
 sub:=G.sub
 len:=by rw[List.length_set,List.length_set];exact G.len
 sl:=fun j s' o e q=>by
  rw[List.getElem?_set] at e q
  by_cases hj:i=j
  ·subst hj;rw[if_pos rfl] at e q;split at e
   ·rename_i hi;rw[if_pos (by rw[<-G.len];exact hi)] at q
    cases e;cases q;exact h
   ·cases e
  ·rw[if_neg hj] at e q;exact G.sl j s' o e q
 inj:=fun j k a ⟨⟨t,l,e⟩,q⟩ ⟨⟨t',l',e'⟩,q'⟩=>by
  rw[List.getElem?_set] at e q e' q'
  by_cases hj:i=j
  ·subst hj;rw[if_pos rfl] at e q
   by_cases hk:i=k
   ·exact hk
   ·rw[if_neg hk] at e' q';split at e
    ·rename_i hi;rw[if_pos (by rw[<-G.len];exact hi)] at q
     cases e;cases q;exact absurd ⟨k,⟨t',l',e'⟩,q'⟩ (n t l a rfl rfl)
    ·cases e
  ·rw[if_neg hj] at e q
   by_cases hk:i=k
   ·subst hk;rw[if_pos rfl] at e' q';split at e'
    ·rename_i hi;rw[if_pos (by rw[<-G.len];exact hi)] at q'
     cases e';cases q';exact absurd ⟨j,⟨t,l,e⟩,q⟩ (n t' l' a rfl rfl)
    ·cases e'
   ·rw[if_neg hk] at e' q';exact G.inj j k a ⟨⟨t,l,e⟩,q⟩ ⟨⟨t',l',e'⟩,q'⟩
def Rv.sl:Rv->Sl
 | .v d=>.val d
 | .fr l=>.own none l
 | .tf _ _=>.emp
theorem Good.store{F0 H0:Hp}{O:Addr->Prop}(G:Good K tg F H ρ σ)(x:Ext O (Own ρ σ) F0 H0 F H){r:Rv}{v:V}(i:Nat)(h:relR K r v H0 O F H (Own ρ σ)) :
  Good K tg F H (List.set ρ i r.sl) (List.set σ i (some v))/\Ext O (Own (List.set ρ i r.sl) (List.set σ i (some v))) F0 H0 F H:=by
 cases r with
 | v d =>
  refine⟨G.put i ⟨v,rfl,h⟩ (fun t l a e=>by cases e),x.sub,x.new,x.keep,fun b w =>?_,x.there⟩
  rcases xu G.len w with w | ⟨⟨t,l,e⟩,_⟩
  ·exact x.own b w
  ·cases e
 | fr l =>
  obtain⟨a,vs,rfl,ha,hf,hh,hl,hn⟩:=h;refine⟨G.put i ⟨a,vs,rfl,hf,hh,hl,fun k e=>by cases e⟩ (fun t l' b _ e2=>by cases e2;exact hn),x.sub,x.new,x.keep,fun b w =>?_,x.there⟩
  rcases xu G.len w with w | ⟨_,e⟩
  ·exact x.own b w
  ·cases e;exact ha.symm
 | tf d l =>
  refine⟨G.put i trivial (fun t l a e=>by cases e),x.sub,x.new,x.keep,fun b w =>?_,x.there⟩
  rcases xu G.len w with w | ⟨⟨t,l,e⟩,_⟩
  ·exact x.own b w
  ·cases e
end
def dSet(i:Nat)(m:M Rv):Sd:=dM m fun r ρ=>some (.nx,List.set ρ i r.sl)
theorem jk{i:Nat}{x:Str}{m:M Rv}(hN:X.N.Nodup)(hi:X.N[i]? = some x)(hx:Loc X.env.scope x)(h:ER K X e m)(hs:swapsWith e (some (.Name x p)) pos.line X.env=pure false:=by rfl)(hf:X.fn x=true∨X.env.scope.names.lookup x=some .local:=by first | exact .inl rfl | exact .inr rfl | assumption) :
  SV K X (.Assign [.Name x p] e pos) (dSet i m):=SV.mk fun hk=>PS.imp (apq hN hi hx (h hk) hs hf) fun E σ H ⟨tg,F,ρ,fl,ρ',G,em,q⟩=>j8 em q fun r ρ1 e1 em=>by
 cases em;refine⟨tg,F,ρ,r,ρ1,G,e1,fun v H' F' G' x rr =>?_⟩
 obtain⟨G2,x2⟩:=G'.store x i rr;exact q _ H' F' G2 x2
def TGd(K:Fg9)(b:D->Ro->Option Ro):TG:=fun v σ H Q=>∃tg F ρ d ρ',Good K tg F H ρ σ/\Is K F d v/\b d ρ=some ρ'/\∀σ' H' F',Good K tg F' H' ρ' σ'->Ext (Own ρ σ) (Own ρ' σ') F H F' H'->Q σ' H'
structure GV (K:Fg9) (X:Cx) (e:Expr) (b:D->Ro->Option Ro):Prop where
 go:X.K=K->PG X e (TGd K b)
instance {K:Fg9} {X:Cx} {e:Expr} {b:D->Ro->Option Ro}:CoeFun (GV K X e b) fun _=>X.K=K->PG X e (TGd K b):=⟨GV.go⟩
theorem PG.imp{t t':TG}(h:PG X e t)(w:∀v σ H Q,t' v σ H Q->t v σ H Q):PG X e t':=fun zv s σ H v u Q I r q=>h zv s σ H v u Q I r (w v σ H Q q)
def ir(i:Nat):D->Ro->Option Ro:=fun d ρ=>some (List.set ρ i (.val d))
theorem Good.storeV{tg:Nat->Addr}{F H:Hp}{ρ:Ro}{σ:L2.St}(G:Good K tg F H ρ σ){d:D}{v:V}(i:Nat)(h:Is K F d v):Good K tg F H (List.set ρ i (.val d)) (List.set σ i (some v))/\Ext (Own ρ σ) (Own (List.set ρ i (.val d)) (List.set σ i (some v))) F H F H :=
 G.store (r:=.v d) (Ext.refl _ _ _) i h
theorem iu{i:Nat}{x:Str}(hN:X.N.Nodup)(hi:X.N[i]? = some x)(hx:Loc X.env.scope x)(hf:X.fn x=true∨X.env.scope.names.lookup x=some .local:=by first | exact .inl rfl | exact .inr rfl | assumption):GV K X (.Name x pos) (ir i):=GV.mk fun _=>PG.imp (afp hN hi hx hf) fun v σ H Q z9=>by
 obtain⟨tg,F,ρ,d,ρ',G,h,em,q⟩:=z9;cases em;obtain⟨G2,x2⟩:=G.storeV i h;exact q _ H F G2 x2
def TGsd(K:Fg9)(b:List D->Ro->Option Ro):TGs:=fun vs σ H Q=>∃tg F ρ ds ρ',Good K tg F H ρ σ/\IsL K F ds vs/\b ds ρ=some ρ'/\∀σ' H' F',Good K tg F' H' ρ' σ'->Ext (Own ρ σ) (Own ρ' σ') F H F' H'->Q σ' H'
structure GVs (K:Fg9) (X:Cx) (es:List Expr) (b:List D->Ro->Option Ro):Prop where
 go:X.K=K->PGs X es (TGsd K b)
instance {K:Fg9} {X:Cx} {es:List Expr} {b:List D->Ro->Option Ro}:CoeFun (GVs K X es b) fun _=>X.K=K->PGs X es (TGsd K b):=⟨GVs.go⟩
theorem PGs.imp{t t':TGs}(h:PGs X es t)(w:∀v σ H Q,t' v σ H Q->t v σ H Q):PGs X es t':=fun zv s σ H v u Q I r q=>h zv s σ H v u Q I r (w v σ H Q q)
def bNil:List D->Ro->Option Ro:=fun ds ρ=>match ds with
 | []=>some ρ
 | _=>none
def qp(b:D->Ro->Option Ro)(bs:List D->Ro->Option Ro):List D->Ro->Option Ro:=fun ds ρ=>match ds with
 | d::r=>(b d ρ).bind (bs r)
 | _=>none
theorem aba:GVs K X [] bNil:=GVs.mk fun _=>PGs.imp aln fun vs σ H Q z9=>by
 obtain⟨tg,F,ρ,ds,ρ',G,h,em,q⟩:=z9;cases ds with
 | nil=>cases em;cases h;exact⟨rfl,q σ H F G (Ext.refl _ _ _)⟩
 | cons _ _=>cases em
theorem kh{b:D->Ro->Option Ro}{bs:List D->Ro->Option Ro}(h1:GV K X e b)(h2:GVs K X es bs)(hs:(assignEach (e::es) X.env).map (·.2)=assign e X.env::(assignEach es X.env).map (·.2):=by rfl):GVs K X (e::es) (qp b bs):=GVs.mk fun hk=>PGs.imp (adb (h1 hk) (h2 hk) hs) fun vs σ H Q z9=>by
 obtain⟨tg,F,ρ,ds,ρ',G,h,em,q⟩:=z9;cases h with
 | nil=>cases em
 | @cons d v ds vs hd ht =>
  have em:(b d ρ).bind (bs ds)=some ρ':=em;cases e1:b d ρ with
  | none=>rw[e1] at em;cases em
  | some ρ1 =>
   rw[e1] at em;exact⟨v,vs,rfl,tg,F,ρ,d,ρ1,G,hd,e1,fun σ' H' F' G' x=>⟨tg,F',ρ1,ds,ρ',G',ht.mono x.sub,em,fun σ2 H2 F2 G2 x2=>q σ2 H2 F2 G2 (x.trans x2)⟩⟩
def bTup(n:Nat)(bs:List D->Ro->Option Ro):D->Ro->Option Ro:=fun d ρ=>match d with
 | .tup l=>if l.length=n then bs l ρ else none
 | _=>none
theorem ad8{k n:Nat}{bs:List D->Ro->Option Ro}(hc:X.calm=true)(h:GVs K X es bs)(hn:(assignEach es X.env).length=n:=by rfl)(hst:(assignEach es X.env).findIdx? (·.1)=none:=by rfl):GV K X (.Tuple es k pos) (bTup n bs):=GV.mk fun hk=>PG.imp (apt hc (h hk) hn hst) fun v σ H Q z9=>by
 obtain⟨tg,F,ρ,d,ρ',G,hd,em,q⟩:=z9;cases hd with
 | @tup a vs ds e hl =>
  have em:(if ds.length=n then bs ds ρ else none)=some ρ':=em
  split at em
  ·rename_i hz;exact⟨a,vs,rfl,SqT.of (G.sub _ _ e),by rw[<-hl.length];exact hz,tg,F,ρ,ds,ρ',G,hl,em,q⟩
  ·cases em
 | _=>cases em
def dAsg(m:M D)(b:D->Ro->Option Ro):Sd:=dM m fun d ρ=>(b d ρ).map fun ρ'=>(.nx,ρ')
theorem ato{m:M D}{b:D->Ro->Option Ro}(h:EV K X e m)(hg:GV K X tgt b)(hs:swapsWithSole [tgt] e pos.line X.env=pure false:=by rfl)(hw:swappedStores [tgt] e X.env=pure none:=by rfl)
  (h1:(assignEach [tgt] X.env).map (·.2)=[assign tgt X.env]:=by rfl):SV K X (.Assign [tgt] e pos) (dAsg m b):=SV.mk fun hk=>PS.imp (ai2 (h hk) (hg hk) hs hw h1) fun E σ H ⟨tg,F,ρ,fl,ρ',G,em,q⟩=>j8 em q fun d ρ1 e1 em=>by
 refine⟨tg,F,ρ,d,ρ1,G,e1,fun v H' F' G' x r =>?_⟩
 cases e2:b d ρ1 with
 | none=>rw[e2] at em;cases em
 | some ρ2 =>
  rw[e2] at em;cases em;exact⟨tg,F',ρ1,d,_,G',r,e2,fun σ2 H2 F2 G2 x2=>q σ2 H2 F2 G2 (x.trans x2)⟩
def dPar(i j:Nat)(m:M (List D)):Sd:=dM m fun ds ρ=>match ds with
 | [d,d']=>some (.nx,List.set (List.set ρ i (.val d)) j (.val d'))
 | _=>none
theorem atn{i j:Nat}{x y:Str}{px py pt:Pos}{kt k2 pt2}{m:M (List D)}(hc:X.calm=true)(hN:X.N.Nodup)(hi:X.N[i]? = some x)(hj:X.N[j]? = some y)(hij:i≠j)
  (hx:X.env.scope.names.lookup x=some .local) (hy:X.env.scope.names.lookup y=some .local) (h:ED K X [a,b] m)
  (hw:swappedStores [.Tuple [.Name x px,.Name y py] kt pt] (.Tuple [a,b] k2 pt2) X.env=pure (some [x,y]):=by rfl)
  (hs:swapsWithSole [.Tuple [.Name x px,.Name y py] kt pt] (.Tuple [a,b] k2 pt2) pos.line X.env=pure false:=by rfl) :
  SV K X (.Assign [.Tuple [.Name x px,.Name y py] kt pt] (.Tuple [a,b] k2 pt2) pos) (dPar i j m):=SV.mk fun hk=>PS.imp (at7 hc hN hi hj hij hx hy (h hk) hw hs) fun E σ H ⟨tg,F,ρ,fl,ρ',G,em,q⟩=>j8 em q fun ds ρ1 e1 em=>by
 refine⟨tg,F,ρ,ds,ρ1,G,e1,fun vs H' F' G' x r =>?_⟩
 match ds,em with
 | [d,d'],em =>
  cases em;cases r with
  | @cons _ v _ _ h1 r =>
   cases r with
   | @cons _ v' _ _ h2 r =>
    cases r;obtain⟨G2,x2⟩:=G'.storeV i h1;obtain⟨G3,x3⟩:=G2.storeV j h2;exact⟨v,v',rfl,q _ H' F' G3 ((x.trans x2).trans x3)⟩
theorem Good.mut{tg:Nat->Addr}{F H:Hp}{ρ:Ro}{σ:L2.St}(G:Good K tg F H ρ σ){i:Nat}{t:Option Nat}{l l':List D}{a:Addr}{ys:List V}(e:(ρ:List Sl)[i]? = some (.own t l))(q:σ[i]? = some (some (.ref a)))(h:IsL K F l' ys) :
  Good K tg F (upd H a (.lst ys)) (List.set ρ i (.own t l')) σ/\Ext (Own ρ σ) (Own (List.set ρ i (.own t l')) σ) F H F (upd H a (.lst ys)):=by
 obtain⟨a',vs,e1,hf,hh,hl,ht⟩:=G.sl i _ _ e q;cases e1;have ow:∀j b,Owns (List.set ρ i (.own t l')) σ j b->Owns ρ σ j b:=fun j b ⟨⟨t2,l2,e2⟩,q2⟩=>by
  rw[List.getElem?_set] at e2
  by_cases hj:i=j
  ·subst hj;exact⟨⟨t,l,e⟩,q2⟩
  ·rw[if_neg hj] at e2;exact⟨⟨t2,l2,e2⟩,q2⟩
 have me:Own ρ σ a:=⟨i,⟨t,l,e⟩,q⟩;refine⟨⟨fun b o z =>?_,by rw[List.length_set];exact G.len,fun j s o e2 q2 =>?_,fun j k b w1 w2=>G.inj j k b (ow _ _ w1) (ow _ _ w2)⟩,Same.refl F,fun _ _ z=>.inl z,fun b o z n =>?_,fun b ⟨j,w⟩=>.inl ⟨j,ow j b w⟩,fun b z =>?_⟩
 ·have hb:b≠a:=fun z2=>by
   subst z2;rw[hf] at z;cases z
  rw[bu hb];exact G.sub b o z
 ·rw[List.getElem?_set] at e2
  by_cases hj:i=j
  ·subst hj;rw[if_pos rfl] at e2;split at e2
   ·cases e2;rw[q] at q2;cases q2;exact⟨a,ys,rfl,hf,dg,h,ht⟩
   ·cases e2
  ·rw[if_neg hj] at e2;have z:=G.sl j s o e2 q2;cases s with
   | emp=>trivial
   | val d=>exact z
   | box c fs =>
    obtain⟨b,C,dx,fvs,e1,e2,e3,e4⟩:=z;have hb:b≠a:=fun z2=>by
     subst z2;rw[e3] at hh;cases hh
    exact⟨b,C,dx,fvs,e1,e2,by rw[bu hb];exact e3,e4⟩
   | own t2 l2 =>
    obtain⟨b,ws,e3,hf3,hh3,hl3,ht3⟩:=z;have hb:b≠a:=fun z2=>by
     subst z2;exact hj (G.inj i j b ⟨⟨t,l,e⟩,q⟩ ⟨⟨t2,l2,e2⟩,by rw[q2,e3]⟩)
    exact⟨b,ws,e3,hf3,by rw[bu hb];exact hh3,hl3,ht3⟩
 ·have hb:b≠a:=fun z2=>n (z2▸me)
  rw[bu hb];exact z
 ·by_cases hb:b=a
  ·subst hb;rw[dg] at z;cases z
  ·rw[bu hb] at z;exact z
def mOwn(i:Nat):M (List D):=fun ρ=>match ρ[i]? with
 | some (.own _ l)=>some (.ok l,ρ)
 | _=>none
theorem adv{tg:Nat->Addr}{F H:Hp}{ρ ρ':Ro}{σ:L2.St}(G:Good K tg F H ρ σ){i:Nat}{l:List D}(em:mOwn i ρ=some (.ok l,ρ')):ρ'=ρ/\∃t a xs,(ρ:List Sl)[i]? = some (.own t l)/\σ[i]? = some (some (.ref a))/\H a=some (.lst xs)/\IsL K F l xs:=by
 unfold mOwn at em;split at em
 ·rename_i t l' e';cases em;obtain⟨o,ho,a,vs,rfl,hf,hh,hl,_⟩:=G.at e';exact⟨rfl,t,a,vs,e',ho,hh,hl⟩
 ·cases em
def ab1(i:Nat)(l':List D):M Unit:=fun ρ=>match ρ[i]? with
 | some (.own t _)=>some (.ok (),List.set ρ i (.own t l'))
 | _=>none
def mMut(i:Nat)(g:List D->List D->Option (D×List D))(ms:M (List D)):M D:=(mOwn i).bind fun _=>ms.bind fun ds=>(mOwn i).bind fun l=>(lift (g l ds)).bind fun r=>(ab1 i r.2).bind fun _=>ret r.1
def MutD(K:Fg9)(r:V->List V->Hp->VK->Prop)(g:List D->List D->Option (D×List D)):Prop :=
 ∀(F H:Hp) (a:Addr) (xs vs:List V) (l ds:List D) (d:D) (l':List D) (Q:VK),Same F H->H a=some (.lst xs)->xs.length<=capS->IsL K F l xs->IsL K F ds vs->g l ds=some (d,l')->(∀v ys,Is K F d v->IsL K F l' ys->Q v (upd H a (.lst ys)))->r (.ref a) vs H Q
theorem af1{tg:Nat->Addr}{F H:Hp}{ρ ρ2:Ro}{σ:L2.St}(G:Good K tg F H ρ σ){i:Nat}{l':List D}{u:Unit}{a:Addr}{ys:List V}(e:ab1 i l' ρ=some (.ok u,ρ2))(q:σ[i]? = some (some (.ref a)))(h:IsL K F l' ys) :
  Good K tg F (upd H a (.lst ys)) ρ2 σ/\Ext (Own ρ σ) (Own ρ2 σ) F H F (upd H a (.lst ys)):=by
 unfold ab1 at e;split at e
 ·rename_i t l e';cases e;exact G.mut e' q h
 ·cases e
theorem amq{i:Nat}{name:Str}{id:String}{r:V->List V->Hp->VK->Prop}{g:List D->List D->Option (D×List D)}{ms:M (List D)}{apos cpos:Pos}(hr:MutD K r g)(slot:Slot "list" name id)(hty:typeOf (.builtin id)=pure (.type "method_descriptor"))(hm:MtR X id r)(ho:PE X a (tVar i))(ha:ED K X (e::es) ms)
  (hbase:attributeBase a name X.env (eval a X.env)=eval a X.env:=by rfl)
  (hfew:((backTo cpos (starEach (e::es) X.env)).all (fun x => !x.1)&&(backToKw cpos (keywordEach [] X.env)).all (fun x=>x.1.isSome)
   && decide ((e::es).length+([]:List Keyword).length+(if ([]:List Keyword).isEmpty then 0 else 1) < 30))=true:=by rfl)
  (hline:(apos.endLine==cpos.line)=true:=by rfl) (hs:starEach (e::es) X.env=(false,eval e X.env)::starEach es X.env:=by rfl) (hplain:(backTo cpos (starEach es X.env)).any (·.1)=false:=by rfl) :
  EV K X (.Call (.Attribute a name apos) (e::es) [] cpos) (mMut i g ms):=EV.mk fun hk=>by
 intro zv s σ H Q I ⟨tg,F,ρ,d,ρ',G,em,q⟩;obtain⟨l0,ρ0,e0,em1⟩:=bf em;obtain⟨ds,ρ1,e1,em2⟩:=bf em1;obtain⟨l,ρ2,e2,em3⟩:=bf em2;obtain⟨x,ρ3,e3,em4⟩:=bf em3;obtain⟨u,ρ4,e4,em5⟩:=bf em4;obtain⟨rfl,rfl⟩:=jt em5;obtain⟨eg,rfl⟩:=fu e3;obtain⟨rfl,t0,b,xs0,es0,hv,hh0,hl0⟩:=adv G e0;refine an7 (r:=fun x vs H Q=>(∀b xs,x=.ref b->H b=some (.lst xs)->xs.length<=capS)->r x vs H Q) PySem.F.plainAttrs_list slot hty (fun zv s σ H x xs v us Q I rx rv h=>hm zv s σ H x xs v us Q I rx rv (h fun b xs _ hb =>?_)) ho (ha hk) hbase hfew hline hs hplain zv s σ H Q I ?_
 ·obtain⟨z,_⟩:=I.lstM hb;rw[sizeLine_eq] at z;exact z
 refine⟨_,hv,.inl ⟨rfl,_,SqL.of hh0⟩,tg,F,ρ0,ds,ρ1,G,e1,fun vs H1 F1 G1 x1 r1 cap =>?_⟩
 obtain⟨rfl,t,a',xs,es',hv',hh,hl⟩:=adv G1 e2;rw[hv] at hv';cases hv';refine hr F1 H1 _ xs vs l ds x.1 x.2 Q G1.sub hh (cap _ _ rfl hh) hl r1 eg fun w ys iw il =>?_
 obtain⟨G2,x2⟩:=af1 G1 e4 hv il;exact q w _ F1 G2 (x1.trans x2) iw
def aea(l ds:List D):Option (D×List D):=match ds with
 | [d]=>if l.length < capS then some (.non,l++[d]) else none
 | _=>none
theorem ach:MutD K alf aea:=by
 intro F H a xs vs l ds d l' Q g hh hc hl hd eg q
 match ds,eg with
 | [d1],eg =>
  have eg:(if l.length < capS then some (D.non,l++[d1]) else none)=some (d,l'):=eg
  split at eg
  ·rename_i hz;cases eg;cases hd with
   | cons h t =>
    cases t;exact⟨a,xs,_,rfl,rfl,hh,by rw[sizeLine_eq,<-hl.length];exact hz,q _ _ .non (hl.append (.cons h .nil))⟩
  ·cases eg
def dSub(i:Nat)(mi m:M D):Sd:=dM m fun d=>dM (mOwn i) fun _=>dM mi fun k=>dM (mOwn i) fun l=>dM (lift ((asI k).bind (ixN l.length))) fun j=>dM (ab1 i (l.set j d)) fun _=>dNx
theorem aer{i:Nat}{mi m:M D}(h:EV K X e m)(ho:PE X a (tVar i))(hi:EV K X b mi)(hs:swapsWithSole [.Subscript a b p] e pos.line X.env=pure false:=by rfl)(hw:swappedStores [.Subscript a b p] e X.env=pure none:=by rfl)
  (h1:(assignEach [.Subscript a b p] X.env).map (·.2)=[assign (.Subscript a b p) X.env]:=by rfl)
  (ha:∀v,assign (.Subscript a b p) X.env v=(do
   let ov <-holding [v] (eval a X.env)
   let iv <-holding [v,ov] (eval b X.env)
   standAt p
   holding [v,ov,iv] (setItem ov iv v)
   release [v,ov,iv] []):=by intro _;rfl):SV K X (.Assign [.Subscript a b p] e pos) (dSub i mi m):=SV.mk fun hk=>PS.imp (ai2 (h hk) (apu ho (hi hk) set_list ha) hs hw h1) fun E σ H ⟨tg,F,ρ,fl,ρ',G,em,q⟩ =>
 j8 em q fun d ρ1 e1 em=>j8 em q fun l0 ρ0 e0 em=>j8 em q fun k ρ2 e2 em=>j8 em q fun l ρ3 e3 em=>j8 em q fun j ρ4 e4 em=>j8 em q fun u ρ5 e5 em=>by
 cases em;obtain⟨e6,rfl⟩:=fu e4;refine⟨tg,F,ρ,d,ρ1,G,e1,fun v H1 F1 G1 x1 r1 =>?_⟩
 obtain⟨rfl,t0,a0,xs0,es0,hv,hh0,hl0⟩:=adv G1 e0;refine⟨_,hv,tg,F1,_,k,ρ2,G1,e2,fun w H2 F2 G2 x2 r2 =>?_⟩
 obtain⟨rfl,t,a1,xs,es1,hv',hh,hl⟩:=adv G2 e3;rw[hv] at hv';cases hv';cases ek:asI k with
 | none=>rw[ek] at e6;cases e6
 | some n =>
  rw[ek] at e6;obtain rfl:=ahv ek;cases r2;obtain⟨G3,x3⟩:=af1 G2 e5 hv (hl.set (r1.mono x2.sub) j);exact⟨_,xs,n,j,rfl,rfl,hh,by rw[<-hl.length];exact e6,q _ _ F2 G3 ((x1.trans x2).trans x3)⟩
end
section
variable{K:Fg9}{X:Cx}{e a b c tgt iter elt:Expr}{es:List Expr}{pos p p2:Pos}{st:Stmt}{ss:List Stmt}
theorem _root_.Mn.ItOf.imp{J:It}{xs:List V}{S S':Hp->Prop}(Z:ItOf J xs S)(h:∀H,S' H->S H):ItOf J xs S':=⟨fun i H q=>Z.go i H (h H q),fun i H x H' q=>Z.yld i H x H' (h H q),fun i H q=>Z.stop i H (h H q)⟩
def Alt(K:Fg9)(F:Hp)(d:D)(x:V)(H H':Hp):Prop:=(H'=H/\Is K F d x)∨∃q vs ds,H q=none/\x=.ref q/\H'=upd H q (.tup vs)/\d=.tup ds/\IsL K F ds vs
structure ItD (K:Fg9) (J:It) (l:List D) (F:Hp):Prop where
 go:∀i H,Same F H->i < l.length->J.go i H
 yld:∀i H x H' d,Same F H->J.yld i H x H'->l[i]? = some d->Alt K F d x H H'
 stop:∀H,Same F H->J.stop l.length H
theorem ItD.of{J:It}{l:List D}{vs:List V}{F:Hp}(il:IsL K F l vs)(Z:ItOf J vs fun H2=>Same F H2):ItD K J l F where
 go:=fun i H s hi=>Z.go i H s (by rw[<-il.length];exact hi)
 yld:=fun i H x H' d s y hd=>by
  obtain⟨v,hv,iv⟩:=il.get hd;obtain⟨e,z⟩:=Z.yld i H x H' s y;have:=z (List.getElem?_eq_some_iff.mp hv).1;rw[hv] at this;cases this;exact .inl ⟨e,iv⟩
 stop:=fun H s=>Z.stop _ H s (by rw[<-il.length];exact Nat.le_refl _)
theorem age{tg:Nat->Addr}{O:Addr->Prop}{F H F1 F2 H2 H3:Hp}{ρ2:Ro}{σ2:L2.St}{d:D}{x:V}(G2:Good K tg F2 H2 ρ2 σ2)(x2:Ext O (Own ρ2 σ2) F H F2 H2)(s2:Same F1 F2)(a:Alt K F1 d x H2 H3) :
  ∃F3,Good K tg F3 H3 ρ2 σ2/\Ext O (Own ρ2 σ2) F H F3 H3/\Same F1 F3/\Is K F3 d x/\Ext (Own ρ2 σ2) (Own ρ2 σ2) F2 H2 F3 H3:=by
 rcases a with⟨rfl,id⟩ | ⟨q,vs,ds,hq,rfl,rfl,rfl,il⟩
 ·exact⟨F2,G2,x2,s2,id.mono s2,Ext.refl _ _ _⟩
 ·have z:=G2.newX hq (.tup vs);exact⟨_,G2.new hq _,x2.trans z,s2.trans z.sub,.tup dg (il.mono (s2.trans z.sub)),z⟩
theorem aml{J:It}{l:List D}{F:Hp}(Z:ItD K J l F){g:TG}{tb:TS}{D':Ends}{σ:L2.St}{H:Hp}(Pv:Nat->L2.St->Hp->Prop)(h0:Pv 0 σ H)(hl:∀i σ H,i<=l.length->Pv i σ H->Same F H)
  (hs:∀i d x σ H H',l[i]? = some d->Pv i σ H->Alt K F d x H H'->g x σ H' fun σ2 H2=>tb { D' with nx:=Pv (i+1),ct:=Pv (i+1),bk:=D'.nx } σ2 H2) (hd:∀σ H,Pv l.length σ H->D'.nx σ H) :
  ∃W:Nat->Nat->L2.St->Hp->Prop,(∃m,W 0 m σ H)/\∀i m σ H,W i m σ H ->
   (J.stop i H/\D'.nx σ H)∨(J.go i H/\∃N:L2.St->Hp->Prop,(∀σ' H',N σ' H'->∃m',m' < m/\W (i+1) m' σ' H')/\∀x H',J.yld i H x H'->g x σ H' fun σ2 H2=>tb { D' with nx:=N,ct:=N,bk:=D'.nx } σ2 H2):=by
 refine⟨fun i m σ H=>m=l.length - i/\i<=l.length/\Pv i σ H,⟨l.length,by simp,Nat.zero_le _,h0⟩,?_⟩
 rintro i m σ H ⟨rfl,hi,p⟩
 have q:=hl i σ H hi p
 by_cases hlt:i < l.length
 ·exact .inr ⟨Z.go i H q hlt,Pv (i+1),fun σ' H' p'=>⟨l.length - (i+1),by omega,rfl,hlt,p'⟩,fun x H' y=>hs i _ x σ H H' (List.getElem?_eq_getElem hlt) p (Z.yld i H x H' _ q y (List.getElem?_eq_getElem hlt))⟩
 ·have e:i=l.length:=by omega
  subst e;exact .inl ⟨Z.stop H q,hd σ H p⟩
theorem ape{J:It}{l:List D}{F:Hp}(Z:ItD K J l F){d:Addr}{g:TG}{ti:TT}{te:TE}{Q:VK}{σ0:L2.St}{H1:Hp}(Pv:Nat->List V->L2.St->Hp->Prop)(h0:Pv 0 [] σ0 (upd H1 d (.lst [])))
  (hl:∀i ys σ H,i<=l.length->Pv i ys σ H->Same F H/\H d=some (.lst ys))
  (hs:∀i e x ys σ H H' (M:List V->L2.St->Hp->Prop),l[i]? = some e->Pv i ys σ H->Alt K F e x H H'->(∀ys' σ' H',Pv (i+1) ys' σ' H'->M ys' σ' H') ->
   g x σ H' fun σ4 H4=>ti σ4 H4 fun b H5=>if b=true then te σ4 H5 fun y H6=>H6 d=some (.lst ys)/\ys.length < sizeLine/\M (ys++[y]) σ4 (upd H6 d (.lst (ys++[y]))) else M ys σ4 H5)
  (hd:∀ys σ H,Pv l.length ys σ H->Q (.ref d) H):awd J g ti te Q d σ0 H1:=by
 refine⟨fun i m ys σ H=>m=l.length - i/\i<=l.length/\Pv i ys σ H,⟨l.length,by simp,Nat.zero_le _,h0⟩,?_⟩
 rintro i m ys σ H ⟨rfl,hi,p⟩
 obtain⟨q,e⟩:=hl i ys σ H hi p;refine⟨e,?_⟩
 by_cases hlt:i < l.length
 ·exact .inr ⟨Z.go i H q hlt,fun x H' y=>hs i _ x ys σ H H' (fun ys' σ' H'=>∃m',m' < l.length - i/\(m'=l.length - (i+1)/\i+1<=l.length/\Pv (i+1) ys' σ' H')) (List.getElem?_eq_getElem hlt) p (Z.yld i H x H' _ q y (List.getElem?_eq_getElem hlt)) fun ys' σ' H' p'=>⟨l.length - (i+1),by omega,rfl,hlt,p'⟩⟩
 ·have e:i=l.length:=by omega
  subst e;exact .inl ⟨Z.stop H q,hd ys σ H p⟩
def TIt(K:Fg9)(m:M (List D)):TI:=fun σ H R=>∃tg F ρ l ρ',Good K tg F H ρ σ/\m ρ=some (.ok l,ρ')/\∀J H' F',Good K tg F' H' ρ' σ->Ext (Own ρ σ) (Own ρ' σ) F H F' H'->ItD K J l F'->R J H'
structure IT (K:Fg9) (X:Cx) (tgt iter:Expr) (m:M (List D)):Prop where
 go:X.K=K->PI X tgt iter (TIt K m)
instance {K:Fg9} {X:Cx} {tgt iter:Expr} {m:M (List D)}:CoeFun (IT K X tgt iter m) fun _=>X.K=K->PI X tgt iter (TIt K m):=⟨IT.go⟩
def ab2(m:M D):M (List D):=m.bind fun d=>lift (bz d)
theorem ad6{m:M D}(h:EV K X iter m):IT K X tgt iter (ab2 m):=IT.mk fun hk=>by
 intro zv s σ H R I ⟨tg,F,ρ,l,ρ',G,em,q⟩;obtain⟨d,ρ1,e1,em⟩:=bf em;obtain⟨e2,rfl⟩:=fu em;have h:=h hk;subst hk;cases d with
 | tup k =>
  cases e2;refine at9 h zv s σ H R I ⟨tg,F,ρ,_,_,G,e1,fun v H' F' G' x r =>?_⟩
  cases r with
  | @tup a vs _ e hl=>exact⟨a,rfl,⟨vs,SqT.of (G'.sub _ _ e)⟩,q _ H' F' G' x (.of hl (aor.imp fun H2 g=>SqT.of (g _ _ e)))⟩
 | lst k =>
  cases e2;refine alm h zv s σ H R I ⟨tg,F,ρ,_,_,G,e1,fun v H' F' G' x r =>?_⟩
  cases r with
  | @lst a vs _ e hl=>exact⟨a,rfl,⟨vs,SqL.of (G'.sub _ _ e)⟩,q _ H' F' G' x (.of hl (aje.imp fun H2 g=>SqL.of (g _ _ e)))⟩
 | kst k =>
  cases e2;refine alm h zv s σ H R I ⟨tg,F,ρ,_,_,G,e1,fun v H' F' G' x r =>?_⟩
  cases r with
  | @kst a vs _ e hl=>exact⟨a,rfl,⟨vs,L2.Same.seq G'.sub e⟩,q _ H' F' G' x (.of hl (aje.imp fun H2 g=>L2.Same.seq g e))⟩
 | _=>cases e2
def km(lo:Int)(n:Nat):List D:=(List.range n).map fun i=>D.int (lo+(i:Nat))
theorem anz{F:Hp}(lo:Int)(n:Nat):IsL K F (km lo n) (ups lo n):=by
 have e1:km lo n=((List.range n).map fun i=>lo+((i:Nat):Int)).map D.int:=by unfold km;rw[List.map_map];rfl
 have e2:ups lo n=((List.range n).map fun i=>lo+((i:Nat):Int)).map V.int:=by unfold ups;rw[List.map_map];rfl
 rw[e1,e2];exact af6 _
theorem awb{j:Int}(h:j.natAbs < 4611686018427387904) : -2 ^ 62<=j/\j < 2 ^ 62:=by
 have e:(2:Int) ^ 62=4611686018427387904:=by decide
 rw[e];omega
def yj:List D->Option (List D)
 | [.int j]=>if j.natAbs < 4611686018427387904 then some (km 0 j.toNat) else none
 | _=>none
def mGet{α β:Type}(g:α->Option β)(m:M α):M β:=m.bind fun ds=>lift (g ds)
theorem wg{m:M (List D)}(hg:Gl X "range")(hm:X.mg "range" = none)(h:ED K X [a] m)(hs:starEach [a] X.env=[(false,eval a X.env)]:=by rfl):IT K X tgt (.Call (.Name "range" p) [a] [] pos) (mGet yj m):=IT.mk fun hk=>by
 intro zv s σ H R I ⟨tg,F,ρ,l,ρ',G,em,q⟩;obtain⟨ds,ρ1,e1,em⟩:=bf em;obtain⟨e2,rfl⟩:=fu em;refine alk hg hm (h hk) hs zv s σ H R I ⟨tg,F,ρ,ds,_,G,e1,fun vs H' F' G' x r =>?_⟩
 unfold yj at e2;split at e2
 ·split at e2
  ·rename_i j hc;cases e2;cases r with
   | cons h t =>
    cases t;cases h;exact⟨_,rfl,(awb hc).1,(awb hc).2,q _ H' F' G' x (.of (anz 0 _) (aos.imp fun _ _=>trivial))⟩
  ·cases e2
 ·cases e2
noncomputable def forD(b:D->Ro->Option Ro)(g:Sd):List D->Sd
 | [],ρ=>some (.nx,ρ)
 | d::ds,ρ=>match b d ρ with
  | none=>none
  | some ρ1=>match g ρ1 with
   | some (.nx,ρ2)=>forD b g ds ρ2
   | some (.cont,ρ2)=>forD b g ds ρ2
   | some (.brk,ρ2)=>some (.nx,ρ2)
   | some (.ret r,ρ2)=>some (.ret r,ρ2)
   | some (.exc x,ρ2)=>some (.exc x,ρ2)
   | none=>none
def dFor(m:M (List D))(b:D->Ro->Option Ro)(g:Sd):Sd:=dM m (forD b g)
theorem zb{m:M (List D)}{b:D->Ro->Option Ro}{g:Sd}(hp:PassesOwn (model X.prog X.w) X.A X.env X.xe)(hc:X.calm=true)(hi:IT K X tgt iter m)(hg:GV K X tgt b)(hb:SVs K X ss g)
  (hs:∀x,foldedSetIterable iter X.env x=pure x:=by intro _;rfl):SV K X (.For tgt iter ss [] pos) (dFor m b g):=SV.mk fun hk=>PS.imp (aps hp hc (hi hk) (hg hk) (hb hk) hs) fun E σ H ⟨tg,F,ρ,fl,ρ',G,em,q⟩=>j8 em q fun l ρ1 e1 em=>by
 refine⟨tg,F,ρ,l,ρ1,G,e1,fun J H1 F1 G1 x1 Z =>?_⟩
 refine aml Z (fun i σ2 H2=>∃F2 ρ2,Good K tg F2 H2 ρ2 σ2/\Ext (Own ρ σ) (Own ρ2 σ2) F H F2 H2/\Same F1 F2/\forD b g (l.drop i) ρ2=some (fl,ρ')) ⟨F1,ρ1,G1,x1,Same.refl _,em⟩ (fun i σ2 H2 _ ⟨F2,ρ2,G2,_,s2,_⟩=>s2.trans G2.sub) ?_ ?_
 ·rintro i d x σ2 H2' H2 hd ⟨F2',ρ2,G2',x2',s2',em2⟩ al
  obtain⟨F2,G2,x2,s2,id,_⟩:=age G2' x2' s2' al;have hlt:i < l.length:=(List.getElem?_eq_some_iff.mp hd).1;have ed:l[i]=d:=(List.getElem?_eq_some_iff.mp hd).2;rw[List.drop_eq_getElem_cons hlt,ed] at em2;unfold forD at em2;split at em2
  ·cases em2
  ·rename_i ρ3 e3;refine⟨tg,F2,ρ2,d,ρ3,G2,id,e3,fun σ3 H3 F3 G3 x3 =>?_⟩
   have again:∀{ρ4:Ro},forD b g (l.drop (i+1)) ρ4=some (fl,ρ')->∀σ' H' F',Good K tg F' H' ρ4 σ'->Ext (Own ρ3 σ3) (Own ρ4 σ') F3 H3 F' H' ->
     ∃F2 ρ2,Good K tg F2 H' ρ2 σ'/\Ext (Own ρ σ) (Own ρ2 σ') F H F2 H'/\Same F1 F2/\forD b g (l.drop (i+1)) ρ2=some (fl,ρ') :=
    fun{ρ4} e4 σ' H' F' G' x'=>⟨F',ρ4,G',(x2.trans x3).trans x',(s2.trans x3.sub).trans x'.sub,e4⟩
   split at em2
   ·rename_i ρ4 e4;exact⟨tg,F3,ρ3,.nx,ρ4,G3,e4,again em2⟩
   ·rename_i ρ4 e4;exact⟨tg,F3,ρ3,.cont,ρ4,G3,e4,again em2⟩
   ·rename_i ρ4 e4;cases em2;exact⟨tg,F3,ρ3,.brk,_,G3,e4,fun σ' H' F' G' x'=>q σ' H' F' G' ((x2.trans x3).trans x')⟩
   ·rename_i r ρ4 e4;cases em2;exact⟨tg,F3,ρ3,.ret r,_,G3,e4,fun v σ' H' F' G' x' rr=>q v σ' H' F' G' ((x2.trans x3).trans x') (qj (x2.trans x3) rr)⟩
   ·cases em2;exact(show False from q).elim
   ·cases em2
 ·rintro σ2 H2 ⟨F2,ρ2,G2,x2,s2,em2⟩
  rw[List.drop_eq_nil_of_le (Nat.le_refl _)] at em2;cases em2;exact q σ2 H2 F2 G2 x2
end
def ag3(ρ:Ro)(i:Nat)(o:Option Nat)(d:Option D):Sl:=match o with
 | some j=>match ρ[j]? with
  | some (.val d)=>.val d
  | some (.own _ l)=>.own (some i) l
  | _=>.emp
 | none=>match d with
  | some d=>.val d
  | none=>.emp
def lend(ρ:Ro)(js:List (Option Nat))(ds:List (Option D)):Ro:=(List.zip js ds).mapIdx fun i p=>ag3 ρ i p.1 p.2
def okJs(ρ:Ro):List (Option Nat)->Bool
 | []=>true
 | none::r=>okJs ρ r
 | some j::r=>(match ρ[j]? with
  | some (.own _ _) => !r.contains (some j)
  | _=>true)&&okJs ρ r
theorem afz{ρ:Ro}:∀{js:List (Option Nat)} {i i' j:Nat} {t:Option Nat} {l:List D},okJs ρ js=true->js[i]? = some (some j)->js[i']? = some (some j)->ρ[j]? = some (.own t l)->i=i'
 | [],_,_,_,_,_,_,h,_,_=>by simp at h
 | o::r,0,0,_,_,_,_,_,_,_=>rfl
 | o::r,0,i'+1,j,t,l,hk,h,h',e=>by
  simp at h h';subst h;unfold okJs at hk;rw[e,Bool.and_eq_true] at hk;have:=List.mem_of_getElem? h';simp[this] at hk
 | o::r,i+1,0,j,t,l,hk,h,h',e=>by
  simp at h h';subst h';unfold okJs at hk;rw[e,Bool.and_eq_true] at hk;have:=List.mem_of_getElem? h;simp[this] at hk
 | none::r,i+1,i'+1,j,t,l,hk,h,h',e=>by
  rw[afz (js:=r) (i:=i) (i':=i') (j:=j) (by unfold okJs at hk;exact hk) (by simpa using h) (by simpa using h') e]
 | some k::r,i+1,i'+1,j,t,l,hk,h,h',e=>by
  unfold okJs at hk;rw[Bool.and_eq_true] at hk;rw[afz (js:=r) (i:=i) (i':=i') (j:=j) hk.2 (by simpa using h) (by simpa using h') e]
def putS(js:List (Option Nat))(ps:Ro)(j:Nat)(s:Sl):Sl:=match js.findIdx? (fun o=>o==some j) with
 | none=>s
 | some i=>match s with
  | .own t _=>match ps[i]? with
   | some (.own (some i') l')=>if i'=i then .own t l' else .emp
   | _=>.emp
  | s=>s
def putB(ρ:Ro)(js:List (Option Nat))(ps:Ro):Ro:=ρ.mapIdx fun j s=>putS js ps j s
def tgOf(τ:L2.St)(i:Nat):Addr:=match τ[i]? with
 | some (some (.ref a))=>a
 | _=>0
section
variable{K:Fg9}{tg:Nat->Addr}{F H F' H':Hp}{ρ ps:Ro}{σ τ:L2.St}{js:List (Option Nat)}{ds:List (Option D)}{O':Addr->Prop}
theorem aja{i:Nat}{s:Sl}(h:(lend ρ js ds:List Sl)[i]? = some s):∃o d,js[i]? = some o/\ds[i]? = some d/\s=ag3 ρ i o d:=by
 unfold lend at h;rw[List.getElem?_mapIdx] at h;cases e:(List.zip js ds)[i]? with
 | none=>rw[e] at h;cases h
 | some p =>
  rw[e] at h;cases h;rw[List.getElem?_zip_eq_some] at e;exact⟨p.1,p.2,e.1,e.2,rfl⟩
theorem aoj{i:Nat}{t:Option Nat}{l:List D}(h:(lend ρ js ds:List Sl)[i]? = some (.own t l)):∃j t',js[i]? = some (some j)/\ρ[j]? = some (.own t' l)/\t=some i:=by
 obtain⟨o,d,e1,e2,e3⟩:=aja h;unfold ag3 at e3;cases o with
 | none=>cases d <;> cases e3
 | some j =>
  simp only at e3;cases e:ρ[j]? with
  | none=>rw[e] at e3;cases e3
  | some s =>
   rw[e] at e3;cases s with
   | emp=>cases e3
   | val _=>cases e3
   | box _ _=>cases e3
   | own t' l'=>cases e3;exact⟨j,t',e1,e,rfl⟩
structure Lent (K:Fg9) (F:Hp) (σ τ:L2.St) (js:List (Option Nat)) (ds:List (Option D)):Prop where
 l1:τ.length=js.length
 l2:ds.length=js.length
 h1:∀(i j:Nat) (o:Option V),js[i]? = some (some j)->σ[j]? = some o->τ[i]? = some o
 h2:∀(i:Nat) (d:D),js[i]? = some none->ds[i]? = some (some d)->∃v,τ[i]? = some (some v)/\Is K F d v
theorem Good.σ_at(G:Good K tg F H ρ σ){j:Nat}{s:Sl}(e:(ρ:List Sl)[j]? = some s):∃o,σ[j]? = some o:=by
 obtain⟨o,h,_⟩:=G.at e;exact⟨o,h⟩
theorem aaq(G:Good K tg F H ρ σ)(L:Lent K F σ τ js ds){i:Nat}{a:Addr}(h:Owns (lend ρ js ds) τ i a):∃j,js[i]? = some (some j)/\Owns ρ σ j a:=by
 obtain⟨⟨t,l,e⟩,q⟩:=h;obtain⟨j,t',e1,e2,_⟩:=aoj e;obtain⟨o,ho⟩:=G.σ_at e2;have:=L.h1 i j o e1 ho;rw[q] at this;cases this;exact⟨j,e1,⟨t',l,e2⟩,ho⟩
theorem uq(G:Good K tg F H ρ σ)(hk:okJs ρ js=true)(L:Lent K F σ τ js ds):Good K (tgOf τ) F H (lend ρ js ds) τ where
 sub:=G.sub
 len:=by
  unfold lend;rw[List.length_mapIdx,List.length_zip,L.l2,L.l1];omega
 sl:=fun i s o e q=>by
  obtain⟨oj,d,e1,e2,rfl⟩:=aja e;unfold ag3;cases oj with
  | none =>
   cases d with
   | none=>trivial
   | some d =>
    obtain⟨v,h1,h2⟩:=L.h2 i d e1 e2;rw[q] at h1;cases h1;exact⟨v,rfl,h2⟩
  | some j =>
   simp only;cases e3:ρ[j]? with
   | none=>trivial
   | some s =>
    obtain⟨o',ho,w⟩:=G.at e3;have:=L.h1 i j o' e1 ho;rw[q] at this;cases this;cases s with
    | emp=>trivial
    | val d=>exact w
    | box _ _=>trivial
    | own t l =>
     obtain⟨a,vs,rfl,hf,hh,hl,_⟩:=w;refine⟨a,vs,rfl,hf,hh,hl,fun k e =>?_⟩
     cases e;unfold tgOf;rw[q]
 inj:=fun i i' a w w'=>by
  obtain⟨j,e,v⟩:=aaq G L w;obtain⟨j',e',v'⟩:=aaq G L w';have:=G.inj j j' a v v';subst this;obtain⟨⟨t,l,z⟩,_⟩:=v;exact afz hk e e' z
structure Fin (K:Fg9) (F' H':Hp) (τ:L2.St) (ps:Ro) (O':Addr->Prop):Prop where
 at':∀(i:Nat) (l:List D),(ps:List Sl)[i]? = some (.own (some i) l)->O' (tgOf τ i)/\F' (tgOf τ i)=none/\∃vs,H' (tgOf τ i)=some (.lst vs)/\IsL K F' l vs
theorem afn{j:Nat}{s:Sl}(h:(putB ρ js ps:List Sl)[j]? = some s):∃s0:Sl,(ρ:List Sl)[j]? = some s0/\((∃t l,s0=Sl.own t l/\∃i:Nat,js[i]? = some (some j)/\((∃l',(ps:List Sl)[i]? = some (Sl.own (some i) l')/\s=Sl.own t l')∨s=Sl.emp)) ∨
  (s=s0/\∀t l,s0=Sl.own t l->∀i:Nat,js[i]? ≠ some (some j))):=by
 unfold putB at h;rw[List.getElem?_mapIdx] at h;cases e:(ρ:List Sl)[j]? with
 | none=>rw[e] at h;cases h
 | some s0 =>
  rw[e] at h;refine⟨s0,rfl,?_⟩;have h:putS js ps j s0=s:=Option.some.inj h;unfold putS at h;cases ei:js.findIdx? (fun o=>o==some j) with
  | none =>
   rw[ei] at h;have h:s0=s:=h;refine .inr ⟨h.symm,fun _ _ _ i z =>?_⟩
   rw[List.findIdx?_eq_none_iff] at ei;have:=ei _ (List.mem_of_getElem? z);simp at this
  | some i =>
   rw[ei] at h;cases s0 with
   | emp=>exact .inr ⟨(show Sl.emp=s from h).symm,fun t l z=>by cases z⟩
   | val d=>exact .inr ⟨(show Sl.val d=s from h).symm,fun t l z=>by cases z⟩
   | box c fs=>exact .inr ⟨(show Sl.box c fs=s from h).symm,fun t l z=>by cases z⟩
   | own t l =>
    refine .inl ⟨t,l,rfl,i,?_,?_⟩
    ·obtain⟨hi,hb,_⟩:=List.findIdx?_eq_some_iff_getElem.mp ei;rw[List.getElem?_eq_getElem hi];exact congrArg some (eq_of_beq hb)
    ·have h:(match (ps:List Sl)[i]? with
      | some (.own (some i') l')=>if i'=i then Sl.own t l' else .emp
      | _=>.emp)=s:=h
     cases ep:(ps:List Sl)[i]? with
     | none=>rw[ep] at h;exact .inr h.symm
     | some sp =>
      rw[ep] at h;cases sp with
      | emp=>exact .inr h.symm
      | val _=>exact .inr h.symm
      | box _ _=>exact .inr h.symm
      | own t' l' =>
       cases t' with
       | none=>exact .inr h.symm
       | some i' =>
        have h2:(if i'=i then Sl.own t l' else .emp)=s:=h
        by_cases z:i'=i
        ·subst z;rw[if_pos rfl] at h2;exact .inl ⟨l',rfl,h2.symm⟩
        ·rw[if_neg z] at h2;exact .inr h2.symm
theorem aas{j:Nat}{a:Addr}(h:Owns (putB ρ js ps) σ j a):Owns ρ σ j a:=by
 obtain⟨⟨t,l,e⟩,q⟩:=h;obtain⟨s0,e0,h | ⟨rfl,_⟩⟩:=afn e
 ·obtain⟨t',l',rfl,i,_,⟨l2,_,z⟩ | z⟩:=h
  ·exact⟨⟨t',l',e0⟩,q⟩
  ·cases z
 ·exact⟨⟨t,l,e0⟩,q⟩
theorem xg(G:Good K tg F H ρ σ)(L:Lent K F σ τ js ds)(x:Ext (Own (lend ρ js ds) τ) O' F H F' H')(s':Same F' H')(fin:Fin K F' H' τ ps O'):Good K tg F' H' (putB ρ js ps) σ where
 sub:=s'
 len:=by
  unfold putB;rw[List.length_mapIdx];exact G.len
 sl:=fun j s o e q=>by
  obtain⟨s0,e0,h | ⟨rfl,hn⟩⟩:=afn e
  ·obtain⟨t,l,rfl,i,ei,⟨l',ep,rfl⟩ | rfl⟩:=h
   ·obtain⟨a,vs,rfl,hf,hh,hl,ht⟩:=G.sl j _ _ e0 q;obtain⟨_,hf',ws,hh',hl'⟩:=fin.at' i l' ep;have:=L.h1 i j _ ei q;have et:tgOf τ i=a:=by
     unfold tgOf;rw[this]
    rw[et] at hf' hh';exact⟨a,ws,rfl,hf',hh',hl',ht⟩
   ·trivial
  ·have w:=G.sl j _ _ e0 q;cases s with
   | emp=>trivial
   | val d =>
    obtain⟨v,h1,h2⟩:=w;exact⟨v,h1,h2.mono x.sub⟩
   | box c fs =>
    obtain⟨a,C,dx,fvs,e1,e2,e3,e4,e7,e5,e6⟩:=w;have no:¬Own (lend ρ js ds) τ a:=fun⟨i,z⟩=>by
     obtain⟨j',_,v⟩:=aaq G L z;obtain⟨_,vs,hv⟩:=G.ownAt ⟨j',v⟩;rw[e3] at hv;cases hv
    have hf:F' a=none:=by
     cases z:F' a with
     | none=>rfl
     | some o =>
      rcases x.new a o z with z | z | z
      ·rw[e2] at z;cases z
      ·rw[e3] at z;cases z
      ·exact absurd z no
    exact⟨a,C,dx,fvs,e1,hf,x.keep a _ e3 no,e4,e7,e5,fun f d h=>(e6 f d h).imp fun v h=>⟨h.1,h.2.mono x.sub⟩⟩
   | own t l =>
    obtain⟨a,vs,rfl,hf,hh,hl,ht⟩:=w;have no:¬Own (lend ρ js ds) τ a:=fun⟨i,z⟩=>by
     obtain⟨j',e1,v⟩:=aaq G L z;have:=G.inj j' j a v ⟨⟨t,l,e0⟩,q⟩;subst this;exact hn t l rfl i e1
    refine⟨a,vs,rfl,?_,x.keep a _ hh no,hl.mono x.sub,ht⟩;cases z:F' a with
    | none=>rfl
    | some o =>
     rcases x.new a o z with z | z | z
     ·rw[hf] at z;cases z
     ·rw[hh] at z;cases z
     ·exact absurd z no
 inj:=fun i j a w w'=>G.inj i j a (aas w) (aas w')
theorem ye(G:Good K tg F H ρ σ)(L:Lent K F σ τ js ds){a:Addr}(h:Own (lend ρ js ds) τ a):Own ρ σ a:=by
 obtain⟨i,h⟩:=h;obtain⟨j,_,h⟩:=aaq G L h;exact⟨j,h⟩
theorem aat(G:Good K tg F H ρ σ)(L:Lent K F σ τ js ds)(x:Ext (Own (lend ρ js ds) τ) O' F H F' H'):Ext (Own ρ σ) (Own (putB ρ js ps) σ) F H F' H' where
 sub:=x.sub
 new:=fun a o e=>by
  rcases x.new a o e with z | z | z
  ·exact .inl z
  ·exact .inr (.inl z)
  ·exact .inr (.inr (ye G L z))
 keep:=fun a o e n=>x.keep a o e fun z=>n (ye G L z)
 own:=fun a ⟨j,w⟩=>.inl ⟨j,aas w⟩
 there:=x.there
theorem anc(G:Good K tg F H ρ σ)(L:Lent K F σ τ js ds)(fin:Fin K F' H' τ ps O'){a:Addr}(ha:H a=none∨Own (lend ρ js ds) τ a)(hn:¬O' a):¬Own (putB ρ js ps) σ a:=fun⟨j,w⟩=>by
 have v:=aas w;obtain⟨⟨t,l2,e⟩,q⟩:=w;obtain⟨s0,e0,z | ⟨rfl,hno⟩⟩:=afn e
 ·obtain⟨t',l',rfl,i,ei,⟨l3,ep,z⟩ | z⟩:=z
  ·have et:tgOf τ i=a:=by
    unfold tgOf;rw[L.h1 i j _ ei q]
   have:=(fin.at' i l3 ep).1;rw[et] at this;exact hn this
  ·cases z
 ·rcases ha with ha | ⟨i,z⟩
  ·obtain⟨a',vs',ea,_,e2,_⟩:=G.sl j _ _ e0 q;cases ea;rw[ha] at e2;cases e2
  ·obtain⟨j',e1,v'⟩:=aaq G L z;have:=G.inj j' j a v' v;subst this;exact hno t l2 rfl i e1
theorem adh(G:Good K tg F H ρ σ)(L:Lent K F σ τ js ds)(fin:Fin K F' H' τ ps O'){r:Rv}{v:V}(h:relR K r v H (Own (lend ρ js ds) τ) F' H' O'):relR K r v H (Own ρ σ) F' H' (Own (putB ρ js ps) σ):=by
 cases r with
 | v d=>exact h
 | fr l =>
  obtain⟨a,vs,rfl,ha,hf,hh,hl,hn⟩:=h;exact⟨a,vs,rfl,ha.imp id (ye G L),hf,hh,hl,anc G L fin ha hn⟩
 | tf d l =>
  obtain⟨t,u,a,vs,rfl,ht,hd,ha,hf,hh,hl,hn⟩:=h;exact⟨t,u,a,vs,rfl,ht,hd,ha.imp id (ye G L),hf,hh,hl,anc G L fin ha hn⟩
end
abbrev Fd:=Ro->Option (Out Rv×Ro)
noncomputable def fnD(nl np:Nat)(g:Sd):Fd:=fun as=>match g (as++List.replicate (nl - np) .emp) with
 | some (.ret r,ρ)=>some (.ok r,ρ.take np)
 | some (.nx,ρ)=>some (.ok (.v .non),ρ.take np)
 | some (.exc x,ρ)=>some (.exc x,ρ.take np)
 | _=>none
def spOf(K:Fg9)(n:Nat)(f:Fd):Sp:=fun vs H Q _=>vs.length=n/\∃F as r ps,Good K (tgOf (vs.map some)) F H as (vs.map some)/\f as=some (.ok r,ps) /\
 ∀v H' F' O',Same F' H'->Ext (Own as (vs.map some)) O' F H F' H'->Fin K F' H' (vs.map some) ps O'->relR K r v H (Own as (vs.map some)) F' H' O'->Q v H'
section
variable{K:Fg9}
theorem aro{as:Ro}{τ:L2.St}{n:Nat}{a:Addr}(hl:as.length=τ.length)(h:Own (as++List.replicate n .emp) (τ++List.replicate n none) a):Own as τ a:=by
 obtain⟨i,⟨t,l,e⟩,q⟩:=h
 by_cases hi:i < as.length
 ·rw[List.getElem?_append_left hi] at e;rw[List.getElem?_append_left (by omega)] at q
  exact⟨i,⟨t,l,e⟩,q⟩
 ·rw[List.getElem?_append_right (by omega),List.getElem?_replicate] at e
  split at e <;> cases e
theorem an9{as:Ro}{τ:L2.St}{n:Nat}{a:Addr}(hl:as.length=τ.length)(h:Own as τ a):Own (as++List.replicate n .emp) (τ++List.replicate n none) a:=by
 obtain⟨i,⟨t,l,e⟩,q⟩:=h;have hi:=(List.getElem?_eq_some_iff.mp e).1;exact⟨i,⟨t,l,by rw[List.getElem?_append_left hi];exact e⟩,by rw[List.getElem?_append_left (by omega)];exact q⟩
theorem qg{as:Ro}{τ:L2.St}{n:Nat}(hl:as.length=τ.length):Own (as++List.replicate n .emp) (τ++List.replicate n none)=Own as τ:=funext fun a=>propext ⟨aro hl,an9 hl⟩
theorem Good.app{tg:Nat->Addr}{F H:Hp}{as:Ro}{τ:L2.St}(G:Good K tg F H as τ)(n:Nat):Good K tg F H (as++List.replicate n .emp) (τ++List.replicate n none) where
 sub:=G.sub
 len:=by rw[List.length_append,List.length_append,G.len,List.length_replicate,List.length_replicate]
 sl:=fun i s o e q=>by
  have hl:=G.len
  by_cases hi:i < as.length
  ·rw[List.getElem?_append_left hi] at e;rw[List.getElem?_append_left (by omega)] at q
   exact G.sl i s o e q
  ·rw[List.getElem?_append_right (by omega),List.getElem?_replicate] at e
   split at e
   ·cases e;trivial
   ·cases e
 inj:=fun i j a w w'=>by
  have hl:=G.len;have f:∀k,Owns (as++List.replicate n .emp) (τ++List.replicate n none) k a->Owns as τ k a:=fun k ⟨⟨t,l,e⟩,q⟩=>by
   by_cases hi:k < as.length
   ·rw[List.getElem?_append_left hi] at e;rw[List.getElem?_append_left (by omega)] at q
    exact⟨⟨t,l,e⟩,q⟩
   ·rw[List.getElem?_append_right (by omega),List.getElem?_replicate] at e
    split at e <;> cases e
  exact G.inj i j a (f i w) (f j w')
theorem ayv{P:Program}{w:World}{mg:Str->Option Value}{base:Heap}{x qual:Str}{st:Stmt}{f:Addr}{fd:FuncData}{N ps:List Str}{k:Nat}{g:Sd}(F:Fun K x qual st f fd)(S:FnScope N ps (ak st))
  (body:∀(cdv:Value) (A:Around) (outer:List Env) (s:Shared) (H:Hp) (E:XK),Room k (A.deeper (envOfC qual (ak st) s.heap.objs.size f cdv))->SVs K (cxOf CX0 P w K mg base N qual (ak st) f cdv A outer s H E).nox (du st) g) :
  FnOk P w K mg base CX0 (k+1) f fd ps (spOf K ps.length (fnD N.length ps.length g)):=by
 refine F.ok S (fun vs H Q E h=>h.1) (fun cdv A outer s H vs Q E hr h=>⟨_,body cdv A outer s H E hr rfl,?_⟩)
 obtain⟨hn,F,as,r,ps',G,em,q⟩:=h;have hl:as.length=(vs.map some).length:=G.len;have G1:=G.app (N.length - vs.length);have es:start N vs=vs.map some++List.replicate (N.length - vs.length) none:=rfl;rw[es];unfold fnD at em;rw[<-hn] at em;have fin:∀{ρ':Ro} {σ':L2.St} {F' H':Hp},Good K (tgOf (vs.map some)) F' H' ρ' σ'->Fin K F' H' (vs.map some) (ρ'.take vs.length) (Own ρ' σ'):=fun{ρ' σ' F' H'} G'=>⟨fun i l e=>by
  have hi:=(List.getElem?_eq_some_iff.mp e).1;rw[List.length_take] at hi;rw[List.getElem?_take_of_lt (by omega)] at e
  obtain⟨o,ho,a,ws,rfl,hf,hh,hl,ht⟩:=G'.at e;rw[ht i rfl];exact⟨⟨i,⟨_,_,e⟩,ho⟩,hf,ws,hh,hl⟩⟩
 split at em
 ·rename_i r' ρ' e;cases em;refine⟨_,F,_,.ret r,ρ',G1,e,fun v σ' H' F' G' x' rr =>?_⟩
  rw[qg hl] at x' rr;exact q v H' F' (Own ρ' σ') G'.sub x' (fin G') rr
 ·rename_i ρ' e;cases em;refine⟨_,F,_,.nx,ρ',G1,e,fun σ' H' F' G' x' =>?_⟩
  rw[qg hl] at x';exact q .non H' F' (Own ρ' σ') G'.sub x' (fin G') .non
 ·cases em
 ·cases em
end
section
variable{K:Fg9}{X:Cx}{e a b c tgt iter elt:Expr}{es:List Expr}{pos p p2:Pos}
inductive AR (K:Fg9) (F:Hp) (σ:L2.St):List (Option Nat)->List (Option D)->List V->Prop
 | nil:AR K F σ [] [] []
 | ex {d:D} {v:V} {js:List (Option Nat)} {ds:List (Option D)} {vs:List V} (h:Is K F d v) (t:AR K F σ js ds vs):AR K F σ (none::js) (some d::ds) (v::vs)
 | nm {j:Nat} {v:V} {js:List (Option Nat)} {ds:List (Option D)} {vs:List V} (h:σ[j]? = some (some v)) (t:AR K F σ js ds vs):AR K F σ (some j::js) (none::ds) (v::vs)
theorem AR.lent{F:Hp}{σ:L2.St}:∀{js:List (Option Nat)} {ds:List (Option D)} {vs:List V},AR K F σ js ds vs->Lent K F σ (vs.map some) js ds
 | _,_,_,.nil=>⟨rfl,rfl,fun i j o h=>by simp at h,fun i d h=>by simp at h⟩
 | _,_,_,.ex h t=>by
  have L:=t.lent;refine⟨by simp[by simpa using L.l1],by simp[L.l2],fun i j o h q =>?_,fun i d h q =>?_⟩
  ·cases i with
   | zero=>simp at h
   | succ i=>simpa using L.h1 i j o (by simpa using h) q
  ·cases i with
   | zero=>simp at q;subst q;exact⟨_,rfl,‹_›⟩
   | succ i=>simpa using L.h2 i d (by simpa using h) (by simpa using q)
 | _,_,_,.nm h t=>by
  have L:=t.lent;refine⟨by simp[by simpa using L.l1],by simp[L.l2],fun i j o h' q =>?_,fun i d h' q =>?_⟩
  ·cases i with
   | zero =>
    simp at h';subst h';rw[h] at q;cases q;rfl
   | succ i=>simpa using L.h1 i j o (by simpa using h') q
  ·cases i with
   | zero=>simp at h'
   | succ i=>simpa using L.h2 i d (by simpa using h') (by simpa using q)
theorem AR.length{F:Hp}{σ:L2.St}{js:List (Option Nat)}{ds:List (Option D)}{vs:List V}(h:AR K F σ js ds vs):vs.length=js.length:=by
 have:=h.lent.l1
 simpa using this
def TAg(K:Fg9)(js:List (Option Nat))(m:M (List (Option D))):TA:=fun σ H Q=>∃tg F ρ ds ρ',Good K tg F H ρ σ/\m ρ=some (.ok ds,ρ')/\∀vs H' F',Good K tg F' H' ρ' σ->Ext (Own ρ σ) (Own ρ' σ) F H F' H'->AR K F' σ js ds vs->Q vs H'
structure EG (K:Fg9) (X:Cx) (es:List Expr) (js:List (Option Nat)) (m:M (List (Option D))):Prop where
 go:X.K=K->PA X es (TAg K js m)
instance {K:Fg9} {X:Cx} {es:List Expr} {js:List (Option Nat)} {m:M (List (Option D))}:CoeFun (EG K X es js m) fun _=>X.K=K->PA X es (TAg K js m):=⟨EG.go⟩
def ie:M (List (Option D)):=ret []
def bw(m:M D)(ms:M (List (Option D))):M (List (Option D)):=m.bind fun d=>ms.bind fun ds=>ret (some d::ds)
def cg(j:Nat)(ms:M (List (Option D))):M (List (Option D)):=(di j).bind fun _=>ms.bind fun ds=>ret (none::ds)
theorem cu:EG K X [] [] ie:=EG.mk fun _=>PA.imp abu fun σ H Q z9=>by
 obtain⟨tg,F,ρ,ds,ρ',G,em,q⟩:=z9;obtain⟨rfl,rfl⟩:=jt em;exact q [] H F G (Ext.refl _ _ _) .nil
theorem eg_v{m:M D}{js:List (Option Nat)}{ms:M (List (Option D))}(h:EV K X e m)(t:EG K X es js ms)(hs:starEach (e::es) X.env=(false,eval e X.env)::starEach es X.env:=by rfl):EG K X (e::es) (none::js) (bw m ms):=EG.mk fun hk=>PA.imp (jy (h hk) (t hk) hs) fun σ H Q z9=>by
 obtain⟨tg,F,ρ,ds,ρ',G,em,q⟩:=z9;obtain⟨d,ρ1,e1,em⟩:=bf em;obtain⟨r,ρ2,e2,em⟩:=bf em;obtain⟨rfl,rfl⟩:=jt em;exact⟨tg,F,ρ,d,ρ1,G,e1,fun v H1 F1 G1 x1 r1=>⟨tg,F1,ρ1,r,_,G1,e2,fun vs H2 F2 G2 x2 r2=>q _ H2 F2 G2 (x1.trans x2) (.ex (r1.mono x2.sub) r2)⟩⟩
theorem eg_n{j:Nat}{js:List (Option Nat)}{ms:M (List (Option D))}(h:PE X e (tVar j))(t:EG K X es js ms)(hs:starEach (e::es) X.env=(false,eval e X.env)::starEach es X.env:=by rfl):EG K X (e::es) (some j::js) (cg j ms):=EG.mk fun hk=>PA.imp (jy h (t hk) hs) fun σ H Q z9=>by
 obtain⟨tg,F,ρ,ds,ρ',G,em,q⟩:=z9;obtain⟨d0,ρ0,e0,em⟩:=bf em;obtain⟨r,ρ2,e2,em⟩:=bf em;obtain⟨rfl,rfl⟩:=jt em;obtain⟨rfl,v,hv,_⟩:=j7 G e0;exact⟨v,hv,tg,F,ρ0,r,_,G,e2,fun vs H2 F2 G2 x2 r2=>q _ H2 F2 G2 x2 (.nm hv r2)⟩
noncomputable def mFn(f:Fd)(js:List (Option Nat))(ms:M (List (Option D))):M Rv:=ms.bind fun ds ρ=>if okJs ρ js=true then match f (lend ρ js ds) with
  | some (.ok r,ps)=>some (.ok r,putB ρ js ps)
  | some (.exc x,ps)=>some (.exc x,putB ρ js ps)
  | none=>none
 else none
theorem apz{f:Fd}{js:List (Option Nat)}{ms:M (List (Option D))}{ρ ρ':Ro}{r:Rv}(h:mFn f js ms ρ=some (.ok r,ρ')):∃ds ρ1 ps,ms ρ=some (.ok ds,ρ1)/\okJs ρ1 js=true/\f (lend ρ1 js ds)=some (.ok r,ps)/\ρ'=putB ρ1 js ps:=by
 obtain⟨ds,ρ1,e1,em⟩:=bf h;have em:(if okJs ρ1 js=true then match f (lend ρ1 js ds) with
  | some (.ok r,ps)=>some (Out.ok r,putB ρ1 js ps)
  | some (.exc x,ps)=>some (.exc x,putB ρ1 js ps)
  | none=>none
  else none)=some (.ok r,ρ'):=em
 split at em
 ·rename_i hk;split at em
  ·rename_i r' ps e2;cases em;exact⟨ds,ρ1,ps,e1,hk,e2,rfl⟩
  ·cases em
  ·cases em
 ·cases em
theorem jd{f:Fd}{n k:Nat}{x:Str}{pn:List Str}{js:List (Option Nat)}{ms:M (List (Option D))}(F:Dfn X.prog X.w X.K X.mg X.base x pn k (spOf K n f))(hr:Room k X.A)(hg:Gl X x)(ha:EG K X (e::es) js ms)(hn:js.length=n:=by rfl)(hdb:(x==("__debug__" : Str))=false:=by decide)
  (he:starEach (e::es) X.env=(false,eval e X.env)::starEach es X.env:=by rfl) (hpl:(backTo pos (starEach es X.env)).any (·.1)=false:=by rfl):ER K X (.Call (.Name x p) (e::es) [] pos) (mFn f js ms):=ER.mk fun hk=>PE.imp (axw F hr hg (ha hk) hdb he hpl) fun σ H Q z9=>by
 obtain⟨tg,F,ρ,r,ρ',G,em,q⟩:=z9;obtain⟨ds,ρ1,ps,e1,hj,e2,rfl⟩:=apz em;refine⟨tg,F,ρ,ds,ρ1,G,e1,fun vs H1 F1 G1 x1 ar =>?_⟩
 have L:=ar.lent;show spOf K n f (vs++[]) H1 Q E0;rw[List.append_nil];refine⟨by rw[ar.length];exact hn,F1,_,r,ps,uq G1 hj L,e2,fun v H' F' O' s' x' fin rr =>?_⟩
 exact q v H' F' (xg G1 L x' s' fin) (x1.trans (aat G1 L x')) (qj x1 (adh G1 L fin rr))
structure EIf (K:Fg9) (X:Cx) (ifs:List Expr) (m:M Bool):Prop where
 go:X.K=K->PIf X ifs (TB K m)
instance {K:Fg9} {X:Cx} {ifs:List Expr} {m:M Bool}:CoeFun (EIf K X ifs m) fun _=>X.K=K->PIf X ifs (TB K m):=⟨EIf.go⟩
theorem acq:EIf K X [] (ret true):=EIf.mk fun _ zv s σ H Q I z9=>by
 obtain⟨tg,F,ρ,k,ρ',G,em,q⟩:=z9;obtain⟨rfl,rfl⟩:=jt em;exact ara zv s σ H Q I (q H F G (Ext.refl _ _ _))
theorem asy{m:M Bool}(h:ET K X c m):EIf K X [c] m:=EIf.mk fun hk=>aq9 (h hk)
noncomputable def compD(b:D->Ro->Option Ro)(mc:M Bool)(me:M D):List D->List D->M (List D)
 | [],ys=>ret ys
 | d::ds,ys=>fun ρ=>match b d ρ with
  | none=>none
  | some ρ1=>(mc.bind fun k=>if k=true then me.bind fun y=>compD b mc me ds (ys++[y]) else compD b mc me ds ys) ρ1
theorem aek{b:D->Ro->Option Ro}{mc:M Bool}{me:M D}:∀{l ys yf:List D} {ρ ρ':Ro},compD b mc me l ys ρ=some (.ok yf,ρ')->ys.length<=yf.length
 | [],ys,yf,ρ,ρ',h=>by
  obtain⟨rfl,_⟩:=jt (show ret ys ρ=_ from h)
  exact Nat.le_refl _
 | d::ds,ys,yf,ρ,ρ',h=>by
  unfold compD at h;split at h
  ·cases h
  ·obtain⟨k,ρ2,e2,h⟩:=bf h;split at h
   ·obtain⟨y,ρ3,e3,h⟩:=bf h;have:=aek h;rw[List.length_append] at this;omega
   ·exact aek h
def ac7(src:List (Option Nat))(mi:M (List D))(b:D->Ro->Option Ro)(mc:M Bool)(me:M D):M Rv:=mi.bind fun l ρ=>if okJs ρ src=true then match compD b mc me l [] (lend ρ src (src.map fun _=>none)) with
  | some (.ok ys,ps)=>if ys.length<=capS then some (.ok (.fr ys),putB ρ src ps) else none
  | some (.exc x,ps)=>some (.exc x,putB ρ src ps)
  | none=>none
 else none
theorem aoi{src:List (Option Nat)}{mi:M (List D)}{b:D->Ro->Option Ro}{mc:M Bool}{me:M D}{ρ ρ':Ro}{r:Rv}(h:ac7 src mi b mc me ρ=some (.ok r,ρ')):∃l ρ1 ys ps,mi ρ=some (.ok l,ρ1)/\okJs ρ1 src=true/\compD b mc me l [] (lend ρ1 src (src.map fun _=>none))=some (.ok ys,ps)/\ys.length<=capS/\r=.fr ys/\ρ'=putB ρ1 src ps:=by
 obtain⟨l,ρ1,e1,em⟩:=bf h;have em:(if okJs ρ1 src=true then match compD b mc me l [] (lend ρ1 src (src.map fun _=>none)) with
  | some (.ok ys,ps)=>if ys.length<=capS then some (Out.ok (Rv.fr ys),putB ρ1 src ps) else none
  | some (.exc x,ps)=>some (.exc x,putB ρ1 src ps)
  | none=>none
  else none)=some (.ok r,ρ'):=em
 split at em
 ·rename_i hk;split at em
  ·rename_i ys ps e2;split at em
   ·rename_i hz;cases em;exact⟨l,ρ1,ys,ps,e1,hk,e2,hz,rfl,rfl⟩
   ·cases em
  ·cases em
  ·cases em
 ·cases em
theorem alj{F:Hp}{σ:L2.St}(src:List (Option Nat)):Lent K F σ (pick src σ) src (src.map fun _=>none):=by
 refine⟨by simp[pick],by simp,fun i j o h q =>?_,fun i d h q =>?_⟩
 ·unfold pick;rw[List.getElem?_map,h];show some ((σ[j]?).bind id)=some o;rw[q];rfl
 ·rw[List.getElem?_map,h] at q;cases q
theorem Ext.upd{O O':Addr->Prop}{F H F' H':Hp}{d:Addr}{o:HO}(x:Ext O O' F H F' H')(h:H d=none):Ext O O' F H F' (upd H' d o) :=
 ⟨x.sub,x.new,fun a u e n=>by rw[bu (gr e h)];exact x.keep a u e n,x.own,fun a e=>by
  by_cases ha:a=d
  ·subst ha;exact h
  ·rw[bu ha] at e;exact x.there a e⟩
theorem Good.upd{tg:Nat->Addr}{F H:Hp}{ρ:Ro}{σ:L2.St}{d:Addr}(G:Good K tg F H ρ σ)(hf:F d=none)(hn:¬Own ρ σ d)(o:HO)(hi:∀C dx fs,H d≠some (.ins C dx fs)):Good K tg F (upd H d o) ρ σ :=
 G.grow (Same.refl F) (fun b u e=>by
  have hb:b≠d:=fun z=>by
   subst z;rw[hf] at e;cases e
  rw[bu hb];exact G.sub b u e) (fun a w=>⟨(G.ownAt w).1,by
  have hb:a≠d:=fun z=>hn (z▸w)
  rw[bu hb]⟩) fun a C dx fvs h1 h2=>⟨h1,by
  have hb:a≠d:=fun z=>hi C dx fvs (z▸h2)
  rw[bu hb]⟩
theorem ajs{mi:M (List D)}{bb:D->Ro->Option Ro}{mc:M Bool}{me:M D}{src:List (Option Nat)}(σ:L2.St)(H:Hp)(Q:VK)(t:T K (relR K) (ac7 src mi bb mc me) σ H Q):aqs (TIt K mi) (TGd K bb) (TB K mc) (T K (relD K) me) src σ H Q:=by
 obtain⟨tg,F,ρ,r,ρ',G,em,q⟩:=t;obtain⟨l,ρ1,yf,ps,e1,hj,e2,hz,rfl,rfl⟩:=aoi em;refine⟨tg,F,ρ,l,ρ1,G,e1,fun J H1 F1 G1 x1 Z dd hd =>?_⟩
 have L:Lent K F1 σ (pick src σ) src (src.map fun _=>none):=alj src
 have Gl:=uq G1 hj L;have own0:¬Own (lend ρ1 src (src.map fun _=>none)) (pick src σ) dd:=fun z=>Gl.own_ne hd z rfl
 refine ape Z (fun i ys σc Hc=>∃Fc ρc yd,Good K (tgOf (pick src σ)) Fc Hc ρc σc/\Ext (Own (lend ρ1 src (src.map fun _=>none)) (pick src σ)) (Own ρc σc) F1 H1 Fc Hc/\Fc dd=none/\¬Own ρc σc dd/\Hc dd=some (.lst ys)/\IsL K Fc yd ys/\compD bb mc me (l.drop i) yd ρc=some (.ok yf,ps))
  ⟨F1,_,[],Gl.upd (G1.freeF hd) own0 _ (fun _ _ _ z=>by rw[hd] at z;cases z),(Ext.refl _ _ _).upd hd,G1.freeF hd,own0,dg,.nil,e2⟩ ?_ ?_ ?_
 ·rintro i ys σc Hc _ ⟨Fc,ρc,yd,Gc,xc,_,_,hdd,_,_⟩
  exact⟨xc.sub.trans Gc.sub,hdd⟩
 ·rintro i d x ys σc Hc0 Hc M hdl ⟨Fc0,ρc,yd,Gc0,xc0,fd0,od0,hdd0,iy0,ec⟩ al hM
  obtain⟨Fc,Gc,xc,_,idl,xa⟩:=age Gc0 xc0 xc0.sub al;have iy:=iy0.mono xa.sub;have hlt:i < l.length:=(List.getElem?_eq_some_iff.mp hdl).1;have edl:l[i]=d:=(List.getElem?_eq_some_iff.mp hdl).2;rw[List.drop_eq_getElem_cons hlt,edl] at ec;unfold compD at ec;have step:∀{F2 H2:Hp} {ρ2 ρ3:Ro} {σ2 σ3:L2.St} {F3 H3:Hp},F2 dd=none->¬Own ρ2 σ2 dd->H2 dd=some (.lst ys)->Ext (Own ρ2 σ2) (Own ρ3 σ3) F2 H2 F3 H3->F3 dd=none/\¬Own ρ3 σ3 dd/\H3 dd=some (.lst ys):=fun{F2 H2 ρ2 ρ3 σ2 σ3 F3 H3} h1 h2 h3 x3=>by
   refine⟨?_,fun z =>?_,x3.keep _ _ h3 h2⟩
   ·cases z:F3 dd with
    | none=>rfl
    | some o =>
     rcases x3.new _ _ z with z | z | z
     ·rw[h1] at z;cases z
     ·rw[h3] at z;cases z
     ·exact absurd z h2
   ·rcases x3.own _ z with z | z
    ·exact h2 z
    ·rw[h3] at z;cases z
  obtain⟨fd,od,hdd⟩:=step fd0 od0 hdd0 xa;split at ec
  ·cases ec
  ·rename_i ρ2 eb;refine⟨_,Fc,ρc,d,ρ2,Gc,idl,eb,fun σ2 H2 F2 G2 x2 =>?_⟩
   obtain⟨k,ρ3,ek,ec⟩:=bf ec;obtain⟨fd2,od2,hdd2⟩:=step fd od hdd x2;refine⟨_,F2,ρ2,k,ρ3,G2,ek,fun H3 F3 G3 x3 =>?_⟩
   obtain⟨fd3,od3,hdd3⟩:=step fd2 od2 hdd2 x3;cases k with
   | false =>
    refine iteF (hM _ _ _ ⟨F3,ρ3,yd,G3,(xc.trans x2).trans x3,fd3,od3,hdd3,(iy.mono x2.sub).mono x3.sub,ec⟩)
   | true =>
    obtain⟨y,ρ4,ey,ec⟩:=bf ec;refine iteT ⟨_,F3,ρ3,y,ρ4,G3,ey,fun v H4 F4 G4 x4 iv =>?_⟩
    obtain⟨fd4,od4,hdd4⟩:=step fd3 od3 hdd3 x4;refine⟨hdd4,?_,hM _ _ _ ⟨F4,ρ4,yd++[y],G4.upd fd4 od4 _ (fun _ _ _ z=>by rw[hdd4] at z;cases z),(((xc.trans x2).trans x3).trans x4).upd hd,fd4,od4,dg,?_,ec⟩⟩
    ·have:=aek ec;rw[List.length_append,iy.length] at this;rw[sizeLine_eq];exact Nat.lt_of_lt_of_le (by simpa using Nat.lt_succ_self ys.length) (Nat.le_trans this hz)
    ·exact(((iy.mono x2.sub).mono x3.sub).mono x4.sub).append (.cons iv .nil)
 ·rintro ys σc Hc ⟨Fc,ρc,yd,Gc,xc,fd,od,hdd,iy,ec⟩
  rw[List.drop_eq_nil_of_le (Nat.le_refl _)] at ec;obtain⟨rfl,rfl⟩:=jt (show ret yd ρc=_ from ec)
  have fin:Fin K Fc Hc (pick src σ) ps (Own ps σc):=⟨fun i l' e=>by
   obtain⟨o,ho,a,ws,rfl,hf,hh,hl,ht⟩:=Gc.at e;rw[ht i rfl];exact⟨⟨i,⟨_,_,e⟩,ho⟩,hf,ws,hh,hl⟩⟩
  refine q _ Hc Fc (xg G1 L xc Gc.sub fin) (x1.trans (aat G1 L xc)) ⟨dd,ys,rfl,.inl (x1.there dd hd),fd,hdd,iy,fun⟨j,w⟩ =>?_⟩
  exact G1.own_ne hd ⟨j,aas w⟩ rfl
theorem aco{ifs:List Expr}{scope:Scope}{mi:M (List D)}{bb:D->Ro->Option Ro}{mc:M Bool}{me:M D}(fr N:List Str)(src:List (Option Nat))(hc:X.calm=true)(hi:IT K X tgt iter mi)
  (hg:∀fp s H,GV K (cxC X N scope fr fp s H) tgt bb) (ht:∀fp s H,EIf K (cxC X N scope fr fp s H) ifs mc) (he:∀fp s H,EV K (cxC X N scope fr fp s H) elt me)
  (hok:ae8 X.env X.N scope fr N src=true:=by rfl) (hkind:scope.kind=.function:=by rfl) (hclos:closureFor scope X.env=pure (xf X.env fr):=by rfl)
  (hs:∀x,foldedSetIterable iter X.env x=pure x:=by intro _;rfl):ER K X (.ListComp elt [⟨tgt,iter,ifs,0⟩] scope pos) (ac7 src mi bb mc me):=ER.mk fun hk=>by
 have hkc:∀fp s H,(cxC X N scope fr fp s H).K=K:=fun _ _ _=>hk
 refine PE.imp (ari fr N src hc (hi hk) (fun fp s H=>(hg fp s H).go (hkc _ _ _)) (fun fp s H=>(ht fp s H).go (hkc _ _ _)) (fun fp s H=>(he fp s H).go (hkc _ _ _)) hok hkind hclos hs) ajs
end
end Dn
namespace Mn
open L2
theorem aq2{X:Cx}{tg iter elt:Expr}{ifs:List Expr}{scope:Scope}{cpos pos px:Pos}{wi:TI}{g:TG}{ti:TT}{te:TE}{i:Nat}{x:Str}(fr N:List Str)(src:List (Option Nat))(hN:X.N.Nodup)(hxi:X.N[i]? = some x)(hx:Loc X.env.scope x)(hc:X.calm=true)(hi:PI X tg iter wi)
  (hg:∀fp s H,PG (cxC X N scope fr fp s H) tg g) (ht:∀fp s H,PIf (cxC X N scope fr fp s H) ifs ti) (he:∀fp s H,PE (cxC X N scope fr fp s H) elt te)
  (hsw:swapsWith (.ListComp elt [⟨tg,iter,ifs,0⟩] scope cpos) (some (.Name x px)) pos.line X.env=pure true:=by rfl)
  (hok:ae8 X.env X.N scope fr N src=true:=by rfl) (hkind:scope.kind=.function:=by rfl) (hclos:closureFor scope X.env=pure (xf X.env fr):=by rfl)
  (hs:∀x,foldedSetIterable iter X.env x=pure x:=by intro _;rfl) (hf:X.fn x=true∨X.env.scope.names.lookup x=some .local:=by first | exact .inl rfl | exact .inr rfl | assumption) :
  PS X (.Assign [.Name x px] (.ListComp elt [⟨tg,iter,ifs,0⟩] scope cpos) pos) (tAsg (aqs wi g ti te src) (asl i)):=by
 have C:=CompOk.of hok;intro zv s σ H D I h;rw[exec_Assign_Name_used _ _ _ _ hsw];refine wpAny_bind (wpAny_standAt (wpAny_bind ?_));show wpAny _ _ (comprehension (.ListComp elt [⟨tg,iter,ifs,0⟩] scope cpos) scope X.env (firstIterPos [⟨tg,iter,ifs,0⟩] cpos) (newList []) (firstAsync [⟨tg,iter,ifs,0⟩]) (firstIter [⟨tg,iter,ifs,0⟩] X.env) (some (assign (.Name x px) X.env)) >>= fun _=>pure ()) _ _ _
 refine wpAny_bind (wpAny_comprehension_free (use:=some (assign (.Name x px) X.env)) (Q:=fun _ s'=>wpAny (model X.prog X.w) X.A (pure ()) (fun _ s''=>wpAny (model X.prog X.w) X.A (pure Flow.next) (SP X zv D) X.xe s'') X.xe s') rfl hs hclos hkind C.loc (wpAny_mono (hi zv s σ H _ I h) (fun v s1 h1=>wpAny_mono h1 (fun itv s2 h2 =>?_) fun _ _ e=>e) fun _ _ e=>e))
 obtain⟨it,fp,tn,J,H2,e,I2,T,st2,f2,q2⟩:=h2;subst e;have hd0:H2 s2.heap.objs.size=none:=I2.hok.fresh (Nat.le_refl _);obtain⟨W,⟨m0,w0⟩,turn⟩:=q2 s2.heap.objs.size hd0;refine wpAny_newObj_type ?_;generalize hs3:({ s2 with heap:=s2.heap.push { cls:=.type "list", dict:=none,data:=.seq ([]:List Value).toArray } }:Shared)=s3
 have keep2:∀b o,s2.heap.get? b=some o->s3.heap.get? b=some o:=fun b o e=>by rw[<-hs3];exact Heap.get?_push_of_some _ e
 have I3:Inv X zv σ (upd H2 s2.heap.objs.size (.lst [])) s3:=by
  rw[<-hs3];exact I2.laid (t':=s2.toks) (fun b u q=>Heap.get?_push_of_some _ q) (Nat.le_refl _) ⟨Nat.zero_le _,[],0,.nil,Heap.get?_push_size _ rfl⟩
 have ne0:∀b∈fp,b≠s2.heap.objs.size:=fun b hb=>by
  obtain⟨o,e,_⟩:=T.obj _ _ st2 b hb;exact Nat.ne_of_lt (Heap.lt_size e)
 have f3:∀b∈fp,FpOk X zv (upd H2 s2.heap.objs.size (.lst [])) b:=fun b hb=>⟨by rw[bu (ne0 b hb)];exact(f2 b hb).1,(f2 b hb).2⟩
 have lt3:∀b∈fp,b < s3.heap.objs.size:=fun b hb=>by
  obtain⟨o,e,_⟩:=T.obj _ _ st2 b hb;exact Heap.lt_size (keep2 b o e)
 refine wpAny_newFunctionEnv C.cell (by intro y hy;simp at hy) (fun h₁ hns₁ hsb₁ =>?_) hkind
 have keep3:∀b o,s3.heap.get? b=some o->h₁.get? b=some o:=fun b o e=>hsb₁.extBut b o (Nat.ne_of_lt (Heap.lt_size e)) (Heap.get?_push_of_some _ e)
 have st4:tn 0 h₁:=T.keep _ _ _ st2 fun b hb o e=>keep3 b o (keep2 b o e)
 have I4:=ajg (tk:=s3.toks+([]:List (Str×Value)).length) I3 C hkind f3 lt3 hns₁ keep3;have loop:=ahh (X:=cxC X N scope fr fp s3 (upd H2 s2.heap.objs.size (.lst []))) (iter:=iter) (scope:=scope) (pos:=cpos) (d:=s2.heap.objs.size) (Q:=fun v H1=>D.nx (σ.set i (some v)) H1)
  (R:=compPost (model X.prog X.w) X.A X.xe (some (assign (.Name x px) X.env)) (fun _ s'=>wpAny (model X.prog X.w) X.A (pure ()) (fun _ s''=>wpAny (model X.prog X.w) X.A (pure Flow.next) (SP X zv D) X.xe s'') X.xe s') (.ref s2.heap.objs.size) s3.heap.objs.size) hc rfl T
  (fun H' hn b hb=>⟨hn b hb,Nat.ne_of_lt (lt3 b hb),I4.ok.exfs b hb,.inl hb,(I4.ok.exf b hb).2,fun p hp=>absurd (show p∈([]:List (Addr×Obj)) from hp) (by simp)⟩)
  (hg fp s3 _) (ht fp s3 _) (he fp s3 _) turn w0 I4 st4 (fun b hb=>(f3 b hb).1) (fun σ' H' s' I6 qn=>by
   obtain⟨m6,hn6,_⟩:=I6.loc;have fC:FpOk X zv H' s3.heap.objs.size:=I3.fpOk (Nat.le_refl _) I6.free;have I7:Inv X zv σ H' s':=ajh I3 f3 I6 (Heap.SameBut.refl ..);refine wpAny_assign_Name (agj I7 hN hxi hx (v:=.ref s2.heap.objs.size) rfl (fun s8 I8 ⟨a,sb,ha⟩ =>?_) hf)
   have hne:s3.heap.objs.size≠a:=by
    rcases ha with rfl | ha
    ·exact fC.2.1
    ·exact(fC.2.2.2.2.1 x a ha).symm
   obtain⟨o6,es6,ep6,g6,r6⟩:=hn6;refine⟨m6,⟨o6,es6,ep6,(sb.2 _ hne).trans g6,r6⟩,fun h9 sb9=>wpAny_pure (wpAny_pure ⟨_,H',?_,qn⟩)⟩
   exact I8.turned (t':=s8.toks) (it:=s3.heap.objs.size) (fun b o hb e=>(sb9.2 b hb).trans e) fC.1 fC.2.1 fC.2.2.2.1 fC.2.2.2.2.1 fC.2.2.2.2.2)
 exact codeAny_compStart_list loop (T.self _ 0 _ _ _ st4 loop)
end Mn
namespace Dn
open L2 Mn
section
variable{K:Fg9}{X:Cx}{tgt iter elt:Expr}{pos p:Pos}
theorem aqw{i:Nat}{x:Str}{ifs:List Expr}{scope:Scope}{cpos:Pos}{mi:M (List D)}{bb:D->Ro->Option Ro}{mc:M Bool}{me:M D}(fr N:List Str)(src:List (Option Nat))(hN:X.N.Nodup)(hxi:X.N[i]? = some x)(hx:Loc X.env.scope x)(hc:X.calm=true)(hi:IT K X tgt iter mi)
  (hg:∀fp s H,GV K (cxC X N scope fr fp s H) tgt bb) (ht:∀fp s H,EIf K (cxC X N scope fr fp s H) ifs mc) (he:∀fp s H,EV K (cxC X N scope fr fp s H) elt me)
  (hsw:swapsWith (.ListComp elt [⟨tgt,iter,ifs,0⟩] scope cpos) (some (.Name x p)) pos.line X.env=pure true:=by rfl)
  (hok:ae8 X.env X.N scope fr N src=true:=by rfl) (hkind:scope.kind=.function:=by rfl) (hclos:closureFor scope X.env=pure (xf X.env fr):=by rfl)
  (hs:∀x,foldedSetIterable iter X.env x=pure x:=by intro _;rfl) (hf:X.fn x=true∨X.env.scope.names.lookup x=some .local:=by first | exact .inl rfl | exact .inr rfl | assumption) :
  SV K X (.Assign [.Name x p] (.ListComp elt [⟨tgt,iter,ifs,0⟩] scope cpos) pos) (dSet i (ac7 src mi bb mc me)):=SV.mk fun hk=>by
 have hkc:∀fp s H,(cxC X N scope fr fp s H).K=K:=fun _ _ _=>hk
 refine PS.imp (aq2 fr N src hN hxi hx hc (hi hk) (fun fp s H=>(hg fp s H).go (hkc _ _ _)) (fun fp s H=>(ht fp s H).go (hkc _ _ _)) (fun fp s H=>(he fp s H).go (hkc _ _ _)) hsw hok hkind hclos hs hf) fun E σ H ⟨tg,F,ρ,fl,ρ',G,em,q⟩=>j8 em q fun r ρ1 e1 em =>?_
 cases em;refine ajs σ H _ ⟨tg,F,ρ,r,ρ1,G,e1,fun v H' F' G' x rr =>?_⟩
 obtain⟨G2,x2⟩:=G'.store x i rr;exact q _ H' F' G2 x2
end
@[irreducible] def fuel:Nat:=1000000000
section
variable{K:Fg9}{X:Cx}{e a b c:Expr}{es:List Expr}{pos p p2:Pos}
end
def aiw(f:Fd):Prop:=∀ns:List Int,ns.length<=63->∃ps,f [.val (.kst (ns.map D.int))]=some (.ok (.v (.bl true)),ps)
theorem atp{K:Fg9}{f:Fd}(h:aiw f)(H:Hp)(a:Addr)(ns:List Int)(hn:ns.length<=63)(hS:SqL K H a (ns.map V.int)):spOf K 1 f [.ref a] H (fun v _=>v=.bl true) fun _ _ _=>False:=by
 obtain⟨ps,e⟩:=h ns hn;refine⟨rfl,H,_,_,ps,⟨Same.refl H,rfl,fun i s o e1 e2 =>?_,fun i j b ⟨⟨t,l,e1⟩,_⟩ _=>by cases i <;> simp at e1⟩,e,fun v H' F' O' _ _ _ rr =>?_⟩
 ·cases i with
  | zero =>
   simp at e1 e2;subst e1 e2;exact⟨_,rfl,.kst hS (af6 ns)⟩
  | succ i=>simp at e1
 ·have rr:Is K F' (.bl true) v:=rr;cases rr;rfl
theorem walk{l:PySem.W.OpenLaw}{q:Program}{loose:List Str}{XP:(Str->Option Value)->Heap->Prop}{YP:World->Heap->Prop}{d:DefRec}{K:Params->Fg9}{f:Fd}{k:Nat}(ht:aiw f)(hn:l.most=some 63)(hdf:d.params.defaults=[])(hr:Room k callerA)
  (hY:∀(w:World) (h:Heap),YP w h->(K w.params).In h)
  (F:∀(w:World) (mg:Str->Option Value) (fa:Addr) (h:Heap),(K w.params).In h->h.Ns mainGlobals mg->mg d.name=some (.ref fa) ->
   ∃fd:FuncData,(∀(s:Shared) (u:Value),BindsTo s fd ⟨[u],[]⟩ [("script", u)])/\∀base:Heap,(K w.params).In base->base.Ns mainGlobals mg->FnOk l.prog w (K w.params) mg base CX0 k fa fd ["script"] (spOf (K w.params) 1 f)) :
  PySem.W.WalkO q loose XP YP l.row.toRowW d [] (fun f vs=>PySem.call f vs) :=
 L2.aqh (n:=63) (k:=k) (x := "script") (CX:=fun _=>CX0) (sp:=fun w=>spOf (K w.params) 1 f) hn (by decide) hdf hr hY F (fun _ H a ns hl _ hS=>atp ht H a ns hl hS) fun _ _ _ _ _ z=>z
section
variable{α β:Type}(ρ:Ro)
@[simp] theorem azk(a:α):ret a ρ=some (.ok a,ρ):=rfl
@[simp] theorem aye(o:Option α):lift o ρ=match o with
 | some a=>some (.ok a,ρ)
 | none=>none:=rfl
@[simp] theorem azc(m:M α)(k:α->M β):M.bind m k ρ=match m ρ with
 | some (.ok a,ρ1)=>k a ρ1
 | some (.exc x,ρ1)=>some (.exc x,ρ1)
 | none=>none:=rfl
@[simp] theorem v_ap(m:M D):M.v m ρ=(m.bind fun d=>ret (.v d)) ρ:=rfl
@[simp] theorem d_ap(m:M Rv):M.d m ρ=(m.bind fun r=>ret r.d) ρ:=rfl
@[simp] theorem az0(d:D):(Rv.v d).d=d:=rfl
@[simp] theorem azj(l:List D):(Rv.fr l).d=.lst l:=rfl
@[simp] theorem azi(d:D)(l:List D):(Rv.tf d l).d=.tup [d,.lst l]:=rfl
@[simp] theorem azz(d:D):(Rv.v d).sl=.val d:=rfl
@[simp] theorem azh(l:List D):(Rv.fr l).sl=.own none l:=rfl
@[simp] theorem ax0(i:Nat):mVar i ρ=match ρ[i]? with
 | some (.val d)=>some (.ok d,ρ)
 | some (.own none l)=>some (.ok (.lst l),ρ.set i (.val (.lst l)))
 | _=>none:=rfl
@[simp] theorem awg(i:Nat):di i ρ=match ρ[i]? with
 | some (.val d)=>some (.ok d,ρ)
 | some (.own _ l)=>some (.ok (.lst l),ρ)
 | _=>none:=rfl
@[simp] theorem awl(i:Nat):akk i ρ=match ρ[i]? with
 | some (.val d)=>some (.ok (.v d),ρ)
 | some (.own none l)=>some (.ok (.fr l),ρ.set i .emp)
 | _=>none:=rfl
@[simp] theorem ax2(i:Nat):mOwn i ρ=match ρ[i]? with
 | some (.own _ l)=>some (.ok l,ρ)
 | _=>none:=rfl
@[simp] theorem au2(i:Nat)(l':List D):ab1 i l' ρ=match ρ[i]? with
 | some (.own t _)=>some (.ok (),List.set ρ i (.own t l'))
 | _=>none:=rfl
@[simp] theorem awj(m1 m2:M D):gn m1 m2 ρ=(m1.bind fun x=>m2.bind fun y=>ret (x,y)) ρ:=rfl
@[simp] theorem au3(i:Nat)(m2:M D):fj i m2 ρ=((di i).bind fun _=>m2.bind fun y=>(di i).bind fun x=>ret (x,y)) ρ:=rfl
@[simp] theorem azn(g:D->D->Option Rv)(m:M (D×D)):mOp g m ρ=(m.bind fun p=>lift (g p.1 p.2)) ρ:=rfl
@[simp] theorem azm(g:D->Option D)(m:M D):mUn g m ρ=(m.bind fun d=>lift (g d)) ρ:=rfl
@[simp] theorem ayb(m1 m2:M D):mAnd m1 m2 ρ=(m1.bind fun d=>(lift (asB d)).bind fun k=>if k=true then m2 else ret (.bl false)) ρ:=rfl
@[simp] theorem awh(m:M D):uo m ρ=(m.bind fun d=>lift (asB d)) ρ:=rfl
@[simp] theorem au1(g:D->D->Option Rv)(m:M (D×D)):um g m ρ=uo (mOp g m).d ρ:=rfl
@[simp] theorem awk(m:M Bool):yc m ρ=(m.bind fun k=>ret (!k)) ρ:=rfl
@[simp] theorem ax3(m1 m2:M Bool):mOrB m1 m2 ρ=(m1.bind fun k=>if k=true then ret true else m2) ρ:=rfl
@[simp] theorem azp(c:Prop)[Decidable c](m1 m2:M α):(if c then m1 else m2) ρ=if c then m1 ρ else m2 ρ:=by split <;> rfl
@[simp] theorem ayk(c:Prop)[Decidable c](m1 m2:Sd):(if c then m1 else m2) ρ=if c then m1 ρ else m2 ρ:=by split <;> rfl
@[simp] theorem azy(b:Bool):asB (.bl b)=some b:=rfl
@[simp] theorem azf(b:Int):asI (.int b)=some b:=rfl
@[simp] theorem ayq(b:Bool):gNot (.bl b)=some (.bl (!b)):=rfl
@[simp] theorem aws(b:Int):gNeg (.int b)=some (.int (-b)):=rfl
@[simp] theorem aw6(i j:Int):gAdd (.int i) (.int j)=some (.v (.int (i+j))):=rfl
@[simp] theorem aw4(l k:List D):gAdd (.tup l) (.tup k)=if l.length+k.length<=capS then some (.v (.tup (l++k))) else none:=rfl
@[simp] theorem aw5(l k:List D):gAdd (.lst l) (.lst k)=if l.length+k.length<=capS then some (.fr (l++k)) else none:=rfl
@[simp] theorem awx(f:Int->Int->Option Int)(i j:Int):gInt f (.int i) (.int j)=(f i j).map fun k=>.v (.int k):=rfl
@[simp] theorem ayy(i j:Int):fSub i j=some (i - j):=rfl
@[simp] theorem awv(i j:Int):gMul (.int i) (.int j)=(fMul i j).map fun k=>.v (.int k):=rfl
@[simp] theorem awt(l:List D)(k:Int):gMul (.tup l) (.int k)=if k=1 then some (.v (.tup l)) else if l≠[]/\2<=k/\k < 9223372036854775808/\l.length*k.toNat<=capS then some (.v (.tup (List.replicate k.toNat l).flatten)) else none:=rfl
@[simp] theorem awu(l:List D)(k:Int):gMul (.lst l) (.int k)=if k.natAbs < 9223372036854775808/\l.length*k.toNat<=capS then some (.fr (List.replicate k.toNat l).flatten) else none:=rfl
@[simp] theorem aw2(f:Int->Int->Bool)(i j:Int):gCmp f (.int i) (.int j)=some (.v (.bl (f i j))):=rfl
@[simp] theorem ax7(t:Ty)(m:M D):mIsi t m ρ=(m.bind fun d=>ret (.bl (isTy t d))) ρ:=rfl
@[simp] theorem au9(f g:Int->Int->Bool)(m1 m2 m3:M D):ad0 f g m1 m2 m3 ρ=(m1.bind fun x=>m2.bind fun y=>match x,y with
 | .int i,.int j=>if f i j=true then m3.bind fun z=>match z with
  | .int k=>ret (.bl (g j k))
  | _=>lift none
  else ret (.bl false)
 | _,_=>lift none) ρ:=rfl
@[simp] theorem ax4:mNil ρ=some (.ok [],ρ):=rfl
@[simp] theorem awp(m:M D)(ms:M (List D)):bc m ms ρ=(m.bind fun d=>ms.bind fun ds=>ret (d::ds)) ρ:=rfl
@[simp] theorem au8(i:Nat)(ms:M (List D)):dw i ms ρ=((di i).bind fun _=>ms.bind fun ds=>(di i).bind fun d=>ret (d::ds)) ρ:=rfl
@[simp] theorem ax1(m:M (List D)):mTup m ρ=(m.bind fun ds=>lift (gTup ds)) ρ:=rfl
@[simp] theorem ax6(m:M (List D)):mLst m ρ=(m.bind fun ds=>lift (gLst ds)) ρ:=rfl
@[simp] theorem awr(g:List D->Option Rv)(m:M (List D)):jc g m ρ=(m.bind fun ds=>lift (g ds)) ρ:=rfl
@[simp] theorem azs(f:D->Option Rv)(d:D):g1 f [d]=f d:=rfl
@[simp] theorem azr(f:D->D->Option Rv)(d d':D):g2 f [d,d']=f d d':=rfl
@[simp] theorem avl(l:List D):bz (.tup l)=some l:=rfl
@[simp] theorem avm(l:List D):bz (.lst l)=some l:=rfl
@[simp] theorem avn(l:List D):bz (.kst l)=some l:=rfl
@[simp] theorem aw3(l:List D):gAll (.lst l)=(vg l).map fun bs=>.v (.bl (bs.all id)):=rfl
@[simp] theorem avu(i:Int):ao0 (.int i)=some (.v (.int i)):=rfl
@[simp] theorem awy(i:Bool):ao0 (.bl i)=some (.v (.int (if i then 1 else 0))):=rfl
@[simp] theorem ays(d:D)(k:Int):gIx d (.int k)=(bz d).bind fun l=>(atI l k).map fun x=>.v x:=rfl
@[simp] theorem awo(i:Nat)(ml mh:M (Option Int)):agz i ml mh ρ=((di i).bind fun _=>ml.bind fun lo=>mh.bind fun hi=>(di i).bind fun d=>lift (gCut d lo hi)) ρ:=rfl
@[simp] theorem awi(m:M D):af2 m ρ=(m.bind fun d=>lift ((asI d).map some)) ρ:=rfl
@[simp] theorem awz(l:List D)(lo hi:Option Int):gCut (.tup l) lo hi=some (.v (.tup (cutD l lo hi))):=rfl
@[simp] theorem aw0(l:List D)(lo hi:Option Int):gCut (.lst l) lo hi=some (.fr (cutD l lo hi)):=rfl
@[simp] theorem aw1(l:List D)(lo hi:Option Int):gCut (.kst l) lo hi=some (.fr (cutD l lo hi)):=rfl
@[simp] theorem au4(m:M D):ab2 m ρ=(m.bind fun d=>lift (bz d)) ρ:=rfl
@[simp] theorem ax9(g:α->Option β)(m:M α):mGet g m ρ=(m.bind fun ds=>lift (g ds)) ρ:=rfl
@[simp] theorem asj(j:Int):yj [.int j]=if j.natAbs < 4611686018427387904 then some (km 0 j.toNat) else none:=rfl
@[simp] theorem asm(i j:Int):af9 (.int i) (.int j)=if 0 < j/\j < 1000000000000000000000000000000000000000000000000000000000000 then some (.v (.tup [.int (i / j),.int (i % j)])) else none:=rfl
@[simp] theorem ax5(i:Nat)(g:List D->List D->Option (D×List D))(ms:M (List D)):mMut i g ms ρ=((mOwn i).bind fun _=>ms.bind fun ds=>(mOwn i).bind fun l=>(lift (g l ds)).bind fun r=>(ab1 i r.2).bind fun _=>ret r.1) ρ:=rfl
@[simp] theorem asp(l:List D)(d:D):aea l [d]=if l.length < capS then some (.non,l++[d]) else none:=rfl
@[simp] theorem awn:ie ρ=some (.ok [],ρ):=rfl
@[simp] theorem au6(m:M D)(ms:M (List (Option D))):bw m ms ρ=(m.bind fun d=>ms.bind fun ds=>ret (some d::ds)) ρ:=rfl
@[simp] theorem au5(j:Nat)(ms:M (List (Option D))):cg j ms ρ=((di j).bind fun _=>ms.bind fun ds=>ret (none::ds)) ρ:=rfl
@[simp] theorem azo(f:Fd)(js:List (Option Nat))(ms:M (List (Option D))):mFn f js ms ρ=(ms.bind fun ds ρ=>if okJs ρ js=true then match f (lend ρ js ds) with
  | some (.ok r,ps)=>some (.ok r,putB ρ js ps)
  | some (.exc x,ps)=>some (.exc x,putB ρ js ps)
  | none=>none
 else none) ρ:=rfl
@[simp] theorem awq(src:List (Option Nat))(mi:M (List D))(b:D->Ro->Option Ro)(mc:M Bool)(me:M D):ac7 src mi b mc me ρ=(mi.bind fun l ρ=>if okJs ρ src=true then match compD b mc me l [] (lend ρ src (src.map fun _=>none)) with
  | some (.ok ys,ps)=>if ys.length<=capS then some (.ok (.fr ys),putB ρ src ps) else none
  | some (.exc x,ps)=>some (.exc x,putB ρ src ps)
  | none=>none
 else none) ρ:=rfl
@[simp] theorem awf:okJs ρ []=true:=rfl
@[simp] theorem auy(r:List (Option Nat)):okJs ρ (none::r)=okJs ρ r:=rfl
@[simp] theorem auw(j:Nat)(r:List (Option Nat)):okJs ρ (some j::r)=((match ρ[j]? with
  | some (.own _ _) => !r.contains (some j)
  | _=>true)&&okJs ρ r):=rfl
@[simp] theorem lend_eq(js:List (Option Nat))(ds:List (Option D)):lend ρ js ds=(List.zip js ds).mapIdx fun i p=>ag3 ρ i p.1 p.2:=rfl
@[simp] theorem atc(i j:Nat)(d:Option D):ag3 ρ i (some j) d=match ρ[j]? with
  | some (.val d)=>.val d
  | some (.own _ l)=>.own (some i) l
  | _=>.emp:=rfl
@[simp] theorem ayf(i:Nat)(d:D):ag3 ρ i none (some d)=.val d:=rfl
@[simp] theorem ayg(i:Nat):ag3 ρ i none none=.emp:=rfl
@[simp] theorem axr(js:List (Option Nat))(ps:Ro):putB ρ js ps=ρ.mapIdx fun j s=>putS js ps j s:=rfl
@[simp] theorem axq(js:List (Option Nat))(ps:Ro)(j:Nat)(s:Sl):putS js ps j s=match js.findIdx? (fun o=>o==some j) with
 | none=>s
 | some i=>match s with
  | .own t _=>match ps[i]? with
   | some (.own (some i') l')=>if i'=i then .own t l' else .emp
   | _=>.emp
  | s=>s:=rfl
@[simp] theorem azt(nl np:Nat)(g:Sd):fnD nl np g ρ=match g (ρ++List.replicate (nl - np) .emp) with
 | some (.ret r,ρ)=>some (.ok r,ρ.take np)
 | some (.nx,ρ)=>some (.ok (.v .non),ρ.take np)
 | some (.exc x,ρ)=>some (.exc x,ρ.take np)
 | _=>none:=rfl
@[simp] theorem azw:dNx ρ=some (.nx,ρ):=rfl
@[simp] theorem ay7(g k:Sd):dSeq g k ρ=match g ρ with
 | some (.nx,ρ1)=>k ρ1
 | r=>r:=rfl
@[simp] theorem az1(m:M α)(k:α->Sd):dM m k ρ=match m ρ with
 | some (.ok x,ρ1)=>k x ρ1
 | some (.exc x,ρ1)=>some (.exc x,ρ1)
 | none=>none:=rfl
@[simp] theorem ay8(m:M Rv):dRet m ρ=dM m (fun r ρ=>some (.ret r,ρ)) ρ:=rfl
@[simp] theorem azx(m:M Bool)(g k:Sd):dIf m g k ρ=dM m (fun z=>if z=true then g else k) ρ:=rfl
@[simp] theorem aw9(m:M α):acr m ρ=dM m (fun _ ρ=>some (.nx,ρ)) ρ:=rfl
@[simp] theorem ay6(i:Nat)(m:M Rv):dSet i m ρ=dM m (fun r ρ=>some (.nx,List.set ρ i r.sl)) ρ:=rfl
@[simp] theorem azb(m:M D)(b:D->Ro->Option Ro):dAsg m b ρ=dM m (fun d ρ=>(b d ρ).map fun ρ'=>(.nx,ρ')) ρ:=rfl
@[simp] theorem ay9(i j:Nat)(m:M (List D)):dPar i j m ρ=dM m (fun ds ρ=>match ds with
 | [d,d']=>some (.nx,List.set (List.set ρ i (.val d)) j (.val d'))
 | _=>none) ρ:=rfl
@[simp] theorem ay5(i:Nat)(mi m:M D):dSub i mi m ρ=(dM m fun d=>dM (mOwn i) fun _=>dM mi fun k=>dM (mOwn i) fun l=>dM (lift ((asI k).bind (ixN l.length))) fun j=>dM (ab1 i (l.set j d)) fun _=>dNx) ρ:=rfl
@[simp] theorem aza(m:M (List D))(b:D->Ro->Option Ro)(g:Sd):dFor m b g ρ=dM m (forD b g) ρ:=rfl
@[simp] theorem axa(i:Nat)(d:D):ir i d ρ=some (List.set ρ i (.val d)):=rfl
@[simp] theorem aze:bNil [] ρ=some ρ:=rfl
@[simp] theorem axb(b:D->Ro->Option Ro)(bs:List D->Ro->Option Ro)(d:D)(r:List D):qp b bs (d::r) ρ=(b d ρ).bind (bs r):=rfl
@[simp] theorem azd(n:Nat)(bs:List D->Ro->Option Ro)(l:List D):bTup n bs (.tup l) ρ=if l.length=n then bs l ρ else none:=rfl
end
section
variable(c:Prop)[Decidable c](b:Bool)(ρ:Ro)
@[simp] theorem ayj:(if c then some (Out.ok (D.bl b),ρ) else some (Out.ok (D.bl false),ρ))=some (.ok (.bl (decide c&&b)),ρ):=by by_cases h:c <;> simp[h]
end
@[simp] theorem dz{n:Nat}(h:n<=1000):n<=capS:=Nat.le_trans h (by decide)
@[simp] theorem ayp(ds:List D):gTup ds=if ds.length<=capS then some (.tup ds) else none:=rfl
@[simp] theorem ayr(ds:List D):gLst ds=if ds.length<=capS then some (.fr ds) else none:=rfl
@[simp] theorem air{α:Type}(l:List α)(f:α->Bool):vg (l.map fun d=>D.bl (f d))=some (l.map f):=by
 have:=acs (l.map f);rw[List.map_map] at this;exact this
def ad4(s:Sl):List D->Sl
 | []=>s
 | d::r=>ad4 (.val d) r
theorem aej{me:M D}{rest:Ro}{f:D->D}:∀{l:List D} {ys:List D} {s:Sl},(∀d∈l,me (.val d::rest)=some (.ok (f d),.val d::rest))->compD (ir 0) (ret true) me l ys (s::rest)=some (.ok (ys++l.map f),ad4 s l::rest)
 | [],ys,s,_=>by simp[compD,ad4]
 | d::r,ys,s,h=>by
  have h1:=h d (List.mem_cons_self ..);have ih:=aej (me:=me) (rest:=rest) (f:=f) (l:=r) (ys:=ys++[f d]) (s:=.val d) fun x hx=>h x (List.mem_cons_of_mem _ hx)
  simp[compD,h1,ih,ad4]
theorem aam{mc:M Bool}{me:M D}{rest:Ro}{p:D->Bool}{f:D->D}:∀{l:List D} {ys:List D} {s:Sl},(∀d∈l,mc (.val d::rest)=some (.ok (p d),.val d::rest))->(∀d∈l,p d=true->me (.val d::rest)=some (.ok (f d),.val d::rest)) ->
  compD (ir 0) mc me l ys (s::rest)=some (.ok (ys++(l.filter p).map f),ad4 s l::rest)
 | [],ys,s,_,_=>by simp[compD,ad4]
 | d::r,ys,s,hc,h=>by
  have h0:=hc d (List.mem_cons_self ..);cases hp:p d with
  | true =>
   have h1:=h d (List.mem_cons_self ..) hp;have ih:=aam (mc:=mc) (me:=me) (rest:=rest) (p:=p) (f:=f) (l:=r) (ys:=ys++[f d]) (s:=.val d) (fun x hx=>hc x (List.mem_cons_of_mem _ hx)) fun x hx=>h x (List.mem_cons_of_mem _ hx)
   simp[compD,h0,h1,ih,ad4,hp]
  | false =>
   have ih:=aam (mc:=mc) (me:=me) (rest:=rest) (p:=p) (f:=f) (l:=r) (ys:=ys) (s:=.val d) (fun x hx=>hc x (List.mem_cons_of_mem _ hx)) fun x hx=>h x (List.mem_cons_of_mem _ hx)
   simp[compD,h0,ih,ad4,hp]
@[simp] theorem aw7(b:D->Ro->Option Ro)(g:Sd)(ρ:Ro):forD b g [] ρ=some (.nx,ρ):=rfl
theorem qm(b:D->Ro->Option Ro)(g:Sd)(d:D)(ds:List D)(ρ:Ro):forD b g (d::ds) ρ=match b d ρ with
  | none=>none
  | some ρ1=>match g ρ1 with
   | some (.nx,ρ2)=>forD b g ds ρ2
   | some (.cont,ρ2)=>forD b g ds ρ2
   | some (.brk,ρ2)=>some (.nx,ρ2)
   | some (.ret r,ρ2)=>some (.ret r,ρ2)
   | some (.exc x,ρ2)=>some (.exc x,ρ2)
   | none=>none:=rfl
@[simp] theorem ayx{α:Type}(p:α->Bool)(a:α)(l:List α):List.findIdx? p (a::l)=if p a=true then some 0 else (List.findIdx? p l).map (· + 1):=by
 rw[List.findIdx?_cons]
@[simp] theorem azu{α:Type}(p:α->Bool):List.findIdx? p ([]:List α)=none:=rfl
theorem am0(ns:List Int)(lo hi:Option Int):∃ms:List Int,cutD (ns.map D.int) lo hi=ms.map D.int/\ms.length<=ns.length:=by
 refine⟨(ns.drop (HT.sIx ns.length 0 lo)).take (HT.sIx ns.length ns.length hi - HT.sIx ns.length 0 lo),?_,?_⟩
 ·unfold cutD;rw[List.length_map,List.map_take,List.map_drop]
 ·rw[List.length_take,List.length_drop];omega
theorem agb{b:D->Ro->Option Ro}{g:Sd}(Inv:Nat->Ro->Prop):∀{l:List D} {ρ:Ro} (k:Nat),Inv k ρ->(∀i d ρ,l[i]? = some d->Inv (k+i) ρ->∃ρ1 ρ2,b d ρ=some ρ1/\(g ρ1=some (.nx,ρ2)∨g ρ1=some (.cont,ρ2))/\Inv (k+i+1) ρ2) ->
  ∃ρ',forD b g l ρ=some (.nx,ρ')/\Inv (k+l.length) ρ'
 | [],ρ,k,h0,_=>⟨ρ,rfl,h0⟩
 | d::r,ρ,k,h0,hs=>by
  obtain⟨ρ1,ρ2,e1,e2,h1⟩:=hs 0 d ρ rfl h0;obtain⟨ρ',e3,h3⟩:=agb (b:=b) (g:=g) Inv (l:=r) (ρ:=ρ2) (k+1) h1 fun i x ρ hx hi=>by
   have:=hs (i+1) x ρ (by simpa using hx) ((show k+(i+1)=k+1+i by omega)▸hi)
   have e:k+(i+1)+1=k+1+i+1:=by omega
   rw[e] at this;exact this
  refine⟨ρ',?_,?_⟩
  ·rw[qm,e1];rcases e2 with e2 | e2 <;> simp only[e2] <;> exact e3
  ·have e:k+(d::r).length=k+1+r.length:=by simp;omega
   rw[e];exact h3
theorem aal{b:D->Ro->Option Ro}{mc:M Bool}{me:M D}(Inv:Nat->List D->Ro->Prop):∀{l:List D} {ys:List D} {ρ:Ro} (k:Nat),Inv k ys ρ ->
  (∀i d ys ρ,l[i]? = some d->Inv (k+i) ys ρ->∃ρ1 ρ2 z,b d ρ=some ρ1/\mc ρ1=some (.ok z,ρ2)/\((z=false/\Inv (k+i+1) ys ρ2)∨(z=true/\∃y ρ3,me ρ2=some (.ok y,ρ3)/\Inv (k+i+1) (ys++[y]) ρ3))) ->
  ∃ys' ρ',compD b mc me l ys ρ=some (.ok ys',ρ')/\Inv (k+l.length) ys' ρ'
 | [],ys,ρ,k,h0,_=>⟨ys,ρ,rfl,h0⟩
 | d::r,ys,ρ,k,h0,hs=>by
  obtain⟨ρ1,ρ2,z,e1,e2,h1⟩:=hs 0 d ys ρ rfl h0;have nxt:∀{ys':List D} {ρ':Ro},Inv (k+0+1) ys' ρ'->∃ys2 ρ2,compD b mc me r ys' ρ'=some (.ok ys2,ρ2)/\Inv (k+1+r.length) ys2 ρ2:=fun{ys' ρ'} hi =>
   aal (b:=b) (mc:=mc) (me:=me) Inv (l:=r) (ys:=ys') (ρ:=ρ') (k+1) hi fun i x ys ρ hx hi=>by
    have:=hs (i+1) x ys ρ (by simpa using hx) ((show k+(i+1)=k+1+i by omega)▸hi)
    have e:k+(i+1)+1=k+1+i+1:=by omega
    rw[e] at this;exact this
  have el:k+(d::r).length=k+1+r.length:=by simp;omega
  rw[el];rcases h1 with⟨rfl,h1⟩ | ⟨rfl,y,ρ3,e3,h1⟩
  ·obtain⟨ys2,ρ4,e4,h4⟩:=nxt h1;exact⟨ys2,ρ4,by simp[compD,e1,e2,e4],h4⟩
  ·obtain⟨ys2,ρ4,e4,h4⟩:=nxt h1;exact⟨ys2,ρ4,by simp[compD,e1,e2,e3,e4],h4⟩
@[simp] theorem ayt(neg:Bool)(a b:Int):gEq neg (.int a) (.int b)=some (.v (.bl (if neg then !(a==b) else (a==b)))):=rfl
@[simp] theorem azq(neg:Bool)(a b:Bool):gEq neg (.bl a) (.bl b)=some (.v (.bl (if neg then !(a==b) else (a==b)))):=rfl
section
variable{K:Fg9}{X:Cx}{e a b c:Expr}{es:List Expr}{pos p p2:Pos}
def rmOf(K:Fg9)(g:D->List D->Option D):V->List V->Hp->VK->Prop:=fun x vs H Q=>∃F d ds r,Same F H/\Bor K F H d x/\IsL K F ds vs/\g d ds=some r/\∀v,Is K F r v->Q v H
def ar7(i:Nat)(g:D->List D->Option D)(ms:M (List D)):M D:=(di i).bind fun d0=>(lift (match d0 with
 | .lst _=>some ()
 | _=>none)).bind fun _=>ms.bind fun ds=>(di i).bind fun d=>lift (g d ds)
theorem amr{i:Nat}{name:Str}{id:String}{g:D->List D->Option D}{ms:M (List D)}{apos cpos:Pos}(slot:Slot "list" name id)(hty:typeOf (.builtin id)=pure (.type "method_descriptor"))(hm:X.K=K->MtR X id (rmOf K g))(ho:PE X a (tVar i))(ha:ED K X (e::es) ms)
  (hbase:attributeBase a name X.env (eval a X.env)=eval a X.env:=by rfl)
  (hfew:((backTo cpos (starEach (e::es) X.env)).all (fun x => !x.1)&&(backToKw cpos (keywordEach [] X.env)).all (fun x=>x.1.isSome)
   && decide ((e::es).length+([]:List Keyword).length+(if ([]:List Keyword).isEmpty then 0 else 1) < 30))=true:=by rfl)
  (hline:(apos.endLine==cpos.line)=true:=by rfl) (hs:starEach (e::es) X.env=(false,eval e X.env)::starEach es X.env:=by rfl) (hplain:(backTo cpos (starEach es X.env)).any (·.1)=false:=by rfl) :
  EV K X (.Call (.Attribute a name apos) (e::es) [] cpos) (ar7 i g ms):=EV.mk fun hk=>PE.imp (an7 PySem.F.plainAttrs_list slot hty (hm hk) ho (ha hk) hbase hfew hline hs hplain) fun σ H Q z9=>by
 obtain⟨tg,F,ρ,d,ρ',G,em,q⟩:=z9;obtain⟨d0,ρ0,e0,em1⟩:=bf em;obtain⟨u0,ρ9,e9,em2⟩:=bf em1;obtain⟨ds,ρ1,e1,em3⟩:=bf em2;obtain⟨d1,ρ2,e2,em4⟩:=bf em3;obtain⟨e3,rfl⟩:=fu em4;obtain⟨e9,rfl⟩:=fu e9;obtain⟨rfl,v,hv,bv⟩:=j7 G e0;have ty:∃b,v=.ref b/\∃xs,SqL X.K H b xs:=by
  cases d0 with
  | lst l =>
   obtain⟨b,xs,rfl,hb,_⟩:=bv.lst G.sub;exact⟨b,rfl,xs,SqL.of hb⟩
  | _=>cases e9
 obtain⟨b,rfl,hty'⟩:=ty;refine⟨_,hv,.inl ⟨rfl,hty'⟩,tg,F,_,ds,ρ1,G,e1,fun vs H1 F1 G1 x1 r1 =>?_⟩
 obtain⟨rfl,v',hv',b'⟩:=j7 G1 e2;rw[hv] at hv';cases hv';exact⟨F1,d1,ds,d,G1.sub,b',r1,e3,fun w iw=>q w H1 F1 G1 x1 iw⟩
def amk(d:D)(ds:List D):Option D:=match d,ds with
 | .lst l,[x]=>if okD 30 x&&l.all (okD 30) then some (.int (l.countP fun y=>eqD y x)) else none
 | _,_=>none
theorem aak{zv:List (Addr×Obj)}{σ:L2.St}{F H:Hp}{s:Shared}(I:Inv X zv σ H s)(g:Same F H){a:D}{n:Nat}:∀{ds:List D} {vs:List V} {us:List Value},IsL X.K F ds vs->ds.all (okD n)=true->Vals vs us ->
  us.countP (agc s.heap (toPy a))=ds.countP (fun y=>eqD y a)
 | _,_,_,.nil,_,r=>by cases r;rfl
 | _,_,_,.cons h t,k,r=>by
  rw[List.all_cons,Bool.and_eq_true] at k;cases r with
  | cons r1 r2 =>
   obtain⟨as,ra⟩:=u9 I g h k.1 r1;obtain⟨c,p⟩:=ul _ _ k.1;rw[List.countP_cons,List.countP_cons,aak I g t k.2 r2,adf ra c];rfl
theorem aoe(hu:X.A.units+64 < cLine):X.K=K->MtR X "list.count" (rmOf K amk):=fun hk=>by
 subst hk;intro zv s σ H x vs v us Q I rx rv ⟨F,d,ds,r,g,bd,il,eg,q⟩
 match d,ds,eg with
 | .lst l,[y],eg =>
  have eg:(if okD 30 y&&l.all (okD 30) then some (D.int (l.countP fun z=>eqD z y)) else none)=some r:=eg
  split at eg
  ·rename_i ho;rw[Bool.and_eq_true] at ho;cases eg;cases il with
   | cons hy t =>
    cases t;obtain⟨u,rfl,ru⟩:=rv.one;obtain⟨p,ws,rfl,ea,hl⟩:=bd.lst g;cases rx;obtain⟨its,rw',pl,_⟩:=I.list (SqL.of ea);obtain⟨as,ra⟩:=u9 I g hy ho.1 ru;obtain⟨_,z⟩:=ab7 I g (a:=y) hl ho.2 rw';obtain⟨⟨cls,dd,data,sl⟩,h1,hc,n,hd⟩:=pl.isList;simp only at hc hd;subst hc hd;refine call_meets PySem.F.slot_list_count ⟨_,h1,rfl⟩ PySem.F.entry_list_count (PySem.F.args_list_count_2 _ _) (SeqAt.list_countAt p its.toArray n dd sl u (agc s.heap (toPy y))) ⟨h1,fun w hw =>?_,?_⟩
    ·exact acp (A:=X.A) hu ra ho.1 z w (by simpa using hw)
    ·refine⟨.int (l.countP fun z=>eqD z y),H,I.tok _,⟨s.toks,?_⟩,q _ (.int _)⟩
     rw[aak I g (a:=y) hl ho.2 rw']
  ·cases eg
def amj(d:D)(ds:List D):Option D:=match d,ds with
 | .tup l,[x]=>if okD 30 x&&l.all (okD 30) then some (.int (l.countP fun y=>eqD y x)) else none
 | _,_=>none
theorem al0(hu:X.A.units+64 < cLine):X.K=K->MtR X "tuple.count" (rmOf K amj):=fun hk=>by
 subst hk;intro zv s σ H x vs v us Q I rx rv ⟨F,d,ds,r,g,bd,il,eg,q⟩
 match d,ds,eg with
 | .tup l,[y],eg =>
  have eg:(if okD 30 y&&l.all (okD 30) then some (D.int (l.countP fun z=>eqD z y)) else none)=some r:=eg
  split at eg
  ·rename_i ho;rw[Bool.and_eq_true] at ho;cases eg;cases il with
   | cons hy t =>
    cases t;obtain⟨u,rfl,ru⟩:=rv.one;obtain⟨p,ws,rfl,ea,hl⟩:=bd.tup;cases rx;obtain⟨its,rw',pl,_⟩:=I.tuple (SqT.of (g _ _ ea));obtain⟨as,ra⟩:=u9 I g hy ho.1 ru;obtain⟨_,z⟩:=ab7 I g (a:=y) hl ho.2 rw';obtain⟨⟨cls,dd,data,sl⟩,h1,hc,n,hd⟩:=pl;simp only at hc hd;subst hc hd;refine call_meets PySem.F.slot_tuple_count ⟨_,h1,rfl⟩ PySem.F.entry_tuple_count (PySem.F.args_tuple_count_2 _ _) (SeqAt.tuple_countAt p its.toArray n dd sl u (agc s.heap (toPy y))) ⟨h1,fun w hw =>?_,?_⟩
    ·exact acp (A:=X.A) hu ra ho.1 z w (by simpa using hw)
    ·refine⟨.int (l.countP fun z=>eqD z y),H,I.tok _,⟨s.toks,?_⟩,q _ (.int _)⟩
     rw[aak I g (a:=y) hl ho.2 rw']
  ·cases eg
theorem PE.or{t1 t2:TE}(h1:PE X e t1)(h2:PE X e t2):PE X e fun σ H Q=>t1 σ H Q∨t2 σ H Q:=fun zv s σ H Q I h=>h.elim (h1 zv s σ H Q I) (h2 zv s σ H Q I)
def aga(d:D)(ds:List D):Option D:=match d with
 | .lst _=>amk d ds
 | .tup _=>amj d ds
 | _=>none
def al3(i:Nat)(ms:M (List D)):M D:=(di i).bind fun d0=>ms.bind fun ds=>(di i).bind fun d=>(lift (match d0,d with
 | .lst _,.lst _=>some ()
 | .tup _,.tup _=>some ()
 | _,_=>none)).bind fun _=>lift (aga d ds)
theorem apf{d0 d:D}{u:Unit} (h:(match d0,d with
 | .lst _,.lst _=>some ()
 | .tup _,.tup _=>some ()
 | _,_=>none)=some u):(∃l l1,d0=.lst l/\d=.lst l1)∨∃l l1,d0=.tup l/\d=.tup l1:=by
 split at h
 ·exact .inl ⟨_,_,rfl,rfl⟩
 ·exact .inr ⟨_,_,rfl,rfl⟩
 ·cases h
theorem ajm{i:Nat}{ms:M (List D)}{apos cpos:Pos}(hu:X.A.units+64 < cLine)(ho:PE X a (tVar i))(ha:ED K X (e::es) ms)
  (hbase:attributeBase a "count" X.env (eval a X.env)=eval a X.env:=by rfl)
  (hfew:((backTo cpos (starEach (e::es) X.env)).all (fun x => !x.1)&&(backToKw cpos (keywordEach [] X.env)).all (fun x=>x.1.isSome)
   && decide ((e::es).length+([]:List Keyword).length+(if ([]:List Keyword).isEmpty then 0 else 1) < 30))=true:=by rfl)
  (hline:(apos.endLine==cpos.line)=true:=by rfl) (hs:starEach (e::es) X.env=(false,eval e X.env)::starEach es X.env:=by rfl) (hplain:(backTo cpos (starEach es X.env)).any (·.1)=false:=by rfl) :
  EV K X (.Call (.Attribute a "count" apos) (e::es) [] cpos) (al3 i ms):=EV.mk fun hk=>PE.imp (PE.or (an7 PySem.F.plainAttrs_list PySem.F.slot_list_count PySem.F.type_list_count (aoe hu hk) ho (ha hk) hbase hfew hline hs hplain) (an7 PySem.F.plainAttrs_tuple PySem.F.slot_tuple_count PySem.F.type_tuple_count (al0 hu hk) ho (ha hk) hbase hfew hline hs hplain)) fun σ H Q z9=>by
 obtain⟨tg,F,ρ,d,ρ',G,em,q⟩:=z9;obtain⟨d0,ρ0,e0,em1⟩:=bf em;obtain⟨ds,ρ1,e1,em3⟩:=bf em1;obtain⟨d1,ρ2,e2,em4⟩:=bf em3;obtain⟨u0,ρ9,e9,em5⟩:=bf em4;obtain⟨e3,rfl⟩:=fu em5;obtain⟨g9,rfl⟩:=fu e9;obtain⟨rfl,v,hv,bv⟩:=j7 G e0;rcases apf g9 with⟨l,l1,rfl,rfl⟩ | ⟨l,l1,rfl,rfl⟩
 ·obtain⟨b,xs,rfl,hb,_⟩:=bv.lst G.sub;refine .inl ⟨_,hv,.inl ⟨rfl,xs,SqL.of hb⟩,tg,F,_,ds,ρ1,G,e1,fun vs H1 F1 G1 x1 r1 =>?_⟩
  obtain⟨rfl,v',hv',b'⟩:=j7 G1 e2;rw[hv] at hv';cases hv';exact⟨F1,.lst l1,ds,d,G1.sub,b',r1,e3,fun w iw=>q w H1 F1 G1 x1 iw⟩
 ·obtain⟨b,xs,rfl,hb,_⟩:=bv.tup;refine .inr ⟨_,hv,.inr (.inl ⟨rfl,.inr ⟨xs,G.sub _ _ hb⟩⟩),tg,F,_,ds,ρ1,G,e1,fun vs H1 F1 G1 x1 r1 =>?_⟩
  obtain⟨rfl,v',hv',b'⟩:=j7 G1 e2;rw[hv] at hv';cases hv';exact⟨F1,.tup l1,ds,d,G1.sub,b',r1,e3,fun w iw=>q w H1 F1 G1 x1 iw⟩
def amh(d:D)(ds:List D):Option D:=match d,ds with
 | .lst l,[x]=>if okD 30 x&&l.all (okD 30) then (l.findIdx? fun y=>eqD y x).map fun i=>.int i else none
 | _,_=>none
theorem ajx{zv:List (Addr×Obj)}{σ:L2.St}{F H:Hp}{s:Shared}(I:Inv X zv σ H s)(g:Same F H){a:D}{n:Nat}{ds:List D}{vs:List V}{us:List Value}(il:IsL X.K F ds vs)(k:ds.all (okD n)=true)(rv:Vals vs us)(i:Nat)(hi:i < us.length)(hd:i < ds.length) :
  agc s.heap (toPy a) us[i]=eqD ds[i] a:=by
 obtain⟨v,hv,iv⟩:=il.get (i:=i) (List.getElem?_eq_getElem hd);obtain⟨u,hu,ru⟩:=rv.get hv;rw[List.getElem?_eq_getElem hi] at hu;cases hu;have ko:okD n ds[i]=true:=List.all_eq_true.mp k _ (List.getElem_mem hd);obtain⟨as,ra⟩:=u9 I g iv ko ru;rw[adf ra (ul _ _ ko).1];rfl
theorem ai5(hu:X.A.units+64 < cLine):X.K=K->MtR X "list.index" (rmOf K amh):=fun hk=>by
 subst hk;intro zv s σ H x vs v us Q I rx rv ⟨F,d,ds,r,g,bd,il,eg,q⟩
 match d,ds,eg with
 | .lst l,[y],eg =>
  have eg:(if okD 30 y&&l.all (okD 30) then (l.findIdx? fun z=>eqD z y).map (fun i=>D.int i) else none)=some r:=eg
  split at eg
  ·rename_i ho;rw[Bool.and_eq_true] at ho;cases ei:l.findIdx? (fun z=>eqD z y) with
   | none=>rw[ei] at eg;cases eg
   | some j =>
    rw[ei] at eg;cases eg;obtain⟨hj,hhit,hno⟩:=List.findIdx?_eq_some_iff_getElem.mp ei;cases il with
    | cons hy t =>
     cases t;obtain⟨u,rfl,ru⟩:=rv.one;obtain⟨p,ws,rfl,ea,hl⟩:=bd.lst g;cases rx;obtain⟨its,rw',pl,hz⟩:=I.list (SqL.of ea);have l1:=hl.length;have l2:=rw'.length;rw[sizeLine_eq] at hz;obtain⟨as,ra⟩:=u9 I g hy ho.1 ru;obtain⟨_,z⟩:=ab7 I g (a:=y) hl ho.2 rw';obtain⟨⟨cls,dd,data,sl⟩,h1,hc,n,hd⟩:=pl.isList;simp only at hc hd;subst hc hd;have hj':j < its.toArray.size:=by rw[List.size_toArray];omega
     refine call_meets PySem.F.slot_list_index ⟨_,h1,rfl⟩ PySem.F.entry_list_index (PySem.F.args_list_index_2 _ _) (SeqAt.list_indexAt p its.toArray n dd sl u (agc s.heap (toPy y)) j hj' (by omega) ?_ fun m hm hlt =>?_) ⟨h1,fun w hw =>?_,?_⟩
     ·have:=ajx I g (a:=y) hl ho.2 rw' j (by omega) hj
      simpa[this] using hhit
     ·rw[List.size_toArray] at hm;have:=ajx I g (a:=y) hl ho.2 rw' m hm (by omega)
      have hn:=hno m hlt
      simpa[this] using hn
     ·exact acp (A:=X.A) hu ra ho.1 z w (by simpa using hw)
     ·exact⟨.int j,H,I.tok _,⟨_,rfl⟩,q _ (.int _)⟩
  ·cases eg
section
variable(ρ:Ro)
@[simp] theorem awm(i:Nat)(g:D->List D->Option D)(ms:M (List D)):ar7 i g ms ρ=((di i).bind fun d0=>(lift (match d0 with
 | .lst _=>some ()
 | _=>none)).bind fun _=>ms.bind fun ds=>(di i).bind fun d=>lift (g d ds)) ρ:=rfl
@[simp] theorem ate(l:List D)(x:D):amk (.lst l) [x]=if okD 30 x&&l.all (okD 30) then some (.int (l.countP fun y=>eqD y x)) else none:=rfl
@[simp] theorem atd(l:List D)(x:D):amh (.lst l) [x]=if okD 30 x&&l.all (okD 30) then (l.findIdx? fun y=>eqD y x).map (fun i=>D.int i) else none:=rfl
end
end
end Dn
namespace En
open PySem PySem.Builtin
def It1(k:Bool)(h:Heap)(it l:Addr)(i:Nat):Prop:=cond k (h.IsTupleIter it l i) (h.IsListIter it l i)
def Sq1(k:Bool)(h:Heap)(l:Addr)(xs:Array Value):Prop:=cond k (h.IsTuple l xs) (h.IsList l xs)
section
variable{prog:Program}{w:World}{A:Around}{E:Value->Shared->Prop}{s:Shared}
theorem arw{it t:Addr}{i:Nat}{xs:Array Value}{x:Value}{Q:Value->Shared->Prop}(h1:s.heap.IsTupleIter it t i)(h2:s.heap.IsTuple t xs)(hx:xs[i]? = some x)
  (q:∀h',h'.IsTupleIter it t (i+1)->Heap.SameBut it s.heap h'->Q x { s with heap:=h' }):wpAny (model prog w) A (SmallTypes.nextOf (.ref it)) Q E s:=by
 obtain⟨o1,e1,c1,d1⟩:=id h1;obtain⟨o2,e2,_,k2,d2⟩:=h2;have nn:¬((Value.ref t==Value.none)=true):=Bool.false_ne_true;unfold SmallTypes.nextOf;refine wpAny_bind (wpAny_callSpecial?_slot (name:=Str.ofString "__next__") h1.typeIs F.slot_tuple_iterator_next (wpAny_call_entry F.slot_tuple_iterator_next h1.typeIs F.entry_tuple_iterator_next ?_ (F.args_tuple_iterator_next_1 _)));refine wpAny_bind (m:=field (.ref it) 0) (wpAny_field e1 d1 (x:=.ref t) rfl ?_);show wpAny _ _ (if (Value.ref t==Value.none)=true then _ else (field (.ref it) 1 >>= _)) _ _ s;rw[if_neg nn]
 refine wpAny_bind (m:=field (.ref it) 1) (wpAny_field e1 d1 (x:=.int i 0) rfl ?_);refine wpAny_bind (m:=seqItems? (.ref t)) (wpAny_seqItems e2 d2 ?_);simp only[Int.toNat_natCast,hx];refine wpAny_bind (wpAny_setField e1 d1 (by simp) (wpAny_pure ⟨x,rfl,wpAny_pure (q _ ?_ (Heap.SameBut.update ..))⟩))
 refine⟨_,Heap.get?_update_self _ e1 (Obj.isFreed_of_fields (Obj.data_mapFields d1 _)),(Obj.cls_mapFields ..).trans c1,?_⟩;rw[Obj.data_mapFields d1];simp[rawInt]
theorem asx{it t:Addr}{i:Nat}{xs:Array Value}{Q:Value->Shared->Prop}(hh:A.handled=none)(h1:s.heap.IsTupleIter it t i)(h2:s.heap.IsTuple t xs)(hx:xs[i]? = none)
  (q:∀h' e,Heap.ExtBut it s.heap h'->(∃o,h'.get? e=some o/\o.cls=.type "StopIteration")->E (.ref e) { s with heap:=h' }):wpAny (model prog w) A (SmallTypes.nextOf (.ref it)) Q E s:=by
 obtain⟨o1,e1,c1,d1⟩:=id h1;obtain⟨o2,e2,_,k2,d2⟩:=h2;have nn:¬((Value.ref t==Value.none)=true):=Bool.false_ne_true;unfold SmallTypes.nextOf;refine wpAny_bind (wpAny_callSpecial?_slot (name:=Str.ofString "__next__") h1.typeIs F.slot_tuple_iterator_next (wpAny_call_entry F.slot_tuple_iterator_next h1.typeIs F.entry_tuple_iterator_next ?_ (F.args_tuple_iterator_next_1 _)));refine wpAny_bind (m:=field (.ref it) 0) (wpAny_field e1 d1 (x:=.ref t) rfl ?_);show wpAny _ _ (if (Value.ref t==Value.none)=true then _ else (field (.ref it) 1 >>= _)) _ _ s;rw[if_neg nn]
 refine wpAny_bind (m:=field (.ref it) 1) (wpAny_field e1 d1 (x:=.int i 0) rfl ?_);refine wpAny_bind (m:=seqItems? (.ref t)) (wpAny_seqItems e2 d2 ?_);simp only[Int.toNat_natCast,hx];refine wpAny_bind (wpAny_rule (wpAny_bind (wpAny_setField e1 d1 (by simp) ?_)))
 refine wpAny_bind (m:=newExc (.type "StopIteration") []) ?_;simp only[newExc,newTuple];refine wpAny_bind (wpAny_newObj_type ?_ (by size_fits))
 refine wpAny_bind (m:=firstArgMember _ _) (wpAny_of_eq (a:=Value.none) (by first | rfl | (simp only[firstArgMember];rfl)) (wpAny_newObj_type ?_ (by size_fits)))
 simp only[raiseNew];refine wpAny_bind (wpAny_handled ?_);first | rw[show A.in1.handled=none from hh] | rw[hh]
 refine wpAny_bind (wpAny_pure (wpAny_throw (q _ _ ?_ ⟨_,Heap.get?_push_size _ rfl,rfl⟩)));exact((Heap.SameBut.update ..).extBut.push _).push _
theorem src(hh:A.handled=none)(k:Bool)(it l:Addr)(ne:l≠it)(xs:Array Value):Draws prog w A it [it,l] xs.size (fun i v=>xs[i]? = some v) (fun i h=>It1 k h it l i/\Sq1 k h l xs):=by
 cases k with
 | false=>exact Draws.list hh it l ne xs
 | true=>exact{
   live:=fun _ _ z=>let ⟨o,e,_⟩:=z.1;⟨o,e⟩
   frame:=fun _ _ _ z kk=>⟨(let ⟨o,e,r⟩:=z.1;⟨o,kk it (by simp) o e,r⟩),(let ⟨o,e,r⟩:=z.2;⟨o,kk l (by simp) o e,r⟩)⟩
   item:=fun i s Q E hi z q=>arw z.1 z.2 (x:=xs[i]) (by simp[hi]) fun h' z' sb=>q _ h' s.toks (by simp[hi]) ⟨z',Heap.IsTuple.extBut z.2 sb.extBut ne⟩ sb
   done:=fun s Q E z q=>asx hh z.1 z.2 (by simp) q }
theorem It1.at{k:Bool}{h h':Heap}{it l:Addr}{i:Nat}(x:It1 k h it l i)(e:∀o,h.get? it=some o->h'.get? it=some o):It1 k h' it l i:=by
 cases k <;> exact(let ⟨o,z,r⟩:=x;⟨o,e _ z,r⟩)
theorem It1.got{k:Bool}{h:Heap}{it l:Addr}{i:Nat}(x:It1 k h it l i):∃o,h.get? it=some o/\∀v,o.data≠.cell v:=by
 cases k <;> exact(let ⟨o,z,_,r⟩:=x;⟨o,z,fun v e=>by rw[r] at e;cases e⟩)
theorem Sq1.at{k:Bool}{h h':Heap}{l:Addr}{xs:Array Value}(x:Sq1 k h l xs)(e:∀o,h.get? l=some o->h'.get? l=some o):Sq1 k h' l xs:=by
 cases k <;> exact(let ⟨o,z,r⟩:=x;⟨o,e _ z,r⟩)
theorem Sq1.got{k:Bool}{h:Heap}{l:Addr}{xs:Array Value}(x:Sq1 k h l xs):∃o,h.get? l=some o:=by
 cases k <;> exact(let ⟨o,z,_⟩:=x;⟨o,z⟩)
theorem aoo{k:Bool}{l:Addr}{xs:Array Value}{Q:Value->Shared->Prop}(h:Sq1 k s.heap l xs)
  (q:Q (.ref s.heap.objs.size) { s with heap:=s.heap.push { cls:=.type (cond k "tuple_iterator" "list_iterator"),data:=.fields #[.ref l,.int 0 0] } }):wpAny (model prog w) A (pyIter (.ref l)) Q E s:=by
 cases k with
 | false=>exact wpAny_pyIter_list h q
 | true=>exact wpAny_pyIter_tuple h q
theorem aik{k:Bool}{h:Heap}{l a:Addr}(e:h.get? a=some { cls:=.type (cond k "tuple_iterator" "list_iterator"),data:=.fields #[.ref l,.int 0 0] }):It1 k h a l 0:=by
 cases k <;> exact⟨_,e,rfl,rfl⟩
end
set_option maxRecDepth 100000
abbrev eh1(k:Bool)(h:Heap)(l:Addr):Heap:=h.push { cls:=.type (cond k "tuple_iterator" "list_iterator"),data:=.fields #[.ref l,.int 0 0] }
abbrev eh2(k:Bool)(h:Heap)(l:Addr):Heap:=(eh1 k h l).push { cls:=.type "enumerate", data:=.fields #[.none,.bool false,.ref h.objs.size,rawInt 0,.none,.none] }
theorem ar5(k:Bool)(l:Addr)(o:Obj)(xs:Array Value) :
  Meets (Builtin.«enumerate.__new__» ⟨[.type "enumerate", .ref l],[]⟩) (fun _ R s=>s.heap.get? l=some o/\Sq1 k s.heap l xs/\R (.ok (.ret (.ref (eh1 k s.heap l).objs.size))) { s with heap:=eh2 k s.heap l }) :=
 .of_wp fun prog w A R s h=>by
  obtain⟨hp,g,d,tk,os⟩:=s;obtain⟨ho,r1,h⟩:=h;have sb:=sub_enumerate;have r1:Sq1 k (Shared.heap ⟨hp,g,d,tk,os⟩) l xs:=r1;wp_walk using AutoSeq1.wpAny_loadPart' ho;refine wpAny_stack_any fun st=>wpAny_pure ?_
  split
  ·rename_i c _ _ _ _ _;cases(c==Value.type "enumerate") <;> (wp_walk using AutoSeq1.wpAny_loadPart' ho,aoo r1;exact⟨_,rfl,h⟩)
  ·wp_walk using AutoSeq1.wpAny_loadPart' ho,aoo r1;exact⟨_,rfl,h⟩
theorem am9{prog:Program}{w:World}{A:Around}{E:Value->Shared->Prop}{s:Shared}{k:Bool}{l:Addr}{xs:Array Value}{Q:Value->Shared->Prop}(s1:Sq1 k s.heap l xs)
  (q:∀h',IsEnum h' (s.heap.objs.size+1) s.heap.objs.size 0 .none->It1 k h' s.heap.objs.size l 0->h'.objs.size=s.heap.objs.size+2->(∀b o,s.heap.get? b=some o->h'.get? b=some o)->Q (.ref (s.heap.objs.size+1)) { s with heap:=h' }) :
  wpAny (model prog w) A (call (.type "enumerate") [.ref l]) Q E s:=by
 obtain⟨o,ho⟩:=s1.got;refine callType_new F.called_enumerate (by decide) (F.typeCall_enumerate_1 _) (F.newCall_enumerate_1 _) (fun obj=>F.args_object_init_2 obj _) F.entry_enumerate_new (ar5 k l o xs) ⟨ho,s1,?_⟩
 have z1:(eh1 k s.heap l).objs.size=s.heap.objs.size+1:=Heap.size_push ..
 have g2:(eh2 k s.heap l).get? (eh1 k s.heap l).objs.size=some _:=Heap.get?_push_size _ rfl;have g1:(eh2 k s.heap l).get? s.heap.objs.size=some _:=Heap.get?_push_of_some _ (Heap.get?_push_size _ rfl);rw[z1] at g2;show _/\_;rw[z1];exact⟨⟨_,g2,rfl⟩,q _ g2 (aik g1) (by rw[Heap.size_push,z1]) fun b o x=>Heap.get?_push_of_some _ (Heap.get?_push_of_some _ x)⟩
end En
namespace En
open PySem PySem.Builtin
set_option maxRecDepth 100000
theorem aqn(v1 v2:Value):checkTypeCall "zip" ⟨[v1,v2],[]⟩=pure ():=by kernel_rfl
theorem ar3(v1 v2:Value):checkBuiltinCall "zip.__new__" ⟨[.type "zip", v1,v2],[]⟩=pure ():=by kernel_rfl
theorem ata(o v1 v2:Value):argsOk "object.__init__" ⟨[o,v1,v2],[]⟩:=by
 unfold argsOk;rw[signature?_of (id := "object.__init__") (n:=['_','_','t','i','n','i','_','_']) (o:=['t','c','e','j','b','o']) (by kernel_rfl) F.owner_object];kernel_rfl
abbrev Row2(h:Heap)(T:Addr)(v1 v2:Value):Prop:=h.get? T=some { cls:=.type "tuple", data:=.seq #[v1,v2] }
structure Apart2 (z TI TO i1 i2 l1 l2:Addr):Prop where
 nTIz:TI≠z
 nTOz:TO≠z
 nTOTI:TO≠TI
 ni1z:i1≠z
 ni1TI:i1≠TI
 ni1TO:i1≠TO
 ni2z:i2≠z
 ni2TI:i2≠TI
 ni2TO:i2≠TO
 ni2i1:i2≠i1
 nl1z:l1≠z
 nl1TO:l1≠TO
 nl1i1:l1≠i1
 nl1i2:l1≠i2
 nl2z:l2≠z
 nl2TO:l2≠TO
 nl2i1:l2≠i1
 nl2i2:l2≠i2
section
variable{prog:Program}{w:World}{A:Around}{E:Value->Shared->Prop}{s:Shared}
theorem at3{T:Addr}{v1 v2 x:Value}{Q:Unit->Shared->Prop}(h:Row2 s.heap T v1 v2)(q:∀h',Row2 h' T x v2->Heap.SameBut T s.heap h'->Q () { s with heap:=h' }):wpAny (model prog w) A (updateSeq T (·.setIfInBounds 0 x)) Q E s:=by
 refine wpAny_updateSeq h rfl (q _ (show Heap.get? _ T=_ from ?_) (Heap.SameBut.update ..))
 rw[Heap.get?_update_self _ h rfl];simp[Obj.mapSeq]
theorem atz{T:Addr}{v1 v2 x:Value}{Q:Unit->Shared->Prop}(h:Row2 s.heap T v1 v2)(q:∀h',Row2 h' T v1 x->Heap.SameBut T s.heap h'->Q () { s with heap:=h' }):wpAny (model prog w) A (updateSeq T (·.setIfInBounds 1 x)) Q E s:=by
 refine wpAny_updateSeq h rfl (q _ (show Heap.get? _ T=_ from ?_) (Heap.SameBut.update ..))
 rw[Heap.get?_update_self _ h rfl];simp[Obj.mapSeq]
theorem akt{z TI TO i1 i2 l1 l2:Addr}{k1 k2:Bool}{i:Nat}{x1 x2:Array Value}{v1 v2:Value}{Q:Value->Shared->Prop}(hh:A.handled=none)(D:Apart2 z TI TO i1 i2 l1 l2)
  (hz:IsZip s.heap z TI TO .none) (hI:Row2 s.heap TI (.ref i1) (.ref i2)) (hO:Row2 s.heap TO v1 v2) (h1:It1 k1 s.heap i1 l1 i) (s1:Sq1 k1 s.heap l1 x1) (h2:It1 k2 s.heap i2 l2 i) (s2:Sq1 k2 s.heap l2 x2) (b1:i < x1.size) (b2:i < x2.size)
  (q:∀h' tk y1 y2,x1[i]? = some y1->x2[i]? = some y2->IsZip h' z TI TO (rawInt s.heap.objs.size)->Row2 h' TO y1 y2->It1 k1 h' i1 l1 (i+1)->It1 k2 h' i2 l2 (i+1)->Row2 h' s.heap.objs.size y1 y2->h'.objs.size=s.heap.objs.size+1 ->
   (∀c o,c≠z->c≠TO->c≠i1->c≠i2->s.heap.get? c=some o->h'.get? c=some o)->Q (.ref s.heap.objs.size) { s with heap:=h',toks:=tk }) :
  wpAny (model prog w) A (Builtin.«zip.__next__» ⟨[.ref z],[]⟩) (fun fin s'=>∃v,fin=.done (.ret v)/\Q v s') E s:=by
 refine wpAny_bind (m:=field (.ref z) 2) (wpAny_field hz rfl (x:=.bool false) rfl ?_);refine wpAny_bind (m:=field (.ref z) 3) (wpAny_field hz rfl (x:=.ref TI) rfl ?_);refine wpAny_bind (wpAny_seqItems hI rfl ?_);refine wpAny_bind (m:=SmallTypes.ownedTupleIsFree (.ref z)) ?_;unfold SmallTypes.ownedTupleIsFree;refine wpAny_bind (wpAny_field hz rfl (x:=.none) rfl (wpAny_pure ?_));simp only[if_true];refine wpAny_bind (wpAny_rule (wpAny_bind (wpAny_field hz rfl (x:=.ref TO) rfl ?_)));refine wpAny_bind (wpAny_setField_rec hz (by simp) fun g0 z0 a0 =>?_)
 have z0:IsZip g0 z TI TO .ellipsis:=z0;refine wpAny_bind ?_;simp only[List.zipIdx_cons,List.zipIdx_nil,List.forIn_cons,List.forIn_nil];refine wpAny_bind (wpAny_bind (wpAny_onRaise ?_));refine wpAny_bind (m:=SmallTypes.nextOf (.ref i1)) ((src hh k1 i1 l1 D.nl1i1 x1).item i _ _ _ b1 ⟨(h1.at fun _ e=>(a0.extBut _ _ D.ni1z e)),(s1.at fun _ e=>(a0.extBut _ _ D.nl1z e))⟩ fun y1 f1 t1 p1 q1 c1=>wpAny_pure ?_)
 have c1:Heap.SameBut i1 g0 f1:=c1;have P1:Row2 f1 TO v1 v2:=(c1.extBut _ _ D.ni1TO.symm (a0.extBut _ _ D.nTOz hO));refine wpAny_bind (wpAny_seqItems P1 rfl ?_);refine wpAny_bind (at3 P1 fun g1 O1 a1 =>?_)
 have a1:Heap.SameBut TO f1 g1:=a1;refine wpAny_bind (wpAny_letGo (wpAny_pure ?_));refine wpAny_bind (wpAny_bind (wpAny_onRaise ?_));refine wpAny_bind (m:=SmallTypes.nextOf (.ref i2)) ((src hh k2 i2 l2 D.nl2i2 x2).item i _ _ _ b2 ⟨(h2.at fun _ e=>(a1.extBut _ _ D.ni2TO (c1.extBut _ _ D.ni2i1 (a0.extBut _ _ D.ni2z e)))),(s2.at fun _ e=>(a1.extBut _ _ D.nl2TO (c1.extBut _ _ D.nl2i1 (a0.extBut _ _ D.nl2z e))))⟩ fun y2 f2 t2 p2 q2 c2=>wpAny_pure ?_)
 have c2:Heap.SameBut i2 g1 f2:=c2;have P2:Row2 f2 TO y1 v2:=(c2.extBut _ _ D.ni2TO.symm O1);refine wpAny_bind (wpAny_seqItems P2 rfl ?_);refine wpAny_bind (atz P2 fun g2 O2 a2 =>?_)
 have a2:Heap.SameBut TO f2 g2:=a2;refine wpAny_bind (wpAny_letGo (wpAny_pure (wpAny_pure ?_)));refine wpAny_bind (wpAny_seqItems O2 rfl (wpAny_bind (wpAny_newTuple ?_)));have sz:g2.objs.size=s.heap.objs.size:=by rw[a2.1,c2.1,a1.1,c1.1,a0.1]
 have zn:IsZip g2 z TI TO .ellipsis:=(a2.extBut _ _ D.nTOz.symm (c2.extBut _ _ D.ni2z.symm (a1.extBut _ _ D.nTOz.symm (c1.extBut _ _ D.ni1z.symm z0))));have kn:∀c o,c≠z->c≠TO->c≠i1->c≠i2->s.heap.get? c=some o->g2.get? c=some o:=fun c o n0 n1 n2 n3 e=>(a2.extBut _ _ n1 (c2.extBut _ _ n3 (a1.extBut _ _ n1 (c1.extBut _ _ n2 (a0.extBut _ _ n0 e)))))
 have j1:It1 k1 g2 i1 l1 (i+1):=q1.1.at fun _ e=>(a2.extBut _ _ D.ni1TO (c2.extBut _ _ D.ni2i1.symm (a1.extBut _ _ D.ni1TO e)))
 have j2:It1 k2 g2 i2 l2 (i+1):=q2.1.at fun _ e=>(a2.extBut _ _ D.ni2TO e)
 have lz:z < g2.objs.size:=Heap.lt_size zn;refine wpAny_bind (m:=SmallTypes.ownedTupleHandOut (.ref z) (.ref g2.objs.size)) ?_;unfold SmallTypes.ownedTupleHandOut;have zp:IsZip (g2.push { cls:=.type "tuple", data:=.seq #[y1,y2] }) z TI TO .ellipsis:=Heap.get?_push_of_some _ zn;refine wpAny_bind (wpAny_setField_rec zp (by simp) fun e1 z1 b1' =>?_)
 have z1:IsZip e1 z TI TO (rawInt g2.objs.size):=z1;refine wpAny_setField_rec z1 (by simp) fun e2 z2 b2' =>?_
 have z2:IsZip e2 z TI TO (rawInt g2.objs.size):=z2;have up:∀c o,c≠z->g2.get? c=some o->e2.get? c=some o:=fun c o n1 e=>b2'.extBut _ _ n1 (b1'.extBut _ _ n1 (Heap.get?_push_of_some _ e))
 have t2:Row2 e2 g2.objs.size y1 y2:=b2'.extBut _ _ (Nat.ne_of_gt lz) (b1'.extBut _ _ (Nat.ne_of_gt lz) (Heap.get?_push_size _ rfl));have s2':e2.objs.size=g2.objs.size+1:=by rw[b2'.1,b1'.1,Heap.size_push]
 rw[sz] at z2 t2 s2';refine wpAny_pure ⟨_,rfl,?_⟩;show Q (.ref g2.objs.size) _;rw[sz];exact q e2 _ y1 y2 p1 p2 z2 (up _ _ D.nTOz O2) (j1.at fun _ e=>up _ _ D.ni1z e) (j2.at fun _ e=>up _ _ D.ni2z e) t2 s2' fun c o n0 n1 n2 n3 e=>up c o n0 (kn c o n0 n1 n2 n3 e)
theorem ani{z TI TO i1 i2 l1 l2:Addr}{k1:Bool}{x1:Array Value}{v1 v2:Value}{Q:Fin->Shared->Prop}(hh:A.handled=none)(D:Apart2 z TI TO i1 i2 l1 l2)
  (hz:IsZip s.heap z TI TO .none) (hI:Row2 s.heap TI (.ref i1) (.ref i2)) (hO:Row2 s.heap TO v1 v2) (h1:It1 k1 s.heap i1 l1 x1.size) (s1:Sq1 k1 s.heap l1 x1)
  (q:∀h' e,(∀c o,c≠z->c≠i1->s.heap.get? c=some o->h'.get? c=some o)->(∃o,h'.get? e=some o/\o.cls=.type "StopIteration")->E (.ref e) { s with heap:=h' }) :
  wpAny (model prog w) A (Builtin.«zip.__next__» ⟨[.ref z],[]⟩) Q E s:=by
 refine wpAny_bind (m:=field (.ref z) 2) (wpAny_field hz rfl (x:=.bool false) rfl ?_);refine wpAny_bind (m:=field (.ref z) 3) (wpAny_field hz rfl (x:=.ref TI) rfl ?_);refine wpAny_bind (wpAny_seqItems hI rfl ?_);refine wpAny_bind (m:=SmallTypes.ownedTupleIsFree (.ref z)) ?_;unfold SmallTypes.ownedTupleIsFree;refine wpAny_bind (wpAny_field hz rfl (x:=.none) rfl (wpAny_pure ?_));simp only[if_true];refine wpAny_bind (wpAny_rule (wpAny_bind (wpAny_field hz rfl (x:=.ref TO) rfl ?_)));refine wpAny_bind (wpAny_setField_rec hz (by simp) fun g0 z0 a0 =>?_)
 have z0:IsZip g0 z TI TO .ellipsis:=z0;refine wpAny_bind ?_;simp only[List.zipIdx_cons,List.zipIdx_nil,List.forIn_cons,List.forIn_nil];refine wpAny_bind (wpAny_bind (wpAny_onRaise ?_));refine wpAny_bind (m:=SmallTypes.nextOf (.ref i1)) ((src hh k1 i1 l1 D.nl1i1 x1).done _ _ _ ⟨(h1.at fun _ e=>a0.extBut _ _ D.ni1z e),(s1.at fun _ e=>a0.extBut _ _ D.nl1z e)⟩ fun f1 e c1 ⟨oe,he,ce⟩ =>?_)
 have zf:IsZip f1 z TI TO .ellipsis:=c1 _ _ D.ni1z.symm z0;have ez:e≠z:=fun x=>by subst x;rw[zf] at he;cases he;simp at ce
 refine wpAny_setField_rec zf (by simp) fun f2 _ a1=>q f2 e (fun c o n1 n2 y=>a1.extBut _ _ n1 (c1 _ _ n2 (a0.extBut _ _ n1 y))) ⟨oe,a1.extBut _ _ ez he,ce⟩
abbrev akv(h:Heap)(k1 k2:Bool)(l1 l2:Addr):Heap:=h.push { cls:=.type (cond k1 "tuple_iterator" "list_iterator"),data:=.fields #[.ref l1,.int 0 0] }
abbrev anl(h:Heap)(k1 k2:Bool)(l1 l2:Addr):Heap:=(akv h k1 k2 l1 l2).push { cls:=.type (cond k2 "tuple_iterator" "list_iterator"),data:=.fields #[.ref l2,.int 0 0] }
abbrev ank(h:Heap)(k1 k2:Bool)(l1 l2:Addr):Heap:=(anl h k1 k2 l1 l2).push { cls:=.type "tuple", data:=.seq #[.ref h.objs.size,.ref (akv h k1 k2 l1 l2).objs.size] }
abbrev anj(h:Heap)(k1 k2:Bool)(l1 l2:Addr):Heap:=(ank h k1 k2 l1 l2).push { cls:=.type "tuple", data:=.seq #[.none,.none] }
abbrev ahw(h:Heap)(k1 k2:Bool)(l1 l2:Addr):Heap:=(anj h k1 k2 l1 l2).push { cls:=.type "zip", data:=.fields #[.none,.bool false,.bool false,.ref (anl h k1 k2 l1 l2).objs.size,.ref (ank h k1 k2 l1 l2).objs.size] }
theorem ar4(k1 k2:Bool)(l1 l2:Addr)(x1 x2:Array Value) :
  Meets (Builtin.«zip.__new__» ⟨[.type "zip", .ref l1,.ref l2],[]⟩) (fun _ R s=>Sq1 k1 s.heap l1 x1/\Sq1 k2 s.heap l2 x2/\R (.ok (.ret (.ref (anj s.heap k1 k2 l1 l2).objs.size))) { s with heap:=ahw s.heap k1 k2 l1 l2 }) :=
 .of_wp fun prog w A R s h=>by
  obtain⟨hp,g,d,tk,os⟩:=s;obtain⟨s1,s2,h⟩:=h;have sb:=sub_zip;have r1:Sq1 k1 (Shared.heap ⟨hp,g,d,tk,os⟩) l1 x1:=s1.at fun _ e=>e
  have r2:Sq1 k2 (Shared.heap ⟨akv hp k1 k2 l1 l2,g,d,tk,os⟩) l2 x2:=s2.at fun _ e=>Heap.get?_push_of_some _ (e)
  wp_walk using aoo r1,aoo r2;exact⟨_,rfl,h⟩
theorem am6{k1 k2:Bool}{l1 l2:Addr}{x1 x2:Array Value}{Q:Value->Shared->Prop}(s1:Sq1 k1 s.heap l1 x1)(s2:Sq1 k2 s.heap l2 x2)
  (q:∀h',IsZip h' (s.heap.objs.size+4) (s.heap.objs.size+2) (s.heap.objs.size+3) .none->Row2 h' (s.heap.objs.size+2) (.ref s.heap.objs.size) (.ref (s.heap.objs.size+1))->Row2 h' (s.heap.objs.size+3) .none .none->It1 k1 h' s.heap.objs.size l1 0->It1 k2 h' (s.heap.objs.size+1) l2 0->h'.objs.size=s.heap.objs.size+5->(∀c o,s.heap.get? c=some o->h'.get? c=some o)->Q (.ref (s.heap.objs.size+4)) { s with heap:=h' }) :
  wpAny (model prog w) A (call (.type "zip") [.ref l1,.ref l2]) Q E s:=by
 refine callType_new F.called_zip (by decide) (aqn _ _) (ar3 _ _) (fun obj=>ata obj _ _) F.entry_zip_new (ar4 k1 k2 l1 l2 x1 x2) ⟨s1,s2,?_⟩
 have e1:(akv s.heap k1 k2 l1 l2).objs.size=s.heap.objs.size+1:=by rw[Heap.size_push]
 have e2:(anl s.heap k1 k2 l1 l2).objs.size=s.heap.objs.size+2:=by rw[Heap.size_push,e1]
 have eI:(ank s.heap k1 k2 l1 l2).objs.size=s.heap.objs.size+3:=by rw[Heap.size_push,e2]
 have eO:(anj s.heap k1 k2 l1 l2).objs.size=s.heap.objs.size+4:=by rw[Heap.size_push,eI]
 have eZ:(ahw s.heap k1 k2 l1 l2).objs.size=s.heap.objs.size+5:=by rw[Heap.size_push,eO]
 have gZ:(ahw s.heap k1 k2 l1 l2).get? (anj s.heap k1 k2 l1 l2).objs.size=some _:=Heap.get?_push_size _ rfl;have gO:(ahw s.heap k1 k2 l1 l2).get? (ank s.heap k1 k2 l1 l2).objs.size=some _:=Heap.get?_push_of_some _ (Heap.get?_push_size _ rfl);have gI:(ahw s.heap k1 k2 l1 l2).get? (anl s.heap k1 k2 l1 l2).objs.size=some _:=Heap.get?_push_of_some _ (Heap.get?_push_of_some _ (Heap.get?_push_size _ rfl));have j1:(ahw s.heap k1 k2 l1 l2).get? s.heap.objs.size=some _:=Heap.get?_push_of_some _ (Heap.get?_push_of_some _ (Heap.get?_push_of_some _ (Heap.get?_push_of_some _ (Heap.get?_push_size _ rfl))));have j2:(ahw s.heap k1 k2 l1 l2).get? (akv s.heap k1 k2 l1 l2).objs.size=some _:=Heap.get?_push_of_some _ (Heap.get?_push_of_some _ (Heap.get?_push_of_some _ (Heap.get?_push_size _ rfl)));show _/\_;rw[e2,eI,eO] at gZ;rw[e1,e2] at gI;rw[eI] at gO;rw[e1] at j2;rw[eO];exact⟨⟨_,gZ,rfl⟩,q _ gZ gI gO (aik j1) (aik j2) eZ fun c o x=>Heap.get?_push_of_some _ (Heap.get?_push_of_some _ (Heap.get?_push_of_some _ (Heap.get?_push_of_some _ (Heap.get?_push_of_some _ (x)))))⟩
end
structure Apart3 (z TI TO i1 i2 i3 l1 l2 l3:Addr):Prop where
 nTIz:TI≠z
 nTOz:TO≠z
 nTOTI:TO≠TI
 ni1z:i1≠z
 ni1TI:i1≠TI
 ni1TO:i1≠TO
 ni2z:i2≠z
 ni2TI:i2≠TI
 ni2TO:i2≠TO
 ni2i1:i2≠i1
 ni3z:i3≠z
 ni3TI:i3≠TI
 ni3TO:i3≠TO
 ni3i1:i3≠i1
 ni3i2:i3≠i2
 nl1z:l1≠z
 nl1TO:l1≠TO
 nl1i1:l1≠i1
 nl1i2:l1≠i2
 nl1i3:l1≠i3
 nl2z:l2≠z
 nl2TO:l2≠TO
 nl2i1:l2≠i1
 nl2i2:l2≠i2
 nl2i3:l2≠i3
 nl3z:l3≠z
 nl3TO:l3≠TO
 nl3i1:l3≠i1
 nl3i2:l3≠i2
 nl3i3:l3≠i3
section
variable{prog:Program}{w:World}{A:Around}{E:Value->Shared->Prop}{s:Shared}
end
end En
namespace Mn
open L2 En
def SqK(k:Bool)(K:Fg9)(H:Hp)(a:Addr)(xs:List V):Prop:=cond k (SqT K H a xs) (SqL K H a xs)
theorem adi{xs:List V}{us:List Value}(r:Vals xs us){i:Nat}{x:V}{u:Value}(h:xs[i]? = some x)(h':us.toArray[i]? = some u):RelV x u:=by
 obtain⟨u',e,z⟩:=r.get h;have:us[i]? = some u:=by simpa using h'
 rw[this] at e;cases e;exact z
section
variable{X:Cx}{zv:List (Addr×Obj)}{σ:L2.St}{H:Hp}{s:Shared}{h':Heap}{a:Addr}{xs ys:List V}{k:Bool}
theorem acy(I:Inv X zv σ H s)(h:SqK k X.K H a xs):∃its:List Value,Vals xs its/\Sq1 k s.heap a its.toArray:=by
 cases k with
 | false =>
  obtain⟨its,r,p,_⟩:=I.list h;exact⟨its,r,p.isList⟩
 | true =>
  obtain⟨its,r,p,_⟩:=I.tuple h;exact⟨its,r,p⟩
theorem ail(I:Inv X zv σ H s)(h:SqK k X.K H a xs)(h2:SqK k X.K H a ys):xs=ys:=by
 cases k with
 | false=>exact I.list_inj h h2
 | true=>exact I.tuple_inj h h2
theorem acj{t':Nat}{fp:List Addr}(I:Inv X zv σ H s)(kk:∀b o,b∉fp->s.heap.get? b=some o->h'.get? b=some o)(hf:∀b∈fp,FpOk X zv H b):Inv X zv σ H { s with heap:=h',toks:=t' }:=by
 have nit:∀b u,H b=some u->b∉fp:=fun b u e z=>by rw[(hf b z).1] at e;cases e
 have nL:X.env.locals∉fp:=fun z=>(hf _ z).2.1 rfl
 refine I.step (g':=s.gens) (d':=s.drawn) (ch:=fp) (fun b hb=>⟨(hf b hb).2.2.2.1,(hf b hb).2.1,(hf b hb).2.2.2.2.1,(hf b hb).2.2.2.2.2⟩) (fun b o _ _ hc e _=>kk b o hc e) (fun b o _ _ hc e _=>⟨o.slots,kk b o hc e⟩) (fun _ _ _ _ n=>n)
  (fun b o hc e=>⟨o,kk b o hc e⟩) (fun _ _ e=>e) (fun _ _ _ e=>e) (fun b ps e=>⟨#[],by rw[e];simp⟩) (fun m hm =>?_) (fun b u e =>?_) I.bare
 ·obtain⟨o,es,ep,ho,r⟩:=hm;exact⟨o,es,ep,kk _ o nL ho,r⟩
 ·refine(I.hok b u e).stay (fun c v hc q=>kk c v ?_ q) (fun _ q=>q) fun _ _ q=>q
  rcases hc with z | z
  ·rw[z];exact nit b u e
  ·exact nit c _ z
theorem amd{t':Nat}{fp:List Addr}{vs:List V}{us:List Value}(I:Inv X zv σ H s)(kk:∀b o,b∉fp->s.heap.get? b=some o->h'.get? b=some o)(hf:∀b∈fp,FpOk X zv H b)(hb:∀b∈fp,b < s.heap.objs.size)
  (r:Vals vs us) (hz:vs.length<=sizeLine) (ht:h'.get? s.heap.objs.size=some { cls:=.type "tuple", data:=.seq us.toArray }):Inv X zv σ (upd H s.heap.objs.size (.tup vs)) { s with heap:=h',toks:=t' }:=by
 have I1:=I.laid (h':=s.heap.push { cls:=.type "tuple", data:=.seq us.toArray }) (t':=s.toks) (a:=s.heap.objs.size) (o:=.tup vs) (fun b u e=>Heap.get?_push_of_some _ e) (Nat.le_refl _) ⟨hz,us,r,⟨_,Heap.get?_push_size _ rfl,rfl,rfl,_,rfl⟩⟩
 have k2:∀b o,b∉fp->(s.heap.push { cls:=.type "tuple", data:=.seq us.toArray }).get? b=some o->h'.get? b=some o:=fun b o hn e=>by
  rcases Heap.get?_push_cases e with⟨rfl,rfl⟩ | e
  ·exact ht
  ·exact kk b o hn e
 have f2:∀b∈fp,FpOk X zv (upd H s.heap.objs.size (.tup vs)) b:=fun b hb'=>by
  obtain⟨f0,f⟩:=hf b hb';exact⟨by rw[bu (Nat.ne_of_lt (hb b hb'))];exact f0,f⟩
 have R:=acj (t':=t') (h':=h') (fp:=fp) I1 k2 f2;exact R
end
theorem ap3{k:Bool}{h:Heap}{it a l:Addr}{i:Nat}{xs:Array Value}(x:It1 k h it l i){k':Bool}(y:Sq1 k' h a xs):a≠it:=fun e=>by
 subst e;cases k <;> cases k' <;> exact(by
  obtain⟨o,e1,c1,_⟩:=x;obtain⟨o',e2,c2,_⟩:=y;rw[e1] at e2;cases e2;rw[c1] at c2;simp at c2)
theorem axm{h:Heap}{a b:Addr}{o:Obj}{n:String}{k:Bool}{xs:Array Value}(e:h.get? b=some o)(c:o.cls=.type n)(hn:n ≠ "list" /\ n ≠ "tuple")(y:Sq1 k h a xs):a≠b:=fun z=>by
 subst z;cases k <;> exact(by
  obtain⟨o',e2,c2,_⟩:=y;rw[e] at e2;cases e2;rw[c] at c2;simp at c2
  first | exact hn.1 c2 | exact hn.2 c2)
def Ite(K:Fg9)(k:Bool)(a:Addr):It :=
 ⟨fun i H=>∃xs x,SqK k K H a xs/\xs[i]? = some x,fun i H x H'=>∃q v,H q=none/\x=.ref q/\H'=upd H q (.tup [.int i,v])/\∀xs,SqK k K H a xs->xs[i]? = some v,fun i H=>∃xs,SqK k K H a xs/\xs.length=i⟩
theorem ak6{P:Program}{w:World}{K:Fg9}{elts:List Expr}{n:Nat}{pos:Pos}(k:Bool)(a e it:Addr)(ne:e≠it) :
  Turn P w K (.Tuple elts n pos) (Ite K k a) [e,it] e (fun i h=>(∃old,IsEnum h e it i old)/\It1 k h it a i) where
 mem:=by simp
 obj:=fun i h st b hb=>by
  have hb:b=e∨b=it:=by simpa using hb
  rcases hb with rfl | rfl
  ·obtain⟨old,z⟩:=st.1;exact⟨_,z,fun v z=>by cases z⟩
  ·exact st.2.got
 keep:=fun i h h' st kk=>by
  obtain⟨⟨old,z⟩,y⟩:=st;exact⟨⟨old,kk e (by simp) _ z⟩,y.at fun o z=>kk it (by simp) o z⟩
 item:=by
  intro X hP hw hK hc i zv s σ H E I hf st hg;subst hP hw hK;obtain⟨⟨old,he⟩,hi⟩:=st;obtain⟨xs,x,hq,hx⟩:=hg;obtain⟨its,rv,sq⟩:=acy I hq;obtain⟨u,hu,ru⟩:=rv.get hx;have hlt:i < its.toArray.size:=by simpa using (List.getElem?_eq_some_iff.mp hu).1
  have nai:=ap3 hi sq;have nae:a≠e:=axm he rfl (by decide) sq
  have D:=En.src (prog:=X.prog) (w:=X.w) (A:=X.A.in1) (I.ok.hd hc) k it a nai its.toArray;refine wpAny_pyNext_enum_itemD D he ⟨hi,sq⟩ hlt ne (by simp[ne,nae.symm]) fun y g tk hy ho hs hT hz hk =>?_
  refine⟨_,rfl,wpAny_letOwnedTupleGo_enum ho fun g2 he2 sb =>?_⟩
  have ry:=adi rv hx hy;have lte:e < s.heap.objs.size:=Heap.lt_size he;have lti:it < s.heap.objs.size:=by obtain⟨o,z,_⟩:=hi.got;exact Heap.lt_size z
  have fr:H s.heap.objs.size=none:=I.hok.fresh (Nat.le_refl _);refine⟨.ref s.heap.objs.size,upd H s.heap.objs.size (.tup [.int i,x]),?_,rfl,⟨_,x,fr,rfl,rfl,fun ys hy=>by rw[ail I hy hq];exact hx⟩,⟨⟨_,he2⟩,hs.1.at fun o z=>sb.extBut _ _ ne.symm z⟩,fun b hb =>?_⟩
  ·refine amd (fp:=[e,it]) (us:=[.int i tk,y]) I (fun b o hn z =>?_) hf (fun b hb =>?_) (.cons ⟨tk,rfl⟩ (.cons ry .nil)) (by rw[sizeLine_eq];simp) (sb.extBut _ _ (Nat.ne_of_gt lte) hT)
   ·have h1:b≠e:=fun z=>hn (by simp[z])
    have h2:b≠it:=fun z=>hn (by simp[z])
    exact sb.extBut _ _ h1 (hk b o h1 h2 z)
   ·have hb:b=e∨b=it:=by simpa using hb
    rcases hb with rfl | rfl
    ·exact lte
    ·exact lti
  ·have hb':b=e∨b=it:=by simpa using hb
   rw[bu (by rcases hb' with rfl | rfl;exact Nat.ne_of_lt lte;exact Nat.ne_of_lt lti)]
   exact(hf b hb).1
 done:=by
  intro X hP hw hK hc i zv s σ H E I hf st hg;subst hP hw hK;obtain⟨⟨old,he⟩,hi⟩:=st;obtain⟨xs,hq,hx⟩:=hg;obtain⟨its,rv,sq⟩:=acy I hq;have hl:i=its.toArray.size:=by have:=rv.length;simp;omega
  subst hl;have D:=En.src (prog:=X.prog) (w:=X.w) (A:=X.A.in1) (I.ok.hd hc) k it a (ap3 hi sq) its.toArray;refine wpAny_pyNext_enum_endD D he ⟨hi,sq⟩ fun g eb=>⟨rfl,acj (t':=s.toks) (fp:=[e,it]) I (fun b o hn z=>eb b o (fun z=>hn (by simp[z])) z) hf⟩
 self:=fun _ _ _ _ _ st h=>let ⟨_,z⟩:=st.1;wpAny_pyIter_enum z h
theorem av7:bootBuiltins "zip" = some (.type "zip"):=by decide +kernel
section
variable{X:Cx}
def ayo(K:Fg9)(ta:TA):TI:=fun σ H R=>ta σ H fun vs H1=>∃a k,vs=[.ref a]/\(∃xs,SqK k K H1 a xs)/\R (Ite K k a) H1
theorem arc{a:Expr}{ta:TA}{p pos:Pos}{elts:List Expr}{n:Nat}{tp:Pos}(hg:Gl X "enumerate")(hm:X.mg "enumerate" = none)(ha:PA X [a] ta)(hs:starEach [a] X.env=[(false,eval a X.env)]:=by rfl) :
  PI X (.Tuple elts n tp) (.Call (.Name "enumerate" p) [a] [] pos) (ayo X.K ta):=by
 intro zv s σ H R I h;refine Call_ (ae0 I hg hm ahp (PyProof.Rows.callWith_type1 (thn (ha pos zv s σ H _ I h) fun us s1 ⟨vs,H1,I1,r1,q1⟩ =>?_) hs rfl))
 obtain⟨b,k,rfl,⟨xs,hq⟩,q⟩:=q1;obtain⟨u,rfl,ru⟩:=vals1 r1;cases ru;obtain⟨its,rv,sq⟩:=acy I1 hq;refine am9 sq fun g he hi hz kk=>wpAny_pyIter_enum he ?_
 have I2:Inv X zv σ H1 { s1 with heap:=g }:=I1.kept (t':=s1.toks) kk
 refine⟨_,[s1.heap.objs.size+1,s1.heap.objs.size],_,_,H1,rfl,I2,ak6 k b _ _ (Nat.succ_ne_self _),⟨⟨_,he⟩,hi⟩,fun c hc =>?_,q⟩
 have hc:c=s1.heap.objs.size+1∨c=s1.heap.objs.size:=by simpa using hc
 rcases hc with rfl | rfl
 ·exact I1.fpOk (Nat.le_succ _) (I1.hok.fresh (Nat.le_succ _))
 ·exact I1.fpOk (Nat.le_refl _) (I1.hok.fresh (Nat.le_refl _))
end
end Mn
namespace En
open PySem PySem.Builtin
theorem apw{prog:Program}{w:World}{A:Around}{E:Value->Shared->Prop}{s:Shared}{z TI TO:Addr}{f0:Value}{Q:Option Value->Shared->Prop}(hz:IsZip s.heap z TI TO f0)
  (h:wpAny (model prog w) A.in1 (Builtin.«zip.__next__» ⟨[.ref z],[]⟩) (fun fin s'=>∃v,fin=.done (.ret v)/\Q (some v) s') (fun e s'=>∃a o,e=.ref a/\s'.heap.get? a=some o/\o.cls=.type "StopIteration" /\ Q none s') s) :
  wpAny (model prog w) A (pyNext (.ref z)) Q E s:=by
 have tz:s.TypeIs (.ref z) "zip" := ⟨_,hz,rfl⟩;unfold pyNext;refine wpAny_bind (wpAny_attempt (wpAny_callSpecial?_slot (name:=Str.ofString "__next__") tz F.slot_zip_next (wpAny_call_entry F.slot_zip_next tz F.entry_zip_next (wpAny_mono h (fun fin s' ⟨v,e,q⟩=>⟨v,e,wpAny_pure q⟩) fun e s' ⟨a,o,e1,e2,e3,q⟩ =>?_) (F.args_zip_next_1 _))))
 subst e1;exact wpAny_bind (wpAny_isInstance (T := "StopIteration") (b:=true) ⟨o,e2,e3⟩ isSubtype_stop (wpAny_pure q))
end En
namespace Mn
open L2 En
def Itz2(K:Fg9)(k1 k2:Bool)(a1 a2:Addr):It :=
 ⟨fun i H=>∃x1 x2 v1 v2,(SqK k1 K H a1 x1/\x1[i]? = some v1)/\(SqK k2 K H a2 x2/\x2[i]? = some v2),fun i H x H'=>∃q v1 v2,H q=none/\x=.ref q/\H'=upd H q (.tup [v1,v2])/\(∀xs,SqK k1 K H a1 xs->xs[i]? = some v1)/\(∀xs,SqK k2 K H a2 xs->xs[i]? = some v2),fun i H=>∃xs,SqK k1 K H a1 xs/\xs.length=i⟩
theorem ak4{P:Program}{w:World}{K:Fg9}{elts:List Expr}{n:Nat}{pos:Pos}(k1 k2:Bool)(a1 a2 z TI TO i1 i2:Addr)(D:Apart2 z TI TO i1 i2 a1 a2) :
  Turn P w K (.Tuple elts n pos) (Itz2 K k1 k2 a1 a2) [z,TI,TO,i1,i2] z (fun i h=>IsZip h z TI TO .none/\Row2 h TI (.ref i1) (.ref i2)/\(∃v1 v2,Row2 h TO v1 v2)/\It1 k1 h i1 a1 i/\It1 k2 h i2 a2 i) where
 mem:=by simp
 obj:=fun i h ⟨hz,hI,⟨v1,v2,hO⟩,h1,h2⟩ b hb=>by
  have hb:b=z∨b=TI∨b=TO∨b=i1∨b=i2:=by simpa using hb
  rcases hb with rfl | rfl | rfl | rfl | rfl
  ·exact⟨_,hz,fun v z=>by cases z⟩
  ·exact⟨_,hI,fun v z=>by cases z⟩
  ·exact⟨_,hO,fun v z=>by cases z⟩
  ·exact h1.got
  ·exact h2.got
 keep:=fun i h h' ⟨hz,hI,⟨v1,v2,hO⟩,h1,h2⟩ kk=>⟨kk z (by simp) _ hz,kk TI (by simp) _ hI,⟨v1,v2,kk TO (by simp) _ hO⟩,h1.at fun o e=>kk i1 (by simp) o e,h2.at fun o e=>kk i2 (by simp) o e⟩
 item:=by
  intro X hP hw hK hc i zv s σ H E I hf st hg;subst hP hw hK;obtain⟨hz,hI,⟨o1,o2,hO⟩,h1,h2⟩:=st;obtain⟨x1,x2,v1,v2,⟨hq1,hx1⟩,⟨hq2,hx2⟩⟩:=hg;obtain⟨t1,r1,s1⟩:=acy I hq1;obtain⟨u1,hu1,_⟩:=r1.get hx1;have b1:i < t1.toArray.size:=by simpa using (List.getElem?_eq_some_iff.mp hu1).1
  obtain⟨t2,r2,s2⟩:=acy I hq2;obtain⟨u2,hu2,_⟩:=r2.get hx2;have b2:i < t2.toArray.size:=by simpa using (List.getElem?_eq_some_iff.mp hu2).1
  refine apw hz (akt (I.ok.hd hc) D hz hI hO h1 s1 h2 s2 b1 b2 fun g tk y1 y2 p1 p2 z2 O2 j1 j2 T2 hsz hk =>?_)
  refine⟨_,rfl,wpAny_letOwnedTupleGo_zip z2 fun g2 he2 sb =>?_⟩
  have fr:H s.heap.objs.size=none:=I.hok.fresh (Nat.le_refl _);have lt:∀b∈[z,TI,TO,i1,i2],b < s.heap.objs.size:=fun b hb=>by
   have hb:b=z∨b=TI∨b=TO∨b=i1∨b=i2:=by simpa using hb
   rcases hb with rfl | rfl | rfl | rfl | rfl
   ·exact Heap.lt_size hz
   ·exact Heap.lt_size hI
   ·exact Heap.lt_size hO
   ·obtain⟨o,e,_⟩:=h1.got;exact Heap.lt_size e
   ·obtain⟨o,e,_⟩:=h2.got;exact Heap.lt_size e
  have up:∀b o,b∉[z,TI,TO,i1,i2]->s.heap.get? b=some o->g2.get? b=some o:=fun b o hn e=>sb.extBut _ _ (fun x=>hn (by simp[x])) (hk b o (fun x=>hn (by simp[x])) (fun x=>hn (by simp[x])) (fun x=>hn (by simp[x])) (fun x=>hn (by simp[x])) e)
  have TI2:g2.get? TI=_:=sb.extBut _ _ D.nTIz (hk TI _ D.nTIz D.nTOTI.symm D.ni1TI.symm D.ni2TI.symm hI);refine⟨.ref s.heap.objs.size,upd H s.heap.objs.size (.tup [v1,v2]),?_,rfl,⟨_,v1,v2,fr,rfl,rfl,fun ys hy=>by rw[ail I hy hq1];exact hx1,fun ys hy=>by rw[ail I hy hq2];exact hx2⟩,⟨he2,TI2,⟨y1,y2,sb.extBut _ _ D.nTOz O2⟩,(j1.at fun o e=>sb.extBut _ _ D.ni1z e),(j2.at fun o e=>sb.extBut _ _ D.ni2z e)⟩,fun b hb =>?_⟩
  ·exact amd (fp:=[z,TI,TO,i1,i2]) (us:=[y1,y2]) I up hf lt (.cons (adi r1 hx1 p1) (.cons (adi r2 hx2 p2) .nil)) (by rw[sizeLine_eq];simp) (sb.extBut _ _ (Nat.ne_of_gt (lt z (by simp))) T2)
  ·rw[bu (Nat.ne_of_lt (lt b hb))];exact(hf b hb).1
 done:=by
  intro X hP hw hK hc i zv s σ H E I hf st hg;subst hP hw hK;obtain⟨hz,hI,⟨o1,o2,hO⟩,h1,h2⟩:=st;obtain⟨xs,hq,hx⟩:=hg;obtain⟨its,rv,sq⟩:=acy I hq;have hl:i=its.toArray.size:=by have:=rv.length;simp;omega
  subst hl;refine apw hz (ani (I.ok.hd hc) D hz hI hO h1 sq fun g e kk ⟨o,he,ce⟩=>⟨e,o,rfl,he,ce,rfl,acj (t':=s.toks) (fp:=[z,TI,TO,i1,i2]) I (fun b o hn z=>kk b o (fun z=>hn (by simp[z])) (fun z=>hn (by simp[z])) z) hf⟩)
 self:=fun _ _ _ _ _ st h=>wpAny_pyIter_zip st.1 h
theorem apart2{N l1 l2:Nat}(h1:l1 < N)(h2:l2 < N):Apart2 (N+4) (N+2) (N+3) N (N+1) l1 l2:=by
 constructor <;> (intro e;have e:(_:Nat)=_:=e;omega)
section
variable{X:Cx}
def ayl(K:Fg9)(ta:TA):TI:=fun σ H R=>ta σ H fun vs H1=>∃a1 a2 k1 k2,vs=[.ref a1,.ref a2]/\(∃xs,SqK k1 K H1 a1 xs)/\(∃xs,SqK k2 K H1 a2 xs)/\R (Itz2 K k1 k2 a1 a2) H1
theorem arb{e1 e2:Expr}{ta:TA}{p pos:Pos}{elts:List Expr}{n:Nat}{tp:Pos}(hg:Gl X "zip")(hm:X.mg "zip" = none)(ha:PA X [e1,e2] ta)(hs:starEach [e1,e2] X.env=[(false,eval e1 X.env),(false,eval e2 X.env)]:=by rfl)(hs2:starEach [e2] X.env=[(false,eval e2 X.env)]:=by rfl) :
  PI X (.Tuple elts n tp) (.Call (.Name "zip" p) [e1,e2] [] pos) (ayl X.K ta):=by
 intro zv s σ H R I h;refine Call_ (ae0 I hg hm av7 (PyProof.Rows.callWith_type1 (thn (ha pos zv s σ H _ I h) fun us s1 ⟨vs,H1,I1,r1,q1⟩ =>?_) (by rw[hs,hs2]) (by rw[hs2];rfl)))
 obtain⟨a1,a2,k1,k2,rfl,⟨x1,hq1⟩,⟨x2,hq2⟩,q⟩:=q1;obtain⟨u1,u2,rfl,ru1,ru2⟩:=vals2 r1;cases ru1;cases ru2;obtain⟨t1,r1',sq1⟩:=acy I1 hq1;have b1:a1 < s1.heap.objs.size:=by obtain⟨o,e⟩:=sq1.got;exact Heap.lt_size e
 obtain⟨t2,r2',sq2⟩:=acy I1 hq2;have b2:a2 < s1.heap.objs.size:=by obtain⟨o,e⟩:=sq2.got;exact Heap.lt_size e
 refine am6 sq1 sq2 fun g hz hI hO h1 h2 hsz kk=>wpAny_pyIter_zip hz ?_
 have I2:Inv X zv σ H1 { s1 with heap:=g }:=I1.kept (t':=s1.toks) kk
 refine⟨_,[s1.heap.objs.size+4,s1.heap.objs.size+2,s1.heap.objs.size+3,s1.heap.objs.size,s1.heap.objs.size+1],_,_,H1,rfl,I2,ak4 k1 k2 a1 a2 _ _ _ _ _ (apart2 b1 b2),⟨hz,hI,⟨_,_,hO⟩,h1,h2⟩,fun c hc =>?_,q⟩
 have hc:s1.heap.objs.size<=c:=by
  simp only[List.mem_cons,List.not_mem_nil,or_false] at hc;rcases hc with rfl | rfl | rfl | rfl | rfl <;> first | exact Nat.le_refl _ | exact Nat.le_add_right _ _
 exact I1.fpOk hc (I1.hok.fresh hc)
end
section
variable{X:Cx}
end
end Mn
namespace Dn
open L2 Mn
section
variable{K:Fg9}{X:Cx}{e a b c:Expr}{es elts:List Expr}{pos p tp:Pos}{n:Nat}
theorem alb{F:Hp}{d:D}{l:List D}{v:V}(e:bz d=some l)(h:Is K F d v):∃a k vs,v=.ref a/\IsL K F l vs/\∀H,Same F H->SqK k K H a vs:=by
 cases h with
 | tup e1 h1=>cases e;exact⟨_,true,_,rfl,h1,fun H g=>SqT.of (g _ _ e1)⟩
 | lst e1 h1=>cases e;exact⟨_,false,_,rfl,h1,fun H g=>SqL.of (g _ _ e1)⟩
 | kst e1 h1=>cases e;exact⟨_,false,_,rfl,h1,fun H g=>L2.Same.seq g e1⟩
 | _=>cases e
def ac8(l:List D):List D:=l.mapIdx fun i d=>.tup [.int (i:Nat),d]
def ami:List D->Option (List D)
 | [d]=>(bz d).map ac8
 | _=>none
theorem ahf(l:List D):(ac8 l).length=l.length:=by unfold ac8;simp
theorem amv{l:List D}{i:Nat}{d:D}(h:(ac8 l)[i]? = some d):∃d0,l[i]? = some d0/\d=.tup [.int (i:Nat),d0]:=by
 unfold ac8 at h;rw[List.getElem?_mapIdx] at h;cases e:l[i]? with
 | none=>rw[e] at h;cases h
 | some d0=>rw[e] at h;cases h;exact⟨d0,rfl,rfl⟩
theorem aoq{F:Hp}{k:Bool}{a:Addr}{l:List D}{vs:List V}(il:IsL K F l vs)(hs:∀H,Same F H->SqK k K H a vs):ItD K (Ite K k a) (ac8 l) F where
 go:=fun i H s hi=>by
  have hi:i < vs.length:=by rw[<-il.length,<-ahf];exact hi
  exact⟨vs,_,hs H s,List.getElem?_eq_getElem hi⟩
 yld:=fun i H x H' d s y hd=>by
  obtain⟨d0,h0,rfl⟩:=amv hd;obtain⟨q,v,hq,rfl,rfl,hv⟩:=y;obtain⟨v',e1,i1⟩:=il.get h0;have:=hv _ (hs H s);rw[e1] at this;cases this;exact .inr ⟨q,_,_,hq,rfl,rfl,rfl,.cons (.int _) (.cons i1 .nil)⟩
 stop:=fun H s=>⟨vs,hs H s,by rw[ahf,il.length]⟩
theorem af3{m:M (List D)}(hg:Gl X "enumerate")(hm:X.mg "enumerate" = none)(h:ED K X [a] m)(hs:starEach [a] X.env=[(false,eval a X.env)]:=by rfl):IT K X (.Tuple elts n tp) (.Call (.Name "enumerate" p) [a] [] pos) (mGet ami m):=IT.mk fun hk=>by
 intro zv s σ H R I ⟨tg,F,ρ,l,ρ',G,em,q⟩;obtain⟨ds,ρ1,e1,em⟩:=bf em;obtain⟨e2,rfl⟩:=fu em;have h:=h hk;subst hk;refine arc hg hm h hs zv s σ H R I ⟨tg,F,ρ,ds,_,G,e1,fun vs H' F' G' x r =>?_⟩
 match ds,e2 with
 | [d],e2 =>
  have e2:(bz d).map ac8=some l:=e2;cases e3:bz d with
  | none=>rw[e3] at e2;cases e2
  | some l0 =>
   rw[e3] at e2;cases e2;cases r with
   | cons h1 t =>
    cases t;obtain⟨b,k,ws,rfl,il,hq⟩:=alb e3 h1;exact⟨b,k,rfl,⟨ws,hq _ G'.sub⟩,q _ H' F' G' x (aoq il hq)⟩
def abm(l1 l2:List D):List D:=List.zipWith (fun x y=>.tup [x,y]) l1 l2
def aoz:List D->Option (List D)
 | [a,b]=>(bz a).bind fun l1=>(bz b).bind fun l2=>if l1.length<=l2.length then some (abm l1 l2) else none
 | _=>none
theorem agf{l1 l2:List D}{i:Nat}{d:D}(h:(abm l1 l2)[i]? = some d):∃d1 d2,l1[i]? = some d1/\l2[i]? = some d2/\d=.tup [d1,d2]:=by
 unfold abm at h;rw[List.getElem?_zipWith] at h;cases e1:l1[i]? with
 | none=>rw[e1] at h;cases h
 | some d1 =>
  cases e2:l2[i]? with
  | none=>rw[e1,e2] at h;cases h
  | some d2=>rw[e1,e2] at h;cases h;exact⟨_,_,rfl,rfl,rfl⟩
theorem aop{F:Hp}{k1 k2:Bool}{a1 a2:Addr}{l1 l2:List D}{x1 x2:List V}(h:l1.length<=l2.length)(i1:IsL K F l1 x1)(i2:IsL K F l2 x2)(s1:∀H,Same F H->SqK k1 K H a1 x1)(s2:∀H,Same F H->SqK k2 K H a2 x2):ItD K (Itz2 K k1 k2 a1 a2) (abm l1 l2) F where
 go:=fun i H s hi=>by
  have z1:=i1.length;have z2:=i2.length;have hi:i < l1.length:=by unfold abm at hi;simp at hi;omega
  exact⟨x1,x2,_,_,⟨s1 H s,List.getElem?_eq_getElem (by omega)⟩,s2 H s,List.getElem?_eq_getElem (by omega)⟩
 yld:=fun i H x H' d s y hd=>by
  obtain⟨d1,d2,h1,h2,rfl⟩:=agf hd;obtain⟨q,v1,v2,hq,rfl,rfl,y1,y2⟩:=y;obtain⟨w1,e1,j1⟩:=i1.get h1;obtain⟨w2,e2,j2⟩:=i2.get h2;have z1:=y1 _ (s1 H s);have z2:=y2 _ (s2 H s);rw[e1] at z1;rw[e2] at z2;cases z1;cases z2;exact .inr ⟨q,_,_,hq,rfl,rfl,rfl,.cons j1 (.cons j2 .nil)⟩
 stop:=fun H s=>⟨x1,s1 H s,by unfold abm;rw[List.length_zipWith,<-i1.length];omega⟩
theorem ama{m:M (List D)}(hg:Gl X "zip")(hm:X.mg "zip" = none)(h:ED K X [a,b] m)(hs:starEach [a,b] X.env=[(false,eval a X.env),(false,eval b X.env)]:=by rfl)(hs2:starEach [b] X.env=[(false,eval b X.env)]:=by rfl) :
  IT K X (.Tuple elts n tp) (.Call (.Name "zip" p) [a,b] [] pos) (mGet aoz m):=IT.mk fun hk=>by
 intro zv s σ H R I ⟨tg,F,ρ,l,ρ',G,em,q⟩;obtain⟨ds,ρ1,e1,em⟩:=bf em;obtain⟨e2,rfl⟩:=fu em;have h:=h hk;subst hk;refine arb hg hm h hs hs2 zv s σ H R I ⟨tg,F,ρ,ds,_,G,e1,fun vs H' F' G' x r =>?_⟩
 match ds,e2 with
 | [d,d'],e2 =>
  have e2:((bz d).bind fun l1=>(bz d').bind fun l2=>if l1.length<=l2.length then some (abm l1 l2) else none)=some l:=e2
  cases e3:bz d with
  | none=>rw[e3] at e2;cases e2
  | some l1 =>
   cases e4:bz d' with
   | none=>rw[e3,e4] at e2;cases e2
   | some l2 =>
    rw[e3,e4] at e2;have e2:(if l1.length<=l2.length then some (abm l1 l2) else none)=some l:=e2
    split at e2
    ·rename_i hle;cases e2;cases r with
     | cons h1 t =>
      cases t with
      | cons h2 t =>
       cases t;obtain⟨b1,k1,w1,rfl,il1,hq1⟩:=alb e3 h1;obtain⟨b2,k2,w2,rfl,il2,hq2⟩:=alb e4 h2;exact⟨b1,b2,k1,k2,rfl,⟨w1,hq1 _ G'.sub⟩,⟨w2,hq2 _ G'.sub⟩,q _ H' F' G' x (aop hle il1 il2 hq1 hq2)⟩
    ·cases e2
end
end Dn
namespace Mn
open L2
theorem aoy{X:Cx}:PGet X (rIxL X.K):=by
 intro zv s σ H x y v u Q I rx ry h;obtain⟨p,xs,i,z,rfl,rfl,hq,he,q⟩:=h;cases rx;obtain⟨t,rfl⟩:=ry;obtain⟨its,r,pl,hz⟩:=I.list hq;obtain⟨j,h1,h2,h3,h4,h5⟩:=aiu he;obtain⟨w,ew,rw'⟩:=r.get h2;have hl:=r.length;have hn:=ag1;have fin:EP X zv σ Q w s:=⟨z,H,I,rw',q⟩
 by_cases h0:0<=i
 ·have hj:i.toNat=j:=by
   rw[seqIndex_of h0 h5] at h1;exact Option.some.inj h1
  exact wpAny_getItem_list pl.isList h0 (by omega) (by rw[hj];simpa using ew) fin
 ·have hj:(i+(its.toArray.size:Int)).toNat=j:=by
   rw[seqIndex_neg (by omega) h4] at h1
   have:=Option.some.inj h1;rw[List.size_toArray,<-hl];exact this
  exact wpAny_getItem_list_neg pl.isList (by omega) (by simp only[List.size_toArray];omega) (by omega) (by rw[hj];simpa using ew) fin
end Mn
namespace Dn
open L2 Mn
section
variable{K:Fg9}{X:Cx}{e a b:Expr}{pos p:Pos}
theorem avk{n:Nat}{k:Int}{j:Nat}{α:Type}{l:List α}(hn:l.length=n)(h:ixN n k=some j):atI l k=l[j]? := by
 unfold atI;rw[hn,h];rfl
end
end Dn
namespace L2
section
variable{M:Model}{A:Around}{E:Value->Shared->Prop}{s:Shared}
structure KeptBut (fs ch:List Addr) (h h':Heap):Prop where
 keep:∀b o,b∉ch->b∉fs->h.get? b=some o->h'.get? b=some o
 slot:∀b o,b∉ch->h.get? b=some o->∃sl,h'.get? b=some { o with slots:=sl }
theorem KeptBut.trans{fs ch:List Addr}{h h1 h2:Heap}(a:KeptBut fs ch h h1)(b:KeptBut fs ch h1 h2):KeptBut fs ch h h2 :=
 ⟨fun c o n1 n2 e=>b.keep c o n1 n2 (a.keep c o n1 n2 e),fun c o n e=>let ⟨_,e1⟩:=a.slot c o n e;let ⟨sl,e2⟩:=b.slot c _ n e1;⟨sl,e2⟩⟩
theorem KeptBut.sub{fs ch ch':List Addr}{h h':Heap}(a:KeptBut fs ch h h')(q:∀b∈ch,b∈ch'):KeptBut fs ch' h h' :=
 ⟨fun c o n1 n2 e=>a.keep c o (fun z=>n1 (q c z)) n2 e,fun c o n e=>a.slot c o (fun z=>n (q c z)) e⟩
theorem KeptBut.upd{fs:List Addr}{h:Heap}{a:Addr}{f:Obj->Obj}:KeptBut fs [a] h (h.update a f) :=
 ⟨fun b o n _ e=>by rw[Heap.get?_update_other _ _ (fun z=>n (by simp[z]))];exact e,fun b o n e=>⟨o.slots,by rw[Heap.get?_update_other _ _ (fun z=>n (by simp[z]))];exact e⟩⟩
theorem agx{base:Heap}{env:Env}{outer:List Env}{L e:Addr}{oe:Obj}{vs:Array Value}{head:Value}{hadNext:Bool}{Q:Unit->Shared->Prop}
  (hfr:A.frames=some (env::outer)) (hl:s.heap.FunFrames base (env::outer)) (hf:env.frame=some L) (he:s.heap.get? e=some oe) (hd:oe.data=.fields vs) (hsz:1 < vs.size)
  (h:∀h' T ts,s.heap.objs.size<=T->KeptBut (frs (env::outer)) [e] s.heap h'->h'.get? e=some (oe.mapFields (·.setIfInBounds 1 (.ref T)))->h'.get? T=some { cls:=.type "traceback", dict:=none,data:=.fields ts }->ts[3]? = some (rawInt L)->Q () { s with heap:=h' }) :
  wpAny M A (do let a <-frameOf env;let pl <-entryPlaceOf L hadNext;let b <-EntryCells.newEntry head a .none (rawInt L) .none pl;setField (.ref e) 1 b) Q E s:=by
 have hene:e∉frs (env::outer):=fun hm=>by
  obtain⟨_,o,ho,hnf⟩:=hl.mem hm;rw[he] at ho;injection ho with ho;subst ho;exact hnf vs hd
 refine wpAny_bind (wpAny_frameOf_fun hfr hl hf fun h₁ hs₁ =>?_)
 refine wpAny_bind (wpAny_entryPlaceOf fun pl hpl =>?_)
 unfold EntryCells.newEntry newFields;refine wpAny_bind (wpAny_newObj_type ?_ (hpl.sizeOk5 _ _ _ _ _));have he₁:h₁.get? e=some oe:=(hs₁.2.1 e hene).trans he;have he₂:=Heap.get?_push_of_some (h:=h₁) { cls:=.type "traceback", dict:=none,data:=.fields ([head,.ref L,.none,rawInt L,.none]++(if pl.isEmpty then List.replicate 6 Value.none else pl)).toArray } he₁
 refine wpAny_setField he₂ hd hsz (h _ h₁.objs.size ([head,.ref L,.none,rawInt L,.none]++(if pl.isEmpty then List.replicate 6 Value.none else pl)).toArray ?_ ?_ ?_ ?_ ?_)
 ·exact Nat.le_of_eq hs₁.1.symm
 ·have keep:∀b o,b≠e->h₁.get? b=some o->((h₁.push { cls:=.type "traceback", dict:=none,data:=.fields ([head,.ref L,.none,rawInt L,.none]++(if pl.isEmpty then List.replicate 6 Value.none else pl)).toArray }).update e (Obj.mapFields (·.setIfInBounds 1 (Value.ref h₁.objs.size)))).get? b=some o:=fun b o hbe hb=>by
   rw[Heap.get?_update_other _ _ (Ne.symm hbe)];exact Heap.get?_push_of_some _ hb
  refine⟨fun b o n1 n2 hb=>keep b o (fun z=>n1 (by simp[z])) ((hs₁.2.1 b n2).trans hb),fun b o n hb =>?_⟩
  obtain⟨sl,q⟩:=hs₁.2.2 b o hb;exact⟨sl,keep b _ (fun z=>n (by simp[z])) q⟩
 ·exact Heap.get?_update_self _ he₂ (Obj.isFreed_of_fields (Obj.data_mapFields hd _))
 ·rw[Heap.get?_update_other _ _ (Ne.symm (Nat.ne_of_gt (Heap.lt_size he₁)))];exact Heap.get?_push_size h₁ rfl
 ·rcases hpl with rfl | ⟨_,_,_,_,_,_,_,rfl⟩ <;> simp
end
structure FlyAt (h:Heap) (a:Addr) (C:Addr) (dx:Option Addr) (ch:List Addr) (L:Addr):Prop where
 obj:∃oe vs,h.get? a=some oe/\oe.cls=.ref C/\oe.dict=dx/\oe.data=.fields vs/\1 < vs.size /\
  ((vs[1]? = some .none/\ch=[a])∨∃T oT ts fl,ch=[a,T]/\vs[1]? = some (.ref T)/\T≠a/\h.get? T=some oT/\oT.data=.fields ts/\ts[3]? = some fl/\(fl=.none∨fl=rawInt L))
theorem FlyAt.fresh{h:Heap}{a C L:Addr}{dx:Option Addr}{ch:List Addr}(x:FlyAt h a C dx ch L):a∈ch:=by
 obtain⟨oe,vs,_,_,_,_,_,⟨_,e⟩ | ⟨T,_,_,_,e,_⟩⟩:=x.obj <;> simp[e]
section
variable{M:Model}{A:Around}{E:Value->Shared->Prop}{s:Shared}
theorem aa0(o:Obj)(f):(o.mapFields f).dict=o.dict:=by
 obtain⟨c,d,dt,sl⟩:=o;cases dt <;> rfl
theorem arz{base:Heap}{env:Env}{outer:List Env}{L a C:Addr}{dx:Option Addr}{ch:List Addr}{Q:Unit->Shared->Prop}
  (hfr:A.frames=some (env::outer)) (hl:s.heap.FunFrames base (env::outer)) (hf:env.frame=some L) (x:FlyAt s.heap a C dx ch L)
  (h:∀h' T oT ts oe vs,(T∈ch∨s.heap.objs.size<=T)->KeptBut (frs (env::outer)) ch s.heap h'->h'.get? a=some oe->oe.cls=.ref C->oe.dict=dx->oe.data=.fields vs->1 < vs.size->vs[1]? = some (.ref T)->T≠a->h'.get? T=some oT->oT.data=.fields ts->ts[3]? = some (rawInt L)->Q () { s with heap:=h' }) :
  wpAny M A (noteFrame (.ref a) env) Q E s:=by
 obtain⟨oe,vs,he,hc,hdx,hd,hsz,alt⟩:=x.obj;unfold noteFrame;simp only[hf];rcases alt with⟨h1,rfl⟩ | ⟨T,oT,ts,fl,rfl,h1,hTa,hT,hdT,h3,hfl⟩
 ·refine wpAny_bind (wpAny_field he hd h1 ?_);rw[if_neg (by decide)]
  refine agx hfr hl hf he hd hsz fun h' T ts hT k e1 e2 e3 =>?_
  refine h h' T _ ts _ _ (.inr hT) k e1 (by rw[Obj.cls_mapFields];exact hc) (by rw[aa0];exact hdx) (Obj.data_mapFields hd _) (by simpa using hsz) (by simp[hsz]) ?_ e2 rfl e3
  exact Nat.ne_of_gt (Nat.lt_of_lt_of_le (Heap.lt_size he) hT)
 ·refine wpAny_bind (wpAny_field he hd h1 ?_);rw[if_pos (show(Value.ref T != Value.none)=true from by simp)]
  refine wpAny_bind (wpAny_field hT hdT h3 ?_);rcases hfl with rfl | rfl
  ·rw[if_neg (show ¬((Value.none==rawInt L)=true) from by simp[rawInt])]
   refine wpAny_bind (wpAny_setField hT hdT (Array.getElem?_eq_some_iff.mp h3).1 ?_);have k0:KeptBut (frs (env::outer)) [T] s.heap (s.heap.update T (Obj.mapFields (·.setIfInBounds 3 Value.none))):=KeptBut.upd;have he':=(Heap.get?_update_other s.heap (Obj.mapFields (·.setIfInBounds 3 Value.none)) hTa).trans he;refine agx hfr (hl.of_keeps fun b o hb hnf =>?_) hf he' hd hsz fun h' T' ts' hT' k e1 e2 e3 =>?_
   ·exact⟨o,(Heap.get?_update_other _ _ fun z=>by rw[<-z,hT] at hb;cases hb;exact hnf _ hdT).trans hb,rfl⟩
   ·have hsz':s.heap.objs.size<=T':=by
     have:(s.heap.update T (Obj.mapFields (·.setIfInBounds 3 Value.none))).objs.size=s.heap.objs.size:=Heap.size_after_update ..
     exact this▸hT'
    refine h h' T' _ ts' _ _ (.inr hsz') ((k0.sub (by simp)).trans (k.sub (by simp))) e1 (by rw[Obj.cls_mapFields];exact hc) (by rw[aa0];exact hdx) (Obj.data_mapFields hd _) (by simpa using hsz) (by simp[hsz]) ?_ e2 rfl e3
    exact Nat.ne_of_gt (Nat.lt_of_lt_of_le (Heap.lt_size he) hsz')
  ·rw[if_pos (show(rawInt L==rawInt L)=true from by simp)]
   refine wpAny_pure (h s.heap T oT ts oe vs (.inl (by simp)) ⟨fun _ _ _ _ e=>e,fun _ o _ e=>⟨o.slots,e⟩⟩ he hc hdx hd hsz h1 hTa hT hdT h3)
theorem avd{base:Heap}{env:Env}{outer:List Env}{L a C:Addr}{dx:Option Addr}{ch:List Addr}{Q:Unit->Shared->Prop}
  (hfr:A.frames=some (env::outer)) (hl:s.heap.FunFrames base (env::outer)) (hf:env.frame=some L) (x:FlyAt s.heap a C dx ch L)
  (h:∀h' ch',(∀b∈ch',b∈ch∨s.heap.objs.size<=b)->KeptBut (frs (env::outer)) ch s.heap h'->(∀L',FlyAt h' a C dx ch' L')->Q () { s with heap:=h' }) :
  wpAny M A (leaving env (.ref a)) Q E s:=by
 unfold leaving;refine wpAny_bind (arz hfr hl hf x fun h' T oT ts oe vs hT k e1 e2 e3 e4 e5 e6 e7 e8 e9 e10 =>?_)
 unfold setFlight;refine wpAny_bind (wpAny_field e1 e4 e6 ?_);rw[if_pos (show(Value.ref T != Value.none)=true from by simp)]
 have hsz3:3 < ts.size:=(Array.getElem?_eq_some_iff.mp e10).1;refine wpAny_setField e8 e9 hsz3 (h _ [a,T] (fun b hb =>?_) ?_ fun L'=>⟨oe,vs,(Heap.get?_update_other _ _ e7).trans e1,e2,e3,e4,e5,.inr ⟨T,_,_,.none,rfl,e6,e7,Heap.get?_update_self _ e8 (Obj.isFreed_of_fields (Obj.data_mapFields e9 _)),Obj.data_mapFields e9 _,by simp[hsz3],.inl rfl⟩⟩)
 ·have:b=a∨b=T:=by simpa using hb
  rcases this with rfl | rfl
  ·exact .inl x.fresh
  ·exact hT
 ·rcases hT with hT | hT
  ·exact k.trans (KeptBut.upd.sub (by simp[hT]))
  ·refine⟨fun b o n1 n2 e =>?_,fun b o n e =>?_⟩
   ·rw[Heap.get?_update_other _ _ fun z=>absurd (Heap.lt_size e) (by rw[<-z];exact Nat.not_lt.mpr hT)]
    exact k.keep b o n1 n2 e
   ·obtain⟨sl,q⟩:=k.slot b o n e;exact⟨sl,by rw[Heap.get?_update_other _ _ fun z=>absurd (Heap.lt_size e) (by rw[<-z];exact Nat.not_lt.mpr hT)];exact q⟩
end
end L2
namespace Dn
open L2 Mn
def atb(F:Hp)(dx:Option Addr)(fs:List (Str×Int)):Prop:=(dx=none/\fs=[])∨∃d,dx=some d/\F d=some (.xd (fs.map fun p=>(p.1,V.int p.2)))
structure ClsOk (K:Fg9) (c:Str) (C:Addr):Prop where
 ns:nsIn K mainGlobals c=some (some (.ref C))
 ok:ExcK K C
def FpX(X:Cx)(zv:List (Addr×Obj))(H:Hp)(b:Addr):Prop :=
 H b=none/\b≠X.env.locals/\b∉X.fs/\(b∈X.ex∨X.s₀.heap.get? b=none)/\(∀x c,X.env.cells.lookup x=some c->c≠b)/\∀p∈X.pn++zv,p.1≠b
section
variable{X:Cx}{zv:List (Addr×Obj)}{σ:L2.St}{H H':Hp}{s:Shared}
theorem Inv.fpX{b:Addr}(I:Inv X zv σ H s)(hb:s.heap.get? b=none)(hn:H' b=none):FpX X zv H' b:=by
 have no:∀{o},s.heap.get? b=some o->False:=fun e=>by rw[hb] at e;cases e
 refine⟨hn,fun z =>?_,fun z =>?_,?_,fun x c e z =>?_,fun p hp z =>?_⟩
 ·obtain⟨m,⟨o,_,_,ho,_⟩,_⟩:=I.loc;rw[<-z] at ho;exact no ho
 ·obtain⟨_,o,ho,_⟩:=I.funs.mem z;exact no ho
 ·by_cases hx:b∈X.ex
  ·exact .inl hx
  ·refine .inr ?_;cases e:X.s₀.heap.get? b with
   | none=>rfl
   | some o =>
    obtain⟨o',e'⟩:=I.base.there b o e hx;exact(no e').elim
 ·obtain⟨v,o,ho,_⟩:=I.cell x c e;rw[z] at ho;exact no ho
 ·have:=(I.pin p hp).1;rw[z] at this;exact no this
theorem Inv.records{h':Heap}{ch:List Addr}(I:Inv X zv σ H s)(k:KeptBut (frs X.stack) ch s.heap h')(hch:∀b∈ch,FpX X zv H b):Inv X zv σ H { s with heap:=h' }:=by
 have nt:∀c z,H c=some z->c∉ch/\c∉frs X.stack:=fun c z q=>⟨(fun m=>by have:=(hch c m).1;rw[q] at this;cases this),(fun m=>by have:=I.stkFree c m;rw[q] at this;cases this)⟩
 have nb:∀b o,X.s₀.heap.get? b=some o->b∉X.ex->b∉ch:=fun b o e hx m=>by
  rcases(hch b m).2.2.2.1 with z | z
  ·exact hx z
  ·rw[z] at e;cases e
 have nl:∀b o,X.s₀.heap.get? b=some o->b∉X.fs->b∉frs X.stack:=fun b o e hf m=>by
  rcases List.mem_cons.mp (I.stkSub b m) with z | z
  ·exact absurd (Heap.lt_size e) (by rw[z];exact Nat.not_lt.mpr I.ok.above)
  ·exact hf z
 have cellK:∀x c,X.env.cells.lookup x=some c->∀v,s.heap.IsCell c v->h'.IsCell c v:=fun x c e v hq0=>by
  obtain⟨o,ho,hd⟩:=hq0;obtain⟨sl,q⟩:=k.slot c o (fun m=>(hch c m).2.2.2.2.1 x c e rfl) ho
  exact⟨_,q,hd⟩
 refine⟨I.ok,I.os,I.bare,⟨fun b o e n hb hx=>k.keep b o (nb b o e hx) (nl b o e hb) (I.base.keep b o e n hb hx),fun b o e n hb hx =>?_,I.base.free,fun b o e hx =>?_,I.base.tups,I.base.frzs,I.base.tbls⟩,?_,fun x c e =>?_,I.free,I.freeC,fun p hp =>?_,fun b u e =>?_,I.len⟩
 ·obtain⟨sl,e1⟩:=I.base.slot b o e n hb hx;obtain⟨sl',e2⟩:=k.slot b _ (nb b o e hx) e1;exact⟨sl',e2⟩
 ·obtain⟨o',e1⟩:=I.base.there b o e hx;obtain⟨sl,e2⟩:=k.slot b o' (nb b o e hx) e1;exact⟨_,e2⟩
 ·obtain⟨m,⟨o,es,ep,ho,r⟩,hl⟩:=I.loc;obtain⟨sl,q⟩:=k.slot _ o (fun m=>(hch _ m).2.1 rfl) ho
  refine⟨m,⟨_,es,ep,q,r⟩,fun i x v e1 e2 e3 =>?_⟩
  obtain⟨u,rv,l⟩:=hl i x v e1 e2 e3;refine⟨u,rv,?_⟩;rcases l with l | ⟨kk,c,e,z⟩
  ·exact .inl l
  ·exact .inr ⟨kk,c,e,cellK x c e _ z⟩
 ·obtain⟨v,z⟩:=I.cell x c e;exact⟨v,cellK x c e v z⟩
 ·obtain⟨e,n,ne,nf,d⟩:=I.pin p hp;refine⟨k.keep p.1 p.2 (fun m=>(hch _ m).2.2.2.2.2 p hp rfl) (fun m =>?_) e,n,ne,nf,d⟩
  rcases List.mem_cons.mp (I.stkSub _ m) with z | z
  ·exact ne z
  ·exact nf z
 ·refine(I.hok b u e).stay (fun c v hc q =>?_) (fun _ q=>q) fun _ _ q=>q
  rcases hc with z | z
  ·rw[z] at q ⊢;exact k.keep _ _ (nt b u e).1 (nt b u e).2 q
  ·exact k.keep _ _ (nt c _ z).1 (nt c _ z).2 q
end
def FlyX(K:Fg9)(X:Cx)(zv:List (Addr×Obj))(x:Exn)(F H:Hp)(h:Heap)(e:Value):Prop :=
 ∃a C dx ch,e=.ref a/\ClsOk K x.cls C/\atb F dx x.fs/\FlyAt h a C dx ch X.env.locals/\∀b∈ch,FpX X zv H b
def RX(K:Fg9)(X:Cx)(zv:List (Addr×Obj))(tg:Nat->Addr)(ρ:Ro)(σ:L2.St)(F H:Hp)(x:Exn)(ρ':Ro)(e:Value)(s':Shared):Prop :=
 ∃σ' H' F',Inv X zv σ' H' s'/\Good K tg F' H' ρ' σ'/\Ext (Own ρ σ) (Own ρ' σ') F H F' H'/\FlyX K X zv x F' H' s'.heap e
theorem RX.back{K:Fg9}{X:Cx}{zv:List (Addr×Obj)}{tg:Nat->Addr}{ρ ρ1 ρ':Ro}{σ σ1:L2.St}{F H F1 H1:Hp}{x:Exn}{e:Value}{s':Shared}(q:Ext (Own ρ σ) (Own ρ1 σ1) F H F1 H1)(h:RX K X zv tg ρ1 σ1 F1 H1 x ρ' e s'):RX K X zv tg ρ σ F H x ρ' e s' :=
 let ⟨σ',H',F',I,G,y,f⟩:=h;⟨σ',H',F',I,G,q.trans y,f⟩
abbrev XGo(K:Fg9)(X:Cx)(α:Type)(c:Sem α)(m:Ro->Option (Exn×Ro)):Prop :=
 X.K=K->X.xe=(fun _ _=>False)->∀zv s σ H tg F ρ x ρ',Inv X zv σ H s->Good K tg F H ρ σ->m ρ=some (x,ρ')->wpAny (model X.prog X.w) X.A c (fun _ _=>False) (RX K X zv tg ρ σ F H x ρ') s
def exE{α:Type}(m:M α):Ro->Option (Exn×Ro):=fun ρ=>match m ρ with
 | some (.exc x,ρ')=>some (x,ρ')
 | _=>none
def exS(g:Sd):Ro->Option (Exn×Ro):=fun ρ=>match g ρ with
 | some (.exc x,ρ')=>some (x,ρ')
 | _=>none
theorem qb{α:Type}{m:M α}{ρ ρ':Ro}{x:Exn}:exE m ρ=some (x,ρ')↔m ρ=some (.exc x,ρ'):=by
 unfold exE;split
 ·rename_i y ρ1 e;rw[e];constructor
  ·intro h;cases h;rfl
  ·intro h;cases h;rfl
 ·rename_i hn;constructor
  ·intro h;cases h
  ·intro h;exact absurd h (hn x ρ')
theorem lg{g:Sd}{ρ ρ':Ro}{x:Exn}:exS g ρ=some (x,ρ')↔g ρ=some (.exc x,ρ'):=by
 unfold exS;split
 ·rename_i y ρ1 e;rw[e];constructor
  ·intro h;cases h;rfl
  ·intro h;cases h;rfl
 ·rename_i hn;constructor
  ·intro h;cases h
  ·intro h;exact absurd h (hn x ρ')
structure XE (K:Fg9) (X:Cx) (e:Expr) {α:Type} (m:M α):Prop where
 go:XGo K X Value (eval e X.env) (exE m)
structure XA (K:Fg9) (X:Cx) (es:List Expr) {α:Type} (m:M α):Prop where
 go:∀(pos:Pos),XGo K X (List Value) (spliced (backTo pos (starEach es X.env))) (exE m)
structure XS (K:Fg9) (X:Cx) (st:Stmt) (g:Sd):Prop where
 go:XGo K X Flow (exec st X.env) (exS g)
structure XSs (K:Fg9) (X:Cx) (ss:List Stmt) (g:Sd):Prop where
 go:XGo K X Flow (execs ss X.env) (exS g)
def NoX{α:Type}(m:M α):Prop:=∀ρ x ρ',m ρ≠some (.exc x,ρ')
def NoS(g:Sd):Prop:=∀ρ x ρ',g ρ≠some (.exc x,ρ')
section
variable{K:Fg9}{X:Cx}{e a b c:Expr}{es:List Expr}{pos p:Pos}{st:Stmt}{ss:List Stmt}
theorem XE.no{α:Type}{m:M α}(h:NoX m):XE K X e m:=⟨fun _ _ zv s σ H tg F ρ x ρ' I G em=>absurd (qb.mp em) (h ρ x ρ')⟩
theorem XS.no{g:Sd}(h:NoS g):XS K X st g:=⟨fun _ _ zv s σ H tg F ρ x ρ' I G em=>absurd (lg.mp em) (h ρ x ρ')⟩
theorem ahg{α:Type}{m:M α}{k:α->Sd}{ρ ρ':Ro}{x:Exn}(h:dM m k ρ=some (.exc x,ρ')):m ρ=some (.exc x,ρ')∨∃a ρ1,m ρ=some (.ok a,ρ1)/\k a ρ1=some (.exc x,ρ'):=by
 unfold dM at h;split at h
 ·exact .inr ⟨_,_,by assumption,h⟩
 ·cases h;exact .inl (by assumption)
 ·cases h
theorem yt{α β:Type}{m:M α}{k:α->M β}{ρ ρ':Ro}{x:Exn}(h:m.bind k ρ=some (.exc x,ρ')):m ρ=some (.exc x,ρ')∨∃a ρ1,m ρ=some (.ok a,ρ1)/\k a ρ1=some (.exc x,ρ'):=by
 unfold M.bind at h;split at h
 ·exact .inr ⟨_,_,by assumption,h⟩
 ·cases h;exact .inl (by assumption)
 ·cases h
theorem XA.no{α:Type}{m:M α}(h:NoX m):XA K X es m:=⟨fun _ _ _ zv s σ H tg F ρ x ρ' I G em=>absurd (qb.mp em) (h ρ x ρ')⟩
theorem ahx:XSs K X [] dNx:=⟨fun _ _ zv s σ H tg F ρ x ρ' I G em=>by cases em⟩
theorem xj{g:Sd}(h:XS K X st g):XSs K X [st] g:=⟨fun hk hn zv s σ H tg F ρ x ρ' I G em=>wpAny_execs_cons (wpAny_mono (h.go hk hn zv s σ H tg F ρ x ρ' I G em) (fun _ _ z=>z.elim) fun _ _ z=>z)⟩
theorem ac9{g k:Sd}(h:SV K X st g)(hx:XS K X st g)(t:XSs K X ss k):XSs K X (st::ss) (dSeq g k):=⟨fun hk hn zv s σ H tg F ρ x ρ' I G em=>by
 have em:=lg.mp em;unfold dSeq at em;split at em
 ·rename_i ρ1 e1;refine wpAny_execs_cons (wpAny_mono (h.go hk zv s σ H { nx:=fun σ1 H1=>∃F1,Good K tg F1 H1 ρ1 σ1/\Ext (Own ρ σ) (Own ρ1 σ1) F H F1 H1,rt:=fun _ _=>False } I ⟨tg,F,ρ,.nx,ρ1,G,e1,fun σ' H' F' G' x=>⟨F',G',x⟩⟩) (fun f s1 q =>?_) fun e s1 q=>by rw[hn] at q;exact q.elim)
  cases f with
  | next =>
   obtain⟨σ1,H1,I1,F1,G1,x1⟩:=q;exact wpAny_mono (t.go hk hn zv s1 σ1 H1 tg F1 ρ1 x ρ' I1 G1 (lg.mpr em)) (fun _ _ z=>z.elim) fun _ _ z=>z.back x1
  | ret v=>obtain⟨_,_,_,_,_,z⟩:=q;exact z.elim
  | brk=>obtain⟨_,_,_,z⟩:=q;exact z.elim
  | cont=>obtain⟨_,_,_,z⟩:=q;exact z.elim
 ·exact wpAny_execs_cons (wpAny_mono (hx.go hk hn zv s σ H tg F ρ x ρ' I G (lg.mpr em)) (fun _ _ z=>z.elim) fun _ _ z=>z)⟩
theorem ahy{α:Type}{m:M α}(h:XE K X e m)(hs:swapsWith e none pos.line X.env=pure false:=by rfl):XS K X (.Expr e pos) (acr m):=⟨fun hk hn zv s σ H tg F ρ x ρ' I G em=>by
 rcases ahg (lg.mp em) with em | ⟨_,_,_,em⟩
 ·exact wpAny_Expr_any (wpAny_mono (h.go hk hn zv s σ H tg F ρ x ρ' I G (qb.mpr em)) (fun _ _ z=>z.elim) fun _ _ z=>z) I.quiet hs
 ·cases em⟩
theorem atf{i:Nat}{y:Str}{m:M Rv}(h:XE K X e m)(hs:swapsWith e (some (.Name y p)) pos.line X.env=pure false:=by rfl):XS K X (.Assign [.Name y p] e pos) (dSet i m):=⟨fun hk hn zv s σ H tg F ρ x ρ' I G em=>by
 rcases ahg (lg.mp em) with em | ⟨_,_,_,em⟩
 ·exact wpAny_Assign_Name (wpAny_mono (h.go hk hn zv s σ H tg F ρ x ρ' I G (qb.mpr em)) (fun _ _ z=>z.elim) fun _ _ z=>z) hs
 ·cases em⟩
theorem aqg{m:M Bool}{g k:Sd}{ss':List Stmt}(h:ET K X c m)(hm:NoX m)(h1:XSs K X ss g)(h2:XSs K X ss' k):XS K X (.If c ss ss' pos) (dIf m g k):=⟨fun hk hn zv s σ H tg F ρ x ρ' I G em=>by
 rcases ahg (lg.mp em) with em | ⟨z,ρ1,e1,em⟩
 ·exact absurd em (hm _ _ _)
 ·refine wpAny_If (wpAny_mono (h.go hk zv s σ H (fun b H1=>b=z/\∃F1,Good K tg F1 H1 ρ1 σ/\Ext (Own ρ σ) (Own ρ1 σ) F H F1 H1) I ⟨tg,F,ρ,z,ρ1,G,e1,fun H' F' G' x=>⟨rfl,F',G',x⟩⟩) (fun d s1 ⟨H1,I1,hz,F1,G1,x1⟩ =>?_) fun e s1 q=>by rw[hn] at q;exact q.elim)
  subst hz;cases d with
  | true=>exact wpAny_mono (h1.go hk hn zv s1 σ H1 tg F1 ρ1 x ρ' I1 G1 (lg.mpr em)) (fun _ _ z=>z.elim) fun _ _ z=>z.back x1
  | false=>exact wpAny_mono (h2.go hk hn zv s1 σ H1 tg F1 ρ1 x ρ' I1 G1 (lg.mpr em)) (fun _ _ z=>z.elim) fun _ _ z=>z.back x1⟩
def CX1(P:Program)(w:World):CXT:=fun outer H s E e s'=>∃H' a C dx ch,e=.ref a/\s'.os=s.os/\AllBare s'.gens/\Un (frs outer) [] H H' s.heap s'.heap/\HOk P w H' s'.heap /\
 (∀L',FlyAt s'.heap a C dx ch L')/\(∀b∈ch,s.heap.get? b=none/\H' b=none)/\E (.ref C) dx H'
def spX(K:Fg9)(n:Nat)(f:Fd):Sp:=fun vs H _ E=>vs.length=n/\∃F as x ps,Good K (tgOf (vs.map some)) F H as (vs.map some)/\f as=some (.exc x,ps) /\
 ∀C dx H' F' O',Same F' H'->Ext (Own as (vs.map some)) O' F H F' H'->Fin K F' H' (vs.map some) ps O'->ClsOk K x.cls C->atb F' dx x.fs->E (.ref C) dx H'
def DfnX(P:Program)(w:World)(K:Fg9)(mg:Str->Option Value)(base:Heap)(x:Str)(ps:List Str)(k:Nat)(sp:Sp):Prop :=
 ∃(f:Addr) (fd:FuncData),FnOk P w K mg base (CX1 P w) k f fd ps sp/\mg x=some (.ref f)/\keepIn K (.ref f)=true/\Binds K fd ps []
theorem ar8{f:Fd}{js:List (Option Nat)}{ms:M (List (Option D))}{ρ ρ':Ro}{x:Exn}(h:mFn f js ms ρ=some (.exc x,ρ')) :
  ms ρ=some (.exc x,ρ')∨∃ds ρ1 ps,ms ρ=some (.ok ds,ρ1)/\okJs ρ1 js=true/\f (lend ρ1 js ds)=some (.exc x,ps)/\ρ'=putB ρ1 js ps:=by
 rcases yt h with h | ⟨ds,ρ1,e1,em⟩
 ·exact .inl h
 ·split at em
  ·rename_i hj;split at em
   ·cases em
   ·rename_i y ps e2;cases em;exact .inr ⟨ds,ρ1,ps,e1,hj,e2,rfl⟩
   ·cases em
  ·cases em
theorem anm{f:Fd}{n k:Nat}{x:Str}{pn:List Str}{js:List (Option Nat)}{ms:M (List (Option D))}(F:DfnX X.prog X.w X.K X.mg X.base x pn k (spX K n f))(hr:Room k X.A)(hg:Gl X x)(ha:EG K X (e::es) js ms)(hxa:XA K X (e::es) ms)(hn:js.length=n:=by rfl)(hdb:(x==("__debug__" : Str))=false:=by decide)
  (he:starEach (e::es) X.env=(false,eval e X.env)::starEach es X.env:=by rfl) (hpl:(backTo pos (starEach es X.env)).any (·.1)=false:=by rfl):XE K X (.Call (.Name x p) (e::es) [] pos) (mFn f js ms):=⟨fun hk hno zv s σ H tg F0 ρ y ρ' I G em=>by
 obtain⟨fa,fd,Fo,hm,hkp,hb⟩:=F;refine wpAny_Call_Name_kw (aaf I hg hm ?_ hdb);rcases ar8 (qb.mp em) with em | ⟨ds,ρ1,ps,e1,hj,e2,rfl⟩
 ·exact PySem.W.callWith_K (h₀:=X.base) I.ok.mod.kin hkp (wpAny_mono (hxa.go pos hk hno zv s σ H tg F0 ρ y ρ' I G (qb.mpr em)) (fun _ _ z=>z.elim) fun _ _ z=>z) he hpl
 ·refine PySem.W.callWith_K (h₀:=X.base) I.ok.mod.kin hkp (wpAny_mono (ha.go hk pos zv s σ H (fun vs H1=>∃F1,Good K tg F1 H1 ρ1 σ/\Ext (Own ρ σ) (Own ρ1 σ) F0 H F1 H1/\AR K F1 σ js ds vs) I ⟨tg,F0,ρ,ds,ρ1,G,e1,fun vs H1 F1 G1 x1 ar=>⟨F1,G1,x1,ar⟩⟩) (fun us s1 ⟨vs,H1,I1,r,F1,G1,x1,ar⟩=>⟨I1.kIn,?_⟩) fun e s1 q=>by rw[hno] at q;exact q.elim) he hpl
  have L:=ar.lent;have hl:(us++[]).length=pn.length:=by
   rw[List.append_nil,<-r.length];exact Fo.len vs H1 (fun _ _=>True) (fun _ _ _=>True) ⟨by rw[ar.length];exact hn,F1,_,y,ps,uq G1 hj L,e2,fun _ _ _ _ _ _ _ _ _ _=>trivial⟩
  have hbn:=hb s1 us I1.kIn hl;rw[List.append_nil] at hbn;refine wpAny_call (codeAny_mono (Fo.run X.A X.stack s1 H1 ⟨[]++us,[]⟩ us vs (fun _ _=>False) (fun cv dx H2=>∃C F2,cv=.ref C/\Good K tg F2 H2 (putB ρ1 js ps) σ/\Ext (Own ρ σ) (Own (putB ρ1 js ps) σ) F0 H F2 H2/\ClsOk K y.cls C/\atb F2 dx y.fs) hr I1.env0 hbn r
   ⟨by rw[ar.length];exact hn,F1,_,y,ps,uq G1 hj L,e2,fun C dx H2 F2 O2 s2 x2 fin hc hf=>⟨C,F2,rfl,xg G1 L x2 s2 fin,x1.trans (aat G1 L x2),hc,hf⟩⟩) fun r s' hq =>?_)
  cases r with
  | ok fl =>
   cases fl with
   | ret u=>obtain⟨_,_,_,_,_,_,_,z⟩:=hq;exact z.elim
   | next=>exact False.elim hq
   | brk=>exact False.elim hq
   | cont=>exact False.elim hq
  | error er =>
   obtain⟨H',a,C,dx,ch,rfl,os,bare,un,hok,fl,hch,C',F2,ce,G2,x2,hc,hf⟩:=hq;cases ce;exact⟨σ,H',F2,I1.call' os un hok bare (fun b z=>absurd z (by simp)),G2,x2,a,C,dx,ch,rfl,hc,hf,fl _,fun b hb=>Inv.fpX I1 (hch b hb).1 (hch b hb).2⟩⟩
end
theorem fn_x{K:Fg9}{P:Program}{w:World}{mg:Str->Option Value}{base:Heap}{x qual:Str}{st:Stmt}{f:Addr}{fd:FuncData}{N ps:List Str}{k nl np:Nat}{g:Sd}(F:Fun K x qual st f fd)(S:FnScope N ps (ak st))(h1:N.length=nl)(h2:ps.length=np)
  (body:∀(cdv:Value) (A:Around) (outer:List Env) (s:Shared) (H:Hp) (E:XK),Room k (A.deeper (envOfC qual (ak st) s.heap.objs.size f cdv))->XSs K (cxOf CX0 P w K mg base N qual (ak st) f cdv A outer s H E).nox (du st) g) :
  FnOk P w K mg base (CX1 P w) (k+1) f fd ps (spX K np (fnD nl np g)):=by
 subst h1 h2;obtain⟨oc,od,kV,doc,pm,an,cdv,ct,osl,rfl,lk,hcd⟩:=F.ex;refine avx lk hcd S (fun vs H Q E h=>h.1) fun A outer s H vs Q E hr hsp =>?_
 obtain⟨hn,F0,as,y,ps',G,em,q⟩:=hsp;have hl:as.length=(vs.map some).length:=G.len;have G1:=G.app (N.length - vs.length);have es:start N vs=vs.map some++List.replicate (N.length - vs.length) none:=rfl;unfold fnD at em;rw[<-hn] at em;have fin:∀{ρ':Ro} {σ':L2.St} {F' H':Hp},Good K (tgOf (vs.map some)) F' H' ρ' σ'->Fin K F' H' (vs.map some) (ρ'.take vs.length) (Own ρ' σ'):=fun{ρ' σ' F' H'} G'=>⟨fun i l e=>by
  have hi:=(List.getElem?_eq_some_iff.mp e).1;rw[List.length_take] at hi;rw[List.getElem?_take_of_lt (by omega)] at e
  obtain⟨o,ho,a,ws,rfl,hf,hh,hl,ht⟩:=G'.at e;rw[ht i rfl];exact⟨⟨i,⟨_,_,e⟩,ho⟩,hf,ws,hh,hl⟩⟩
 refine⟨fun _ σ0 H0=>σ0=start N vs/\H0=H,fun zv s1 σ0 H0 D I hs =>?_,rfl,rfl⟩
 obtain⟨hs1,hs2⟩:=hs;subst hs2;rw[hs1,es] at I;split at em
 ·cases em
 ·cases em
 ·rename_i y' ρ' e;cases em;have run:=(body cdv A outer s H0 E hr).go rfl rfl zv s1 _ H0 (tgOf (vs.map some)) F0 _ y ρ' (I.wish _) G1 (lg.mpr e);refine wpAny_mono run (fun _ _ z=>z.elim) fun er s' z9 =>?_
  obtain⟨σ',H',F',J,G',x',a,C,dx,ch,e1,hc,hf,fl,hch⟩:=z9;subst e1;rw[qg hl] at x';show wpAny _ _ (leaving _ (.ref a)) _ _ s';refine avd J.ok.frames J.stack rfl fl fun h' ch' hc' kb fl' =>?_
  have J2:=Inv.records J kb hch;have hsz:s.heap.objs.size<=s'.heap.objs.size:=J.sz;refine⟨H',a,C,dx,ch',rfl,J.os,J.bare,J2.base,J2.hok,fl',fun b hb =>?_,q C dx H' F' (Own ρ' σ') G'.sub x' (fin G') hc hf⟩
  rcases hc' b hb with z | z
  ·obtain⟨f1,_,_,f3,_⟩:=hch b z;rcases f3 with f3 | f3
   ·exact absurd (show b∈([]:List Addr) from f3) (by simp)
   ·exact⟨f3,f1⟩
  ·exact⟨Heap.get?_none_of_le (Nat.le_trans hsz z),J.hok.fresh z⟩
 ·cases em
theorem agw{P:Program}{w:World}{H:Hp}{h:Heap}{a:Addr}{o:HO}(x:rn P w H h a o):∃ob,h.get? a=some ob:=by
 cases o with
 | lst xs=>obtain⟨_,_,_,_,e⟩:=x;exact⟨_,e⟩
 | tup xs=>obtain⟨_,_,_,ob,e,_⟩:=x;exact⟨_,e⟩
 | dK kvs=>obtain⟨_,_,_,_,o,_,_,e,_⟩:=x;exact⟨_,e⟩
 | dT kvs=>obtain⟨_,_,_,_,o,_,_,e,_⟩:=x;exact⟨_,e⟩
 | set S n=>obtain⟨o,_,_,_,e,_⟩:=x;exact⟨_,e⟩
 | ins C dx fs=>obtain⟨_,_,_,e,_⟩:=x;exact⟨_,e⟩
 | own y=>exact x
 | xd fs=>obtain⟨_,⟨_,_,_,e,_⟩,_⟩:=x;exact⟨_,e⟩
 | rng lo hi=>obtain⟨_,_,_,e⟩:=x;exact⟨_,e⟩
 | frz ob u=>exact⟨_,x.1⟩
 | tbl ps=>exact⟨_,x⟩
 | met f y=>exact⟨_,x⟩
 | ext φ=>exact x.2.1
abbrev bmV:List Value:=[.type "ValueError", .type "Exception", .type "BaseException", .type "object"]
theorem ass{K:Fg9}{h:Heap}{C:Addr}{bmB:List Value}{newId:String}(X:K.In h)(q:PySem.W.excIn K C bmB newId=true) :
  ∃bm N nm qn bs hdct sn sub ab col dd k0 k1 k2 k3 k5 mN,h.get? C=some (excClassObj nm qn C N bs bm hdct sn sub ab col dd k0 k1 k2 k3 k5 newId)/\h.Ns N mN/\mN "__init__" = none/\OwnTail h bmB bm:=by
 unfold PySem.W.excIn at q;split at q
 ·rename_i dd cd sl ho;split at q
  ·rename_i C' bm k0 k1 k2 k3 n k5 hm hs;simp only[Bool.and_eq_true,beq_iff_eq,Bool.not_eq_true'] at q;obtain⟨⟨⟨⟨⟨e1,e2⟩,e3⟩,e4⟩,e5⟩,e6⟩:=q;subst e1 e2;obtain⟨nm,bs,mro,ns,qn,hd,sn,sub,ab,col,del⟩:=cd;have hm:mro=_:=hm;have e3:del=false:=e3;subst hm e3;have z:sl = #[k0,k1,k2,k3,some (.builtin n),k5]:=Array.toList_inj.mp hs;subst z;exact⟨bm,ns,nm,qn,bs,hd,sn,sub,ab,col,dd,k0,k1,k2,k3,k5,h.nsMap ns,X _ _ ho,.of_isNs (PySem.W.isNs_of_in X e5),PySem.W.nsMap_none_of_in X e5 e6,PySem.W.tail_of_in X e4⟩
  ·cases q
 ·cases q
def ae7(x:Exn):Sd:=fun ρ=>some (.exc x,ρ)
section
variable{K:Fg9}{X:Cx}{c:Str}{C:Addr}{np cpos pos:Pos}
theorem akz(hcalm:X.calm=true)(hg:Gl X c)(hm:X.mg c=some (.ref C))(k:ClsOk X.K c C)(q:PySem.W.excIn X.K C bmV "ValueError.__new__" = true)(hd:(c==("__debug__" : Str))=false:=by decide) :
  XS K X (.Raise (some (.Call (.Name c np) [] [] cpos)) none pos) (ae7 ⟨c,[]⟩):=⟨fun hk hn zv s σ H tg F ρ x ρ' I G em=>by
 have em:=lg.mp em;cases em;subst hk;obtain⟨tl,N,nm,qn,bs,hdct,sn,sub,ab,col,dd,k0,k1,k2,k3,k5,mN,hC,hN,hni,T⟩:=ass I.kIn q;refine wpAny_Raise_call_subU (C:=C) (nm:=nm) (q:=qn) (N:=N) (bs:=bs) (bm:=tl) (hdct:=hdct) (sn:=sn) (sub:=sub) (ab:=ab) (col:=col) (dd:=dd) (k0:=k0) (k1:=k1) (k2:=k2) (k3:=k3) (k5:=k5)
  PySem.F.excBase_ValueError (by decide +kernel) PySem.F.excBase_ValueError (mN:=mN) (T.hasType PySem.F.excBase_ValueError.hasBase) (I.ok.hd hcalm) rfl hni ?_
 refine aaf I hg hm ⟨rfl,?_⟩ hd;refine evalArgs_empty ⟨rfl,Nat.zero_le _,hC,hN,T,fun h' e hme =>?_⟩
 obtain⟨t,he,_,_⟩:=hme.there;have J:Inv X zv σ H { s with heap:=h' }:=I.kept (t':=s.toks) hme.keeps
 have hnH:H e=none:=by
  cases z:H e with
  | none=>rfl
  | some o =>
   obtain⟨ob,h1⟩:=agw (I.hok e o z);have h2:s.heap.get? e=none:=hme.new;rw[h2] at h1;cases h1
 exact⟨σ,H,F,J,G,Ext.refl _ _ _,e,C,none,[e],rfl,k,.inl ⟨rfl,rfl⟩,⟨_,_,he,rfl,rfl,rfl,by simp,.inl ⟨rfl,rfl⟩⟩,fun b hb=>by
  obtain rfl:=List.mem_singleton.mp hb;exact Inv.fpX I hme.new hnH⟩⟩
end
end Dn
namespace L2
section
variable{X:Cx}{zv:List (Addr×Obj)}{σ:List (Option V)}{H:Hp}{s:Shared}
theorem av3{M:Model}{A:Around}{E:Value->Shared->Prop}{i:Nat}{x:Str}{v:V}{Q:Unit->Shared->Prop}(I:Inv X zv σ H s)(hN:X.N.Nodup)(hi:X.N[i]? = some x)(hk:X.env.scope.names.lookup x=some .local)(hv:σ[i]? = some (some v))
  (h:∀s',Inv X zv (σ.set i none) H s'->Q () s'):wpAny M A (unbindName X.env x) Q E s:=by
 obtain⟨m,hn,hl⟩:=id I.loc;have hcls:(X.env.scope.kind==.class||(X.env.scope.kind==.module&&X.env.locals != X.env.globals))=false:=by rw[I.ok.kind];rfl
 have hiσ:i < σ.length:=(List.getElem?_eq_some_iff.mp hv).1;obtain⟨u,_,lk⟩:=hl i x v hi hv (.inl hk);have hmx:∃u,m x=some u:=by
  rcases lk with⟨_,e⟩ | ⟨k,_⟩
  ·exact⟨u,e⟩
  ·rcases k with k | k
   ·exact absurd (hk.symm.trans k) (by simp)
   ·exact absurd (hk.symm.trans k) (by simp)
 obtain⟨u0,hmx⟩:=hmx;refine wpAny_unbindName_local hk hn hmx hcls fun h' u' hn' hs=>h _ ?_
 have ne0:∀b o,X.s₀.heap.get? b=some o->b≠X.env.locals:=fun b o e=>Nat.ne_of_lt (Nat.lt_of_lt_of_le (Heap.lt_size e) I.ok.above)
 refine⟨I.ok,I.os,I.bare,⟨fun b o e n hb hx=>(hs.2 b (ne0 b o e)).trans (I.base.keep b o e n hb hx),fun b o e n hb hx =>?_,I.base.free,fun b o e hx =>?_,I.base.tups,I.base.frzs,I.base.tbls⟩,⟨_,hn',fun j y v' e1 e2 e3 =>?_⟩,fun y c e =>?_,I.free,I.freeC,fun p hp =>?_,fun b ob e =>?_,by simpa using I.len⟩
 ·obtain⟨sl,e1⟩:=I.base.slot b o e n hb hx;exact⟨sl,(hs.2 b (ne0 b o e)).trans e1⟩
 ·obtain⟨o',e1⟩:=I.base.there b o e hx;exact⟨o',(hs.2 b (ne0 b o e)).trans e1⟩
 ·by_cases hj:j=i
  ·subst hj;rw[List.getElem?_set_self hiσ] at e2;cases e2
  ·rw[List.getElem?_set_ne (Ne.symm hj)] at e2;obtain⟨u',r',q⟩:=hl j y v' e1 e2 e3;refine⟨u',r',?_⟩;rcases q with⟨k,e⟩ | ⟨k,c,e,z⟩
   ·refine .inl ⟨k,?_⟩;have:y≠x:=fun e=>hj (af0 hN e1 (e▸hi))
    simp[this,e]
   ·exact .inr ⟨k,c,e,z.sameBut hs (I.cne y c e)⟩
 ·obtain⟨w',z⟩:=I.cell y c e;exact⟨w',z.sameBut hs (I.cne y c e)⟩
 ·obtain⟨e,n,ne,nf,d⟩:=I.pin p hp;exact⟨(hs.2 p.1 ne).trans e,n,ne,nf,d⟩
 ·have nL:∀c z,H c=some z->c≠X.env.locals:=fun c z q w=>by
   have:=I.free;rw[<-w,q] at this;cases this
  refine(I.hok b ob e).stay (fun c w' hc q=>(hs.2 c ?_).trans q) (fun _ q=>q) fun _ _ q=>q
  rcases hc with z | z
  ·rw[z];exact nL b ob e
  ·exact nL c _ z
end
section
variable{M:Model}{A:Around}{E:Value->Shared->Prop}{s:Shared}
theorem aql{fs:List Addr}{a C:Addr}{dx:Option Addr}{ch:List Addr}{L:Addr}{Q:Unit->Shared->Prop}(x:FlyAt s.heap a C dx ch L)(hT:ch≠[a])
  (h:∀h',KeptBut fs ch s.heap h'->(∀L',FlyAt h' a C dx ch L')->h'.get? a=s.heap.get? a->Q () { s with heap:=h' }):wpAny M A (setFlight (.ref a) none) Q E s:=by
 obtain⟨oe,vs,he,hc,hdx,hd,hsz,⟨_,e⟩ | ⟨T,oT,ts,fl,rfl,h1,hTa,hT,hdT,h3,hfl⟩⟩:=x.obj
 ·exact absurd e hT
 ·unfold setFlight;refine wpAny_bind (wpAny_field he hd h1 ?_);rw[if_pos (show(Value.ref T != Value.none)=true from by simp)]
  have hsz3:3 < ts.size:=(Array.getElem?_eq_some_iff.mp h3).1;refine wpAny_setField hT hdT hsz3 (h _ (KeptBut.upd.sub (by simp)) (fun L'=>⟨oe,vs,(Heap.get?_update_other _ _ hTa).trans he,hc,hdx,hd,hsz,.inr ⟨T,_,_,.none,rfl,h1,hTa,Heap.get?_update_self _ hT (Obj.isFreed_of_fields (Obj.data_mapFields hdT _)),Obj.data_mapFields hdT _,by simp[hsz3],.inl rfl⟩⟩) (Heap.get?_update_other _ _ hTa))
theorem alx{base:Heap}{env:Env}{outer:List Env}{L a C:Addr}{dx:Option Addr}{ch:List Addr}{Q:Unit->Shared->Prop}
  (hfr:A.frames=some (env::outer)) (hl:s.heap.FunFrames base (env::outer)) (hf:env.frame=some L) (x:FlyAt s.heap a C dx ch L)
  (h:∀h' ch',ch'≠[a]->(∀b∈ch',b∈ch∨s.heap.objs.size<=b)->KeptBut (frs (env::outer)) ch s.heap h'->(∀L',FlyAt h' a C dx ch' L')->Q () { s with heap:=h' }) :
  wpAny M A (noteFrame (.ref a) env) (fun _ s'=>wpAny M A (setFlight (.ref a) none) Q E s') E s:=by
 refine arz hfr hl hf x fun h' T oT ts oe vs hT k e1 e2 e3 e4 e5 e6 e7 e8 e9 e10 =>?_
 unfold setFlight;refine wpAny_bind (wpAny_field e1 e4 e6 ?_);rw[if_pos (show(Value.ref T != Value.none)=true from by simp)]
 have hsz3:3 < ts.size:=(Array.getElem?_eq_some_iff.mp e10).1;refine wpAny_setField e8 e9 hsz3 (h _ [a,T] (by simp) (fun b hb =>?_) ?_ fun L'=>⟨oe,vs,(Heap.get?_update_other _ _ e7).trans e1,e2,e3,e4,e5,.inr ⟨T,_,_,.none,rfl,e6,e7,Heap.get?_update_self _ e8 (Obj.isFreed_of_fields (Obj.data_mapFields e9 _)),Obj.data_mapFields e9 _,by simp[hsz3],.inl rfl⟩⟩)
 ·have:b=a∨b=T:=by simpa using hb
  rcases this with rfl | rfl
  ·exact .inl x.fresh
  ·exact hT
 ·rcases hT with hT | hT
  ·exact k.trans (KeptBut.upd.sub (by simp[hT]))
  ·refine⟨fun b o n1 n2 e =>?_,fun b o n e =>?_⟩
   ·rw[Heap.get?_update_other _ _ fun z=>absurd (Heap.lt_size e) (by rw[<-z];exact Nat.not_lt.mpr hT)]
    exact k.keep b o n1 n2 e
   ·obtain⟨sl,q⟩:=k.slot b o n e;exact⟨sl,by rw[Heap.get?_update_other _ _ fun z=>absurd (Heap.lt_size e) (by rw[<-z];exact Nat.not_lt.mpr hT)];exact q⟩
structure CatK (K:Fg9) (B:Addr):Prop where
 cls:(PySem.W.clsIn K B).isSome=true
 ty:PySem.W.typeIn K (.ref B)=some (.type "type")
 base:PySem.W.subIn K (.ref B) (.type "BaseException")=some true
theorem aog{K:Fg9}{a C B:Addr}{oe:Obj}{b:Bool}{Q:Bool->Shared->Prop}(X:K.In s.heap)(k:CatK K B)(he:s.heap.get? a=some oe)(hc:oe.cls=.ref C)(hs:PySem.W.subIn K (.ref C) (.ref B)=some b)(h:Q b s):wpAny M A (excMatches (.ref a) (.ref B)) Q E s:=by
 obtain⟨hp,g,d,tk,os⟩:=s;have L0:PySem.W.Looks M hp (isInstance (.ref B) (.type "tuple")) false:=(PySem.W.looks_typeIn X k.ty).andThen (PySem.W.Looks.of_pure (by rw[isSubtype_type];kernel_rfl))
 have L1:PySem.W.Looks M hp (isType (.ref B)) true:=by
  have z:=k.cls;unfold PySem.W.clsIn at z;split at z
  ·rename_i c' d' cd' sl' ho;intro A' Q' E' s' kk q;unfold isType loadHead;exact wpAny_bind (wpAny_loadPart (kk _ _ (X _ _ ho)) (wpAny_pure q))
  ·cases z
 have L2:=PySem.W.looks_subIn (M:=M) X k.base;have L3:=PySem.W.looks_subIn (M:=M) X hs;have L4:PySem.W.Looks M hp (isExcClass (.ref B)) true:=L1.andThen (by rw[if_pos rfl];exact L2)
 have L5:PySem.W.Looks M hp (typeOf (.ref a)) (.ref C):=(PySem.W.Looks.ld he).andThen (PySem.W.Looks.of_pure (by rw[hc]))
 unfold excMatches;refine wpAny_bind (L0.at ?_);simp only[Bool.false_eq_true,if_false];refine wpAny_bind (wpAny_pure ?_);simp only[List.forIn_cons,List.forIn_nil];refine wpAny_bind (wpAny_bind (wpAny_bind (L4.at ?_)));rw[if_neg (by simp)]
 refine wpAny_pure (wpAny_pure (wpAny_bind (L5.at (wpAny_bind (wpAny_bind (wpAny_bind (L3.at ?_)))))));cases b with
 | true =>
  rw[if_pos rfl];exact wpAny_pure (wpAny_pure (wpAny_pure h))
 | false =>
  rw[if_neg Bool.false_ne_true];exact wpAny_pure (wpAny_pure (wpAny_pure h))
end
end L2
namespace Dn
open L2 Mn
def af5(c0 c:Str):Bool:=c0==c||c == "ArrowError" || c == "ValueError"
def clsAt(K:Fg9)(c:Str):Option Addr:=match nsIn K mainGlobals c with
 | some (some (.ref C))=>some C
 | _=>none
def afb(K:Fg9)(ns:List Str):Bool:=ns.all fun c0=>match clsAt K c0 with
 | some C0=>(ns.all fun c=>match clsAt K c with
  | some C=>PySem.W.kitOne K (.ref C0) (.ref C)==some (af5 c0 c)
  | none=>false)&&PySem.W.kitOne K (.ref C0) (.type "ValueError")==some true
 | none=>false
theorem ab5{K:Fg9}{c:Str}{C:Addr}(h:nsIn K mainGlobals c=some (some (.ref C))):clsAt K c=some C:=by
 unfold clsAt;rw[h]
theorem aiz{K:Fg9}{ns:List Str}{c0 c:Str}{C0 C:Addr}(h:afb K ns=true)(h0:ns.contains c0=true)(h1:ns.contains c=true)(e0:nsIn K mainGlobals c0=some (some (.ref C0)))(e1:nsIn K mainGlobals c=some (some (.ref C))) :
  PySem.W.kitOne K (.ref C0) (.ref C)=some (af5 c0 c):=by
 have z:=List.all_eq_true.mp h c0 (List.contains_iff_mem.mp h0);rw[ab5 e0] at z;have z1:=List.all_eq_true.mp (Bool.and_eq_true_iff.mp z).1 c (List.contains_iff_mem.mp h1);rw[ab5 e1] at z1;exact beq_iff_eq.mp z1
theorem aqy{K:Fg9}{ns:List Str}{c0:Str}{C0:Addr}(h:afb K ns=true)(h0:ns.contains c0=true)(e0:nsIn K mainGlobals c0=some (some (.ref C0))):PySem.W.kitOne K (.ref C0) (.type "ValueError")=some true:=by
 have z:=List.all_eq_true.mp h c0 (List.contains_iff_mem.mp h0);rw[ab5 e0] at z;exact beq_iff_eq.mp (Bool.and_eq_true_iff.mp z).2
def gIsC(ns:List Str)(c:Str):D->Option D
 | .exn c0 _=>if ns.contains c0 then some (.bl (af5 c0 c)) else none
 | _=>none
def mIsC(ns:List Str)(c:Str)(m:M D):M D:=m.bind fun d=>lift (gIsC ns c d)
section
variable{K:Fg9}{X:Cx}{e:Expr}{pos p:Pos}
theorem ahm{X:Cx}{cv:Value}{cV:V}(rc:∀u,RelV cV u->u=cv):acu X (.builtin "isinstance") (fun xs H Q=>∃F c0 fs x b,xs=[x,cV]/\Same F H/\Is X.K F (.exn c0 fs) x/\(∀C0,nsIn X.K mainGlobals c0=some (some (.ref C0))->PySem.W.kitOne X.K (.ref C0) cv=some b)/\Q (.bl b) H):=by
 intro zv s σ H xs us Q I r ⟨F,c0,fs,x,b,e,g,h,hk1,q⟩;subst e;obtain⟨u,w',rfl,r1,r2⟩:=vals2 r;obtain rfl:=rc w' r2;have fin:∀tk,EP X zv σ Q (.bool b) { s with toks:=tk }:=fun tk=>⟨.bl _,H,I.tok tk,rfl,q⟩
 cases h with
 | @exn a C c dx fs e hc hk hf =>
  cases(show u=Value.ref a from r1)
  obtain⟨⟨oe,ws,h1,h2,h3,h4⟩,_⟩:=(show rn X.prog X.w H s.heap a (.ext (exO a C dx)) from I.hok a _ (g _ _ e))
  have hno:PySem.W.notCls oe=true:=by unfold PySem.W.notCls;rw[h4]
  have ia:∃ox od,PySem.W.InstAt s.heap a ox C od:=by
   rcases hf with⟨rfl,_⟩ | ⟨d,rfl,hd⟩
   ·exact⟨oe,none,h1,h2,hno,by rw[h3];trivial⟩
   ·obtain⟨mA,⟨od,_,_,e1,_⟩,_⟩:=(show rn X.prog X.w H s.heap d (.xd _) from I.hok d _ (g _ _ hd))
    exact⟨oe,some od,h1,h2,hno,by rw[h3];exact e1⟩
  exact PySem.W.kia_one (ajd hk) I.kIn ia (hk1 C hc) (fun z=>nomatch z) fin
theorem ap5{F H:Hp}{d:D}{v:V}{ns:List Str}{c:Str}{r:D}(b:Bor K F H d v)(e:gIsC ns c d=some r):∃c0 fs,d=.exn c0 fs/\Is K F (.exn c0 fs) v/\ns.contains c0=true/\r=.bl (af5 c0 c):=by
 cases d with
 | exn c0 fs =>
  have e:(if ns.contains c0 then some (D.bl (af5 c0 c)) else none)=some r:=e
  split at e
  ·rename_i hn;cases e;refine⟨c0,fs,rfl,?_,hn,rfl⟩;rcases b with b | ⟨_,_,_,z,_⟩
   ·exact b
   ·cases z
  ·cases e
 | _=>cases e
theorem asv{ns:List Str}{c:Str}{C:Addr}{m:M D}{x:Str}{pc:Pos}(sub:afb K ns=true)(h1:ns.contains c=true)(hgC:Gl X c)(hmC:X.mg c=some (.ref C))(hnC:nsIn K mainGlobals c=some (some (.ref C)))
  (hg:Gl X x) (hm:X.mg x=none) (hv:bootBuiltins x=some (.builtin "isinstance")) (h:EB K X e m) (hdC:(c==("__debug__" : Str))=false:=by decide) (hn:x ≠ "__name__" := by decide) (hdb:(x==("__debug__" : Str))=false:=by decide)
  (h1':starEach [.Name c pc] X.env=(false,eval (.Name c pc) X.env)::starEach [] X.env:=by rfl) (he:starEach [e,.Name c pc] X.env=(false,eval e X.env)::starEach [.Name c pc] X.env:=by rfl) (hpl:(backTo pos (starEach [.Name c pc] X.env)).any (·.1)=false:=by rfl) :
  EV K X (.Call (.Name x p) [e,.Name c pc] [] pos) (mIsC ns c m):=EV.mk fun hk=>by
 refine PE.imp (adc (ahm (cv:=.ref C) (cV:=.ref C) fun u r=>r) hg hm hv (jy (h hk) (jy (alo (v:=.ref C) hgC hmC rfl hdC) abu h1') he) hn hdb he hpl) fun σ H Q z9 =>?_
 obtain⟨tg,F,ρ,d,ρ',G,em,q⟩:=z9;obtain⟨d1,ρ1,e1,em⟩:=bf em;obtain⟨e2,rfl⟩:=fu em;subst hk;refine⟨tg,F,ρ,d1,_,G,e1,fun v H' F' G' x bv =>?_⟩
 obtain⟨c0,fs,rfl,hi,h0,rfl⟩:=ap5 bv e2;exact⟨F',c0,fs,v,_,rfl,G'.sub,hi,fun C0 e0=>aiz sub h0 h1 e0 hnC,q _ H' F' G' x (.bl _)⟩
theorem ams{ns:List Str}{m:M D}{x:Str}{pc:Pos}(sub:afb K ns=true)(hgC:Gl X "ValueError")(hmC:X.mg "ValueError" = none)(hvC:bootBuiltins "ValueError" = some (.type "ValueError"))
  (hg:Gl X x) (hm:X.mg x=none) (hv:bootBuiltins x=some (.builtin "isinstance")) (h:EB K X e m) (hn:x ≠ "__name__" := by decide) (hdb:(x==("__debug__" : Str))=false:=by decide)
  (h1':starEach [.Name "ValueError" pc] X.env=(false,eval (.Name "ValueError" pc) X.env)::starEach [] X.env:=by rfl) (he:starEach [e,.Name "ValueError" pc] X.env=(false,eval e X.env)::starEach [.Name "ValueError" pc] X.env:=by rfl) (hpl:(backTo pos (starEach [.Name "ValueError" pc] X.env)).any (·.1)=false:=by rfl) :
  EV K X (.Call (.Name x p) [e,.Name "ValueError" pc] [] pos) (mIsC ns "ValueError" m):=EV.mk fun hk=>by
 refine PE.imp (adc (ahm (cv:=.type "ValueError") (cV:=.ty "ValueError") fun u r=>r) hg hm hv (jy (h hk) (jy (aeo hgC hmC hvC) abu h1') he) hn hdb he hpl) fun σ H Q z9 =>?_
 obtain⟨tg,F,ρ,d,ρ',G,em,q⟩:=z9;obtain⟨d1,ρ1,e1,em⟩:=bf em;obtain⟨e2,rfl⟩:=fu em;subst hk;refine⟨tg,F,ρ,d1,_,G,e1,fun v H' F' G' x bv =>?_⟩
 obtain⟨c0,fs,rfl,hi,h0,rfl⟩:=ap5 bv e2;refine⟨F',c0,fs,v,af5 c0 "ValueError", rfl,G'.sub,hi,fun C0 e0 =>?_,q _ H' F' G' x (.bl _)⟩
 rw[aqy sub h0 e0];simp[af5]
end
theorem ab6:bootBuiltins "ValueError" = some (.type "ValueError"):=by decide +kernel
@[simp] theorem ax8(ns:List Str)(c:Str)(m:M D)(ρ:Ro):mIsC ns c m ρ=(m.bind fun d=>lift (gIsC ns c d)) ρ:=rfl
@[simp] theorem aww(ns:List Str)(c c0:Str)(fs:List (Str×Int)):gIsC ns c (.exn c0 fs)=if ns.contains c0 then some (.bl (af5 c0 c)) else none:=rfl
end Dn
namespace L2
structure RoomU (k:Nat) (A:Around):Prop where
 dp:A.depth+3*k+5 < recursionLimit
 un:A.units+16*k+200 < cLine
 gd:A.guards=some []
theorem RoomU.mono{j k:Nat}{A:Around}(r:RoomU k A)(h:j<=k):RoomU j A:=⟨by have:=r.dp;omega,by have:=r.un;omega,r.gd⟩
theorem RoomU.deeper{k:Nat}{A:Around}(r:RoomU (k+1) A)(env:Env):RoomU k (A.deeper env) :=
 ⟨by have:=r.dp;show A.depth+1+3*k+5 < _;omega,by have:=r.un;show A.units+3+16*k+200 < _;omega,r.gd⟩
theorem RoomU.depth{k:Nat}{A:Around}(r:RoomU k A):A.depth < recursionLimit:=by have:=r.dp;omega
theorem RoomU.units{k:Nat}{A:Around}(r:RoomU k A):A.units+64 < cLine:=by have:=r.un;omega
theorem Room.mark{k:Nat}{A:Around}(r:Room k A)(e:Value):RoomU k (A.mark (some e)):=⟨r.dp,r.un,r.gd⟩
def cxU(P:Program)(w:World)(K:Fg9)(mg:Str->Option Value)(base:Heap)(N:List Str)(qual:Str)(scope:Scope)(f:Addr)(cd:Value)(A:Around)(outer:List Env)(s:Shared)(H:Hp):Cx :=
 { (cxOf CX0 P w K mg base N qual scope f cd A outer s H E0).nox with calm:=false }
structure FnOkU (P:Program) (w:World) (K:Fg9) (mg:Str->Option Value) (base:Heap) (k:Nat) (f:Addr) (fd:FuncData) (ps:List Str) (sp:Sp):Prop where
 len:∀vs H Q E,sp vs H Q E->vs.length=ps.length
 run:∀(A:Around) (outer:List Env) (s:Shared) (H:Hp) (args:Args) (us:List Value) (vs:List V) (Q:VK),RoomU k A->Env0 P w K mg base A outer s H->BindsTo s fd args (ps.zip us)->Vals vs us->sp vs H Q E0 ->
  codeAny (model P w) A (.call (.ref f) args) (CR CX0 outer P w H s Q E0) s
theorem Fun.okU{P:Program}{w:World}{K:Fg9}{mg:Str->Option Value}{base:Heap}{x qual:Str}{st:Stmt}{f:Addr}{fd:FuncData}{N ps:List Str}{k:Nat}{sp:Sp}(F:Fun K x qual st f fd)(S:FnScope N ps (ak st))(len:∀vs H Q E,sp vs H Q E->vs.length=ps.length)
  (hbody:∀(cdv:Value) (A:Around) (outer:List Env) (s:Shared) (H:Hp) (vs:List V) (Q:VK),RoomU k (A.deeper (envOfC qual (ak st) s.heap.objs.size f cdv))->sp vs H Q E0 ->
   ∃t,PSs (cxU P w K mg base N qual (ak st) f cdv A outer s H) (du st) t/\t { nx:=fun _ H'=>Q .non H',rt:=Q } (start N vs) H):FnOkU P w K mg base (k+1) f fd ps sp:=by
 obtain⟨oc,od,kV,doc,pm,an,cdv,ct,osl,rfl,lk,hcd⟩:=F.ex;refine⟨len,fun A outer s H args us vs Q hr e0 hb r hsp =>?_⟩
 have hl:=len _ _ _ _ hsp;have KX:K.In s.heap:=e0.mod.kin.keeps fun b o e=>(e0.bs b o e).1
 have lim:s.heap.NoLimit:=e0.mod.nolimit.keeps fun b o e=>(e0.bs b o e).1
 have hkind:∀y∈ps.zip us,(ak st).names.lookup y.1=some .local∨((ak st).names.lookup y.1=some .cell/\((cellsFrom (s.heap.objs.size+1) (ak st).names []).lookup y.1).isSome=true):=fun y hy=>by
  rcases S.par y.1 (List.of_mem_zip hy).1 with q | q
  ·exact .inl q
  ·exact .inr ⟨q,PySem.W.cellsFrom_some _ _ _ (.inl q)⟩
 refine codeAny_call_function hr.depth (KX _ _ lk) rfl S.co S.gen rfl (PySem.W.codeRec_of KX hcd) (hb _ _ _ _ ?_);refine wpAny_newFunctionEnv_cells S.kind hkind fun env he s1 x =>?_
 subst he;refine⟨lim.keeps x.toInCall.keep,codeAny_func ?_⟩;obtain⟨t,ht,hq⟩:=hbody cdv A outer s H vs Q (hr.deeper _) hsp;have e1:Env0 P w K mg base { A with handled:=none } outer s H:=⟨e0.frames,e0.mod,e0.bs,e0.bsz,e0.funs,e0.frf,e0.hok,e0.bare⟩
 have J:Inv (cxOf CX0 P w K mg base N qual (ak st) f cdv { A with handled:=none } outer s H E0) [] (start N vs) H s1:=ag8 S rfl e1 hl r x
 have I:Inv (cxU P w K mg base N qual (ak st) f cdv A outer s H) [] (start N vs) H s1 :=
  ⟨⟨J.ok.mod,J.ok.kind,J.ok.glob,J.ok.blt,J.ok.above,J.ok.inj,J.ok.has,J.ok.cab,(fun z=>absurd z Bool.false_ne_true),Around.frames_deeper e0.frames,J.ok.stk,J.ok.exf,J.ok.bs,J.ok.bsz,J.ok.noex,J.ok.exfs,J.ok.funs,J.ok.frf⟩,J.os,J.bare,J.base,J.loc,J.cell,J.free,J.freeC,J.pin,J.hok,J.len⟩
 refine wpAny_mono (ht [] s1 (start N vs) H _ I hq) (fun fl s' hs =>?_) fun e s' hs=>False.elim hs
 have fin:∀{σ':St} {H':Hp} {v:V} {u:Value},Inv (cxU P w K mg base N qual (ak st) f cdv A outer s H) [] σ' H' s'->RelV v u->Q v H'->CE outer P w H s Q u s' :=
  fun{σ' H' v u} J rv q=>⟨v,H',J.os,J.bare,J.base,J.hok,rv,q⟩
 cases fl with
 | ret u =>
  obtain⟨v,σ',H',J,rv,q⟩:=hs;exact fin J rv q
 | next =>
  obtain⟨σ',H',J,q⟩:=hs;exact fin (v:=V.non) (u:=Value.none) J rfl q
 | brk =>
  obtain⟨_,_,_,q⟩:=hs;exact False.elim q
 | cont =>
  obtain⟨_,_,_,q⟩:=hs;exact False.elim q
def DfnU(P:Program)(w:World)(K:Fg9)(mg:Str->Option Value)(base:Heap)(x:Str)(ps:List Str)(k:Nat)(sp:Sp):Prop :=
 ∃(f:Addr) (fd:FuncData),FnOkU P w K mg base k f fd ps sp/\mg x=some (.ref f)/\keepIn K (.ref f)=true/\Binds K fd ps []
theorem aui{X:Cx}{x:Str}{ps:List Str}{k:Nat}{sp:Sp}{e:Expr}{es:List Expr}{t:TA}{p pos:Pos}(F:DfnU X.prog X.w X.K X.mg X.base x ps k sp)(hr:RoomU k X.A)(hg:Gl X x)(ha:PA X (e::es) t)(hdb:(x==("__debug__" : Str))=false:=by decide)
  (he:starEach (e::es) X.env=(false,eval e X.env)::starEach es X.env:=by rfl) (hpl:(backTo pos (starEach es X.env)).any (·.1)=false:=by rfl):PE X (.Call (.Name x p) (e::es) [] pos) (aqt sp [] E0 t):=by
 obtain⟨f,fd,F,hm,hk,hb⟩:=F;intro zv s σ H Q I h;refine wpAny_Call_Name_kw (aaf I hg hm ?_ hdb);refine PySem.W.callWith_K (h₀:=X.base) I.ok.mod.kin hk (thn (ha pos zv s σ H _ I h) fun us s1 ⟨vs,H1,I1,r,q⟩=>⟨I1.kIn,?_⟩) he hpl
 have q:sp (vs++[]) H1 Q E0:=q;rw[List.append_nil] at q;have hl:(us++[]).length=ps.length:=by rw[List.append_nil,<-r.length];exact F.len _ _ _ _ q
 have hbn:=hb s1 us I1.kIn hl;rw[List.append_nil] at hbn;refine wpAny_call (codeAny_mono (F.run X.A X.stack s1 H1 ⟨[]++us,[]⟩ us vs Q hr I1.env0 hbn r q) fun r s' hq =>?_)
 cases r with
 | error e=>exact False.elim hq
 | ok fl =>
  cases fl with
  | ret u=>exact I1.after hq
  | next=>exact False.elim hq
  | brk=>exact False.elim hq
  | cont=>exact False.elim hq
end L2
namespace Dn
open L2 Mn
theorem ap7{K:Fg9}{X:Cx}{e:Expr}{es:List Expr}{pos p:Pos}{f:Fd}{n k:Nat}{x:Str}{pn:List Str}{js:List (Option Nat)}{ms:M (List (Option D))}(F:DfnU X.prog X.w X.K X.mg X.base x pn k (spOf K n f))(hr:RoomU k X.A)(hg:Gl X x)(ha:EG K X (e::es) js ms)(hn:js.length=n:=by rfl)(hdb:(x==("__debug__" : Str))=false:=by decide)
  (he:starEach (e::es) X.env=(false,eval e X.env)::starEach es X.env:=by rfl) (hpl:(backTo pos (starEach es X.env)).any (·.1)=false:=by rfl):ER K X (.Call (.Name x p) (e::es) [] pos) (mFn f js ms):=ER.mk fun hk=>PE.imp (aui F hr hg (ha hk) hdb he hpl) fun σ H Q z9=>by
 obtain⟨tg,F,ρ,r,ρ',G,em,q⟩:=z9;obtain⟨ds,ρ1,ps,e1,hj,e2,rfl⟩:=apz em;refine⟨tg,F,ρ,ds,ρ1,G,e1,fun vs H1 F1 G1 x1 ar =>?_⟩
 have L:=ar.lent;show spOf K n f (vs++[]) H1 Q E0;rw[List.append_nil];refine⟨by rw[ar.length];exact hn,F1,_,r,ps,uq G1 hj L,e2,fun v H' F' O' s' x' fin rr =>?_⟩
 exact q v H' F' (xg G1 L x' s' fin) (x1.trans (aat G1 L x')) (qj x1 (adh G1 L fin rr))
theorem amm{K:Fg9}{P:Program}{w:World}{mg:Str->Option Value}{base:Heap}{x qual:Str}{st:Stmt}{f:Addr}{fd:FuncData}{N ps:List Str}{k nl np:Nat}{g:Sd}(F:Fun K x qual st f fd)(S:FnScope N ps (ak st))(h1:N.length=nl)(h2:ps.length=np)
  (body:∀(cdv:Value) (A:Around) (outer:List Env) (s:Shared) (H:Hp),RoomU k (A.deeper (envOfC qual (ak st) s.heap.objs.size f cdv))->SVs K (cxU P w K mg base N qual (ak st) f cdv A outer s H) (du st) g) :
  FnOkU P w K mg base (k+1) f fd ps (spOf K np (fnD nl np g)):=by
 subst h1 h2;refine F.okU S (fun vs H Q E h=>h.1) fun cdv A outer s H vs Q hr h=>⟨_,body cdv A outer s H hr rfl,?_⟩
 obtain⟨hn,F,as,r,ps',G,em,q⟩:=h;have hl:as.length=(vs.map some).length:=G.len;have G1:=G.app (N.length - vs.length);have es:start N vs=vs.map some++List.replicate (N.length - vs.length) none:=rfl;rw[es];unfold fnD at em;rw[<-hn] at em;have fin:∀{ρ':Ro} {σ':L2.St} {F' H':Hp},Good K (tgOf (vs.map some)) F' H' ρ' σ'->Fin K F' H' (vs.map some) (ρ'.take vs.length) (Own ρ' σ'):=fun{ρ' σ' F' H'} G'=>⟨fun i l e=>by
  have hi:=(List.getElem?_eq_some_iff.mp e).1;rw[List.length_take] at hi;rw[List.getElem?_take_of_lt (by omega)] at e
  obtain⟨o,ho,a,ws,rfl,hf,hh,hl,ht⟩:=G'.at e;rw[ht i rfl];exact⟨⟨i,⟨_,_,e⟩,ho⟩,hf,ws,hh,hl⟩⟩
 split at em
 ·rename_i r' ρ' e;cases em;refine⟨_,F,_,.ret r,ρ',G1,e,fun v σ' H' F' G' x' rr =>?_⟩
  rw[qg hl] at x' rr;exact q v H' F' (Own ρ' σ') G'.sub x' (fin G') rr
 ·rename_i ρ' e;cases em;refine⟨_,F,_,.nx,ρ',G1,e,fun σ' H' F' G' x' =>?_⟩
  rw[qg hl] at x';exact q .non H' F' (Own ρ' σ') G'.sub x' (fin G') .non
 ·cases em
 ·cases em
def cxH(X:Cx)(ev:Value):Cx:={ X with A:=X.A.mark (some ev),calm:=false }
section
variable{K:Fg9}{X:Cx}{zv:List (Addr×Obj)}{σ:L2.St}{H:Hp}{s:Shared}{tg:Nat->Addr}{F:Hp}{ρ:Ro}
theorem Inv.hnd(I:Inv X zv σ H s)(ev:Value):Inv (cxH X ev) zv σ H s :=
 ⟨⟨I.ok.mod,I.ok.kind,I.ok.glob,I.ok.blt,I.ok.above,I.ok.inj,I.ok.has,I.ok.cab,(fun z=>absurd z Bool.false_ne_true),I.ok.frames,I.ok.stk,I.ok.exf,I.ok.bs,I.ok.bsz,I.ok.noex,I.ok.exfs,I.ok.funs,I.ok.frf⟩,I.os,I.bare,I.base,I.loc,I.cell,I.free,I.freeC,I.pin,I.hok,I.len⟩
theorem Inv.unhnd{ev:Value}(hd:X.calm=true->X.A.handled=none)(I:Inv (cxH X ev) zv σ H s):Inv X zv σ H s :=
 ⟨⟨I.ok.mod,I.ok.kind,I.ok.glob,I.ok.blt,I.ok.above,I.ok.inj,I.ok.has,I.ok.cab,hd,I.ok.frames,I.ok.stk,I.ok.exf,I.ok.bs,I.ok.bsz,I.ok.noex,I.ok.exfs,I.ok.funs,I.ok.frf⟩,I.os,I.bare,I.base,I.loc,I.cell,I.free,I.freeC,I.pin,I.hok,I.len⟩
theorem Inv.track{a:Addr}{o:HO}(I:Inv X zv σ H s)(f:FpX X zv H a)(new:rn X.prog X.w (upd H a o) s.heap a o):Inv X zv σ (upd H a o) s:=by
 have ne:∀b z,H b=some z->b≠a:=fun b z q w=>by rw[w,f.1] at q;cases q
 refine⟨I.ok,I.os,I.bare,⟨I.base.keep,I.base.slot,fun b o' e n hx =>?_,I.base.there,fun b xs q =>?_,fun b ob u q =>?_,fun b ps q =>?_⟩,I.loc,I.cell,?_,fun x c e =>?_,fun p hp =>?_,fun b u e =>?_,I.len⟩
 ·rw[bu (fun w=>by
   rcases f.2.2.2.1 with z | z
   ·exact hx (w▸z)
   ·rw[w,z] at e;cases e)]
  exact I.base.free b o' e n hx
 ·have:=I.base.tups b xs q;rw[bu (ne _ _ this)];exact this
 ·have:=I.base.frzs b ob u q;rw[bu (ne _ _ this)];exact this
 ·obtain⟨more,h1⟩:=I.base.tbls b ps q;exact⟨more,by rw[bu (ne _ _ h1)];exact h1⟩
 ·rw[bu (Ne.symm f.2.1)];exact I.free
 ·rw[bu (f.2.2.2.2.1 x c e)];exact I.freeC x c e
 ·obtain⟨h1,h2,h3,h4,h5⟩:=I.pin p hp;exact⟨h1,by rw[bu (f.2.2.2.2.2 p hp)];exact h2,h3,h4,h5⟩
 ·by_cases hb:b=a
  ·subst hb;rw[dg] at e;cases e;exact new
  ·rw[bu hb] at e;refine(I.hok b u e).stay (fun c v _ q=>q) (fun c q =>?_) fun c xs q =>?_
   ·rw[bu (ne _ _ q)];exact q
   ·rw[bu (ne _ _ q)];exact q
theorem akd{i:Nat}{a:Addr}{σ':L2.St}(hs:∀j,j≠i->σ'[j]? = σ[j]?)(h:Own (List.set ρ i .emp) σ' a):Own ρ σ a:=by
 obtain⟨j,⟨t,l,e⟩,q⟩:=h;rw[List.getElem?_set] at e
 by_cases hj:i=j
 ·subst hj;rw[if_pos rfl] at e;split at e <;> cases e
 ·rw[if_neg hj] at e;exact⟨j,⟨t,l,e⟩,by rw[<-hs j (Ne.symm hj)];exact q⟩
theorem Good.forget(G:Good K tg F H ρ σ)(i:Nat):Good K tg F H (List.set ρ i .emp) (List.set σ i none) where
 sub:=G.sub
 len:=by rw[List.length_set,List.length_set];exact G.len
 sl:=fun j s o e q=>by
  rw[List.getElem?_set] at e q
  by_cases hj:i=j
  ·subst hj;rw[if_pos rfl] at e;split at e
   ·cases e;trivial
   ·cases e
  ·rw[if_neg hj] at e q;exact G.sl j s o e q
 inj:=fun j k a ⟨⟨t,l,e⟩,q⟩ ⟨⟨t',l',e'⟩,q'⟩=>by
  have f:∀{j t l},(List.set ρ i Sl.emp)[j]? = some (Sl.own t l)->i≠j:=fun{j t l} e z=>by
   subst z;rw[List.getElem?_set,if_pos rfl] at e;split at e <;> cases e
  have n1:=f e;have n2:=f e';rw[List.getElem?_set,if_neg n1] at e q;rw[List.getElem?_set,if_neg n2] at e' q';exact G.inj j k a ⟨⟨t,l,e⟩,q⟩ ⟨⟨t',l',e'⟩,q'⟩
theorem Ext.less{O O' O2:Addr->Prop}{F H F' H':Hp}(x:Ext O O' F H F' H')(h:∀a,O2 a->O' a):Ext O O2 F H F' H':=⟨x.sub,x.new,x.keep,fun a z=>x.own a (h a z),x.there⟩
theorem ale{O O' O2:Addr->Prop}{F' H H':Hp}{r:Rv}{v:V}(x:relR K r v H O F' H' O')(h:∀a,O2 a->O' a):relR K r v H O F' H' O2:=by
 cases r with
 | v d=>exact x
 | fr l =>
  obtain⟨a,vs,e1,e2,e3,e4,e5,e6⟩:=x;exact⟨a,vs,e1,e2,e3,e4,e5,fun z=>e6 (h a z)⟩
 | tf d l =>
  obtain⟨t,u,a,vs,e0,e1,e2,e3,e4,e5,e6,e7⟩:=x;exact⟨t,u,a,vs,e0,e1,e2,e3,e4,e5,e6,fun z=>e7 (h a z)⟩
end
def dTry(ns:List Str)(gb:Sd)(i:Nat)(gh:Sd):Sd:=fun ρ=>match gb ρ with
 | some (.exc x,ρ1)=>if ns.contains x.cls then match gh (List.set ρ1 i (.val (.exn x.cls x.fs))) with
   | some (.exc _,_)=>none
   | some (fl,ρ2)=>some (fl,List.set ρ2 i .emp)
   | none=>none
  else none
 | r=>r
structure CatN (K:Fg9) (B:Addr):Prop extends CatK K B where
 ns:nsIn K mainGlobals "ArrowError" = some (some (.ref B))
 self:PySem.W.subIn K (.ref B) (.ref B)=some true
theorem aj6{K:Fg9}{C B:Addr}(k:CatN K B)(h:PySem.W.kitOne K (.ref C) (.ref B)=some true):PySem.W.subIn K (.ref C) (.ref B)=some true:=by
 by_cases e:C=B
 ·rw[e];exact k.self
 ·have h1:(if (Value.ref C==Value.ref B)=true then some true else PySem.W.kitCls K (.ref C) (.ref B))=some true:=h
  rw[if_neg (fun z=>e (Value.ref.inj (beq_iff_eq.mp z)))] at h1
  have h2:(if ((PySem.W.clsIn K B).isSome&&PySem.W.typeIn K (.ref B)==some (.type "type"))=true then PySem.W.subIn K (.ref C) (.ref B) else none)=some true:=h1
  split at h2
  ·exact h2
  ·cases h2
def azg(K:Fg9)(tg:Nat->Addr)(ρ:Ro)(σ:L2.St)(F H:Hp)(ρ2:Ro)(fl:Fl):Ends where
 nx:=fun σ6 H6=>fl=.nx/\∃F6,Good K tg F6 H6 ρ2 σ6/\Ext (Own ρ σ) (Own ρ2 σ6) F H F6 H6
 bk:=fun σ6 H6=>fl=.brk/\∃F6,Good K tg F6 H6 ρ2 σ6/\Ext (Own ρ σ) (Own ρ2 σ6) F H F6 H6
 ct:=fun σ6 H6=>fl=.cont/\∃F6,Good K tg F6 H6 ρ2 σ6/\Ext (Own ρ σ) (Own ρ2 σ6) F H F6 H6
 rt:=fun v H6=>∃r σ6 F6,fl=.ret r/\Good K tg F6 H6 ρ2 σ6/\Ext (Own ρ σ) (Own ρ2 σ6) F H F6 H6/\relR K r v H (Own ρ σ) F6 H6 (Own ρ2 σ6)
section
variable{K:Fg9}{X:Cx}{pos hpos bp:Pos}{n:Str}{B:Addr}{i:Nat}{b₀:Stmt}{body suite:List Stmt}{ns:List Str}{gb gh:Sd}
theorem atm(hcalm:X.calm=true)(hno:X.xe=fun _ _=>False)(hfr:X.env.frame=some X.env.locals)(hst:X.stack=X.env::X.outer)(hN:X.N.Nodup)(hi:X.N[i]? = some n)(hk0:X.env.scope.names.lookup n=some .local)
  (hgB:Gl X "ArrowError") (hmB:X.mg "ArrowError" = some (.ref B)) (cat:CatN K B) (sub:afb K ns=true) (hB:ns.contains "ArrowError" = true) (hb:SVs K X body gb) (hx:XSs K X body gb) (hh:∀ev,SVs K (cxH X ev) (b₀::suite) gh) :
  SV K X (.Try body [.ExceptHandler (some (.Name "ArrowError" bp)) (some n) (b₀::suite) hpos] [] [] pos) (dTry ns gb i gh):=SV.mk fun hk zv s σ H E I z9=>by
 obtain⟨tg,F,ρ,fl,ρ',G,em,q⟩:=z9;refine wpAny_Try_except ?_;unfold dTry at em;split at em
 ·rename_i x ρ1 e1;split at em
  ·rename_i hc0;split at em
   ·cases em
   ·rename_i fl' ρ2 hne e2;cases em;refine wpAny_mono (hx.go hk hno zv s σ H tg F ρ x ρ1 I G (lg.mpr e1)) (fun _ _ z=>z.elim) fun er s1 z9 =>?_
    obtain⟨σ1,H1,F1,I1,G1,x1,a,C,dx,ch,ea,hc,hf,fly,hch⟩:=z9;subst ea;have hl1:=I1.stack;rw[hst] at hl1;refine alx (by rw[<-hst];exact I1.ok.frames) hl1 hfr fly fun h2 ch2 hne2 hch2 kb2 fly2 =>?_
    rw[<-hst] at kb2;have I2:=Inv.records I1 kb2 hch;have fp2:∀b∈ch2,FpX X zv H1 b:=fun b hb=>by
     rcases hch2 b hb with z | z
     ·exact hch b z
     ·exact Inv.fpX I1 (Heap.get?_none_of_le z) (I1.hok.fresh z)
    obtain⟨oe,vs,he,hcl,_⟩:=(fly2 X.env.locals).obj;have hsub:=aj6 cat (by have z:=aiz sub hc0 hB hc.ns cat.ns;rw[z];simp[af5])
    refine wpAny_handleBy_cons (codeAny_handlers_test (aaf (X:=cxH X (.ref a)) (Inv.hnd I2 _) hgB hmB ?_ (by decide))) (by intro z;cases z)
    refine aog (hk▸I2.kIn) cat.toCatK he hcl hsub ?_;refine codeAny_handlers_suite_as ?_;refine aql (fs:=frs X.stack) (fly2 X.env.locals) hne2 fun h3 kb3 fly3 ha3 =>?_
    have I3:=Inv.records I2 kb3 fp2;obtain⟨oe3,vs3,he3,hcl3,hdx3,hd3,_⟩:=(fly3 X.env.locals).obj;have fa:FpX X zv H1 a:=fp2 a (fly2 X.env.locals).fresh;have I4:=Inv.track (o:=.ext (exO a C dx)) I3 fa ⟨⟨oe3,vs3,he3,hcl3,hdx3,hd3⟩,⟨oe3,he3⟩,fun g1 g2 ⟨o,vs',h1,h2,h3,h4⟩ kp=>⟨o,vs',kp o h1,h2,h3,h4⟩⟩
    have G4:=G1.new fa.1 (.ext (exO a C dx));have x4:=G1.newX fa.1 (.ext (exO a C dx));have isE:Is K (upd F1 a (.ext (exO a C dx))) (.exn x.cls x.fs) (.ref a):=.exn dg hc.ns hc.ok (hf.imp id fun⟨d,h1,h2⟩=>⟨d,h1,x4.sub _ _ h2⟩)
    obtain⟨G5,x5⟩:=G4.storeV i isE;refine uf I4 hN hi (.inl hk0) (v:=.ref a) rfl (fun s5 I5 =>?_) (.inr hk0)
    have hx5:=(x1.trans x4).trans x5;have back:∀{f:Flow} {s6:Shared} {σ6:L2.St} {H6:Hp},Inv (cxH X (.ref a)) zv σ6 H6 s6->(∀s7,Inv X zv (List.set σ6 i none) H6 s7->SP X zv E f s7) ->
      wpAny (model X.prog X.w) X.A (do bindName X.env n .none;unbindBehindTheSuite X.env n hpos) (fun _ s7=>SP X zv E f s7) X.xe s6:=fun{f s6 σ6 H6} I6 fin=>by
     have I6:=Inv.unhnd I.ok.hd I6;refine wpAny_bind (wpAny_bindName (uf I6 hN hi (.inl hk0) (v:=.non) rfl (fun s7 I7 =>?_) (.inr hk0)))
     unfold unbindBehindTheSuite;refine wpAny_onRaise (av3 I7 hN hi hk0 (v:=.non) (List.getElem?_set_self (by rw[I6.len];exact(List.getElem?_eq_some_iff.mp hi).1)) fun s8 I8=>fin s8 ?_)
     rw[List.set_set] at I8;exact I8
    refine wpAny_mono ((hh (.ref a)).go hk zv s5 _ _ (azg K tg ρ σ F H ρ2 fl) (Inv.hnd I5 (.ref a))
      ⟨tg,_,_,fl,ρ2,G5,e2,?_⟩) (fun f s6 hs =>?_) fun _ _ z=>by
       have z:X.xe _ _:=z;rw[hno] at z;exact z.elim
    ·cases fl with
     | nx=>exact fun σ6 H6 F6 G6 x6=>⟨rfl,F6,G6,hx5.trans x6⟩
     | brk=>exact fun σ6 H6 F6 G6 x6=>⟨rfl,F6,G6,hx5.trans x6⟩
     | cont=>exact fun σ6 H6 F6 G6 x6=>⟨rfl,F6,G6,hx5.trans x6⟩
     | ret r=>exact fun v σ6 H6 F6 G6 x6 rr=>⟨r,σ6,F6,rfl,G6,hx5.trans x6,qj hx5 rr⟩
     | exc y=>exact(hne y rfl).elim
    ·have sub6:∀(σ6:L2.St) (a:Addr),Own (List.set ρ2 i .emp) (List.set σ6 i none) a->Own ρ2 σ6 a:=fun σ6 a z=>akd (fun j hj=>List.getElem?_set_ne (Ne.symm hj)) z
     cases f with
     | next =>
      obtain⟨σ6,H6,I6,rfl,F6,G6,x6⟩:=hs;exact back I6 fun s7 I7=>⟨_,H6,I7,q _ H6 F6 (G6.forget i) (x6.less (sub6 σ6))⟩
     | brk =>
      obtain⟨σ6,H6,I6,rfl,F6,G6,x6⟩:=hs;exact back I6 fun s7 I7=>⟨_,H6,I7,q _ H6 F6 (G6.forget i) (x6.less (sub6 σ6))⟩
     | cont =>
      obtain⟨σ6,H6,I6,rfl,F6,G6,x6⟩:=hs;exact back I6 fun s7 I7=>⟨_,H6,I7,q _ H6 F6 (G6.forget i) (x6.less (sub6 σ6))⟩
     | ret u =>
      obtain⟨v,σ6,H6,I6,rv,r,σ6',F6,rfl,G6,x6,rr⟩:=hs;exact back I6 fun s7 I7=>⟨v,_,H6,I7,rv,q v _ H6 F6 (G6.forget i) (x6.less (sub6 σ6')) (ale rr (sub6 σ6'))⟩
   ·cases em
  ·cases em
 ·rename_i hn;refine wpAny_mono (hb.go hk zv s σ H E I ⟨tg,F,ρ,fl,ρ',G,em,q⟩) (fun f s1 z =>?_) fun er s1 z=>by rw[hno] at z;exact z.elim
  cases f with
  | next=>exact wpAny_execs_nil z
  | ret v=>exact z
  | brk=>exact z
  | cont=>exact z
end
def okS{α:Type}(m:M α):M α:=fun ρ=>match m ρ with
 | some (.ok a,ρ1)=>some (.ok a,ρ1)
 | _=>none
def dOk(g:Sd):Sd:=fun ρ=>match g ρ with
 | some (.exc _,_)=>none
 | r=>r
@[simp] theorem azl{α:Type}(m:M α)(ρ:Ro):okS m ρ=match m ρ with
 | some (.ok a,ρ1)=>some (.ok a,ρ1)
 | _=>none:=rfl
@[simp] theorem azv(g:Sd)(ρ:Ro):dOk g ρ=match g ρ with
 | some (.exc _,_)=>none
 | r=>r:=rfl
theorem aex{α:Type}{m:M α}{ρ ρ':Ro}{o:Out α}(h:okS m ρ=some (o,ρ')):m ρ=some (o,ρ')/\∃a,o=.ok a:=by
 unfold okS at h;split at h
 ·rename_i a ρ1 e;cases h;exact⟨e,a,rfl⟩
 ·cases h
theorem ap8{g:Sd}{ρ ρ':Ro}{fl:Fl}(h:dOk g ρ=some (fl,ρ')):g ρ=some (fl,ρ')/\∀x,fl≠.exc x:=by
 unfold dOk at h;split at h
 ·cases h
 ·rename_i hn;exact⟨h,fun x e=>hn x ρ' (by rw[h,e])⟩
theorem nu{α:Type}{m:M α}:NoX (okS m):=fun ρ x ρ' h=>by
 obtain⟨_,a,e⟩:=aex h;cases e
theorem ar0{g:Sd}:NoS (dOk g):=fun ρ x ρ' h=>(ap8 h).2 x rfl
section
variable{K:Fg9}{X:Cx}{e a b c:Expr}{es:List Expr}{pos p:Pos}{st:Stmt}{ss:List Stmt}
theorem SV.s{g:Sd}(h:SV K X st g):SV K X st (dOk g):=SV.mk fun hk=>PS.imp (h.go hk) fun E σ H ⟨tg,F,ρ,fl,ρ',G,em,q⟩=>⟨tg,F,ρ,fl,ρ',G,(ap8 em).1,q⟩
theorem EV.s{m:M D}(h:EV K X e m):EV K X e (okS m):=EV.mk fun hk=>PE.imp (h.go hk) fun σ H Q ⟨tg,F,ρ,d,ρ',G,em,q⟩=>⟨tg,F,ρ,d,ρ',G,(aex em).1,q⟩
theorem ER.s{m:M Rv}(h:ER K X e m):ER K X e (okS m):=ER.mk fun hk=>PE.imp (h.go hk) fun σ H Q ⟨tg,F,ρ,d,ρ',G,em,q⟩=>⟨tg,F,ρ,d,ρ',G,(aex em).1,q⟩
theorem ET.s{m:M Bool}(h:ET K X e m):ET K X e (okS m):=ET.mk fun hk=>fun zv s σ H Q I ⟨tg,F,ρ,d,ρ',G,em,q⟩=>h.go hk zv s σ H Q I ⟨tg,F,ρ,d,ρ',G,(aex em).1,q⟩
theorem EG.s{js:List (Option Nat)}{m:M (List (Option D))}(h:EG K X es js m):EG K X es js (okS m):=EG.mk fun hk=>PA.imp (h.go hk) fun σ H Q ⟨tg,F,ρ,d,ρ',G,em,q⟩=>⟨tg,F,ρ,d,ρ',G,(aex em).1,q⟩
theorem aiy{x:Exn}:SV K X st (ae7 x):=SV.mk fun _=>PS.imp ai1 fun E σ H z9=>by
 obtain⟨tg,F,ρ,fl,ρ',G,em,q⟩:=z9;cases em;exact(show False from q).elim
theorem apk{g:Sd}:XS K X st (dOk g):=XS.no ar0
theorem XE.d{m:M Rv}(h:XE K X e m):XE K X e m.d:=⟨fun hk hn zv s σ H tg F ρ x ρ' I G em=>by
 rcases yt (qb.mp em) with em | ⟨_,_,_,em⟩
 ·exact h.go hk hn zv s σ H tg F ρ x ρ' I G (qb.mpr em)
 ·cases em⟩
theorem XE.v{m:M D}(h:XE K X e m):XE K X e m.v:=⟨fun hk hn zv s σ H tg F ρ x ρ' I G em=>by
 rcases yt (qb.mp em) with em | ⟨_,_,_,em⟩
 ·exact h.go hk hn zv s σ H tg F ρ x ρ' I G (qb.mpr em)
 ·cases em⟩
theorem aix{α:Type}{l:α}:XA K X [] (ret l):=XA.no fun ρ x ρ' h=>by cases h
theorem xa_v{m:M D}{js:List (Option Nat)}{ms:M (List (Option D))}(h:EV K X e m)(hx:XE K X e m)(t:XA K X es ms)(hs:starEach (e::es) X.env=(false,eval e X.env)::starEach es X.env:=by rfl):XA K X (e::es) (bw m ms):=⟨fun pos hk hn zv s σ H tg F ρ x ρ' I G em=>by
 rw[hs];refine Calls.spliced_cons ?_;rcases yt (qb.mp em) with em | ⟨d,ρ1,e1,em⟩
 ·exact wpAny_mono (hx.go hk hn zv s σ H tg F ρ x ρ' I G (qb.mpr em)) (fun _ _ z=>z.elim) fun _ _ z=>z
 ·rcases yt em with em | ⟨_,_,_,em⟩
  ·refine wpAny_mono (h.go hk zv s σ H (fun _ H1=>∃F1,Good K tg F1 H1 ρ1 σ/\Ext (Own ρ σ) (Own ρ1 σ) F H F1 H1) I ⟨tg,F,ρ,d,ρ1,G,e1,fun v H1 F1 G1 x1 _=>⟨F1,G1,x1⟩⟩) (fun u s1 ⟨v,H1,I1,_,F1,G1,x1⟩ =>?_) fun e s1 q=>by rw[hn] at q;exact q.elim
   exact wpAny_mono (t.go pos hk hn zv s1 σ H1 tg F1 ρ1 x ρ' I1 G1 (qb.mpr em)) (fun _ _ z=>z.elim) fun _ _ z=>z.back x1
  ·cases em⟩
theorem xa_n{j:Nat}{ms:M (List (Option D))}(h:PE X e (tVar j))(t:XA K X es ms)(hs:starEach (e::es) X.env=(false,eval e X.env)::starEach es X.env:=by rfl):XA K X (e::es) (cg j ms):=⟨fun pos hk hn zv s σ H tg F ρ x ρ' I G em=>by
 rw[hs];refine Calls.spliced_cons ?_;rcases yt (qb.mp em) with em1 | ⟨d,ρ1,e1,em2⟩
 ·exfalso;unfold di at em1;split at em1 <;> cases em1
 ·obtain⟨hρ,v,hv,_⟩:=j7 G e1;rw[hρ] at em2;rcases yt em2 with em3 | ⟨_,_,_,em3⟩
  ·refine wpAny_mono (h zv s σ H (fun _ H1=>H1=H) I ⟨v,hv,rfl⟩) (fun u s1 ⟨_,H1,I1,_,e⟩ =>?_) fun e s1 q=>by rw[hn] at q;exact q.elim
   subst e;exact wpAny_mono (t.go pos hk hn zv s1 σ H1 tg F ρ x ρ' I1 G (qb.mpr em3)) (fun _ _ z=>z.elim) fun _ _ z=>z
  ·cases em3⟩
end
section
variable{K:Fg9}{X:Cx}{e:Expr}{es:List Expr}{pos p:Pos}
end
def ClsT(K:Fg9)(mg:Str->Option Value)(c:Str):Prop:=∃C,mg c=some (.ref C)/\ClsOk K c C
def RaiT(K:Fg9)(mg:Str->Option Value)(c:Str):Prop:=∃C,mg c=some (.ref C)/\ClsOk K c C/\PySem.W.excIn K C bmV "ValueError.__new__" = true
def CatT(K:Fg9)(mg:Str->Option Value):Prop:=∃B,mg "ArrowError" = some (.ref B)/\CatN K B
section
variable{K:Fg9}{X:Cx}{e:Expr}{pos p np cpos hpos bp:Pos}{c:Str}
theorem agg(hk:X.K=K)(hcalm:X.calm=true)(hg:Gl X c)(h:RaiT K X.mg c)(hd:(c==("__debug__" : Str))=false:=by decide):XS K X (.Raise (some (.Call (.Name c np) [] [] cpos)) none pos) (ae7 ⟨c,[]⟩):=by
 obtain⟨C,hm,k,q⟩:=h;subst hk;exact akz hcalm hg hm k q hd
theorem jg{ns:List Str}{m:M D}{x:Str}{pc:Pos}(sub:afb K ns=true)(h1:ns.contains c=true)(hgC:Gl X c)(hC:ClsT K X.mg c)(hg:Gl X x)(hm:X.mg x=none)(hv:bootBuiltins x=some (.builtin "isinstance"))(h:EB K X e m)
  (hdC:(c==("__debug__" : Str))=false:=by decide) (hn:x ≠ "__name__" := by decide) (hdb:(x==("__debug__" : Str))=false:=by decide)
  (h1':starEach [.Name c pc] X.env=(false,eval (.Name c pc) X.env)::starEach [] X.env:=by rfl) (he:starEach [e,.Name c pc] X.env=(false,eval e X.env)::starEach [.Name c pc] X.env:=by rfl) (hpl:(backTo pos (starEach [.Name c pc] X.env)).any (·.1)=false:=by rfl) :
  EV K X (.Call (.Name x p) [e,.Name c pc] [] pos) (mIsC ns c m):=by
 obtain⟨C,hmC,k⟩:=hC;exact asv sub h1 hgC hmC k.ns hg hm hv h hdC hn hdb h1' he hpl
theorem aqu{n:Str}{i:Nat}{b₀:Stmt}{body suite:List Stmt}{ns:List Str}{gb gh:Sd}(hcalm:X.calm=true)(hno:X.xe=fun _ _=>False)(hfr:X.env.frame=some X.env.locals)(hst:X.stack=X.env::X.outer)(hN:X.N.Nodup)(hi:X.N[i]? = some n)(hk0:X.env.scope.names.lookup n=some .local)
  (hgB:Gl X "ArrowError") (hB:CatT K X.mg) (sub:afb K ns=true) (hB2:ns.contains "ArrowError" = true) (hb:SVs K X body gb) (hx:XSs K X body gb) (hh:∀ev,SVs K (cxH X ev) (b₀::suite) gh) :
  SV K X (.Try body [.ExceptHandler (some (.Name "ArrowError" bp)) (some n) (b₀::suite) hpos] [] [] pos) (dTry ns gb i gh):=by
 obtain⟨B,hm,cat⟩:=hB;exact atm hcalm hno hfr hst hN hi hk0 hgB hm cat sub hB2 hb hx hh
end
@[simp] theorem av4(x:Exn)(ρ:Ro):ae7 x ρ=some (.exc x,ρ):=rfl
def asu(K:Fg9)(C:Addr):Bool:=(findIn K (.ref C) "__getattribute__" == some (some (.builtin "BaseException.__getattribute__")))&&(findIn K (.ref C) "__getattr__" == some none)&&(PySem.W.mroIn K C (.type "BaseException")==some true)&&PySem.W.hasDictIn K C&&(findIn K (.ref C) "__class__" == some (some (.builtin "object.__class__")))&&(PySem.W.specialIn K (.builtin "object.__class__") "__get__" == some (some (.builtin "getset_descriptor.__get__"))) &&
 (PySem.W.takesIn K (.builtin "object.__class__")==some true)&&(PySem.W.mroIn K C (.type "object")==some true)&&["int","bool","tuple","list","str","dict"].all fun T=>PySem.W.subIn K (.ref C) (.type T)==some false
theorem ao5{K:Fg9}{C:Addr}(h:asu K C=true):ExcK K C:=by
 unfold asu at h;simp only[Bool.and_eq_true,beq_iff_eq] at h;obtain⟨⟨⟨⟨⟨⟨⟨⟨h0,h1⟩,h8⟩,h2⟩,h3⟩,h4⟩,h5⟩,h6⟩,h7⟩:=h;exact⟨h0,h1,h8,h2,h3,h4,h5,h6,fun T hT=>beq_iff_eq.mp (List.all_eq_true.mp h7 T hT)⟩
def ajt(K:Fg9)(ns:List Str):Bool:=ns.all fun c=>match clsAt K c with
 | some C=>asu K C
 | none=>false
def apm(K:Fg9)(ns:List Str):Bool:=ns.all fun c=>match clsAt K c with
 | some C=>PySem.W.excIn K C bmV "ValueError.__new__"
 | none=>false
def catB(K:Fg9):Bool:=match clsAt K "ArrowError" with
 | some B=>PySem.W.hasDictIn K B&&(PySem.W.typeIn K (.ref B)==some (.type "type"))&&(PySem.W.subIn K (.ref B) (.type "BaseException")==some true)&&(PySem.W.subIn K (.ref B) (.ref B)==some true)
 | none=>false
theorem adg{K:Fg9}{c:Str}{C:Addr}(h:clsAt K c=some C):nsIn K mainGlobals c=some (some (.ref C)):=by
 unfold clsAt at h;split at h
 ·rename_i C' e;cases h;exact e
 ·cases h
section
variable{K:Fg9}{h:Heap}{mg:Str->Option Value}{ns:List Str}{c:Str}
theorem qd(X:K.In h)(G:h.Ns mainGlobals mg)(e:ajt K ns=true)(hc:ns.contains c=true):ClsT K mg c:=by
 have z:=List.all_eq_true.mp e c (List.contains_iff_mem.mp hc);split at z
 ·rename_i C q;exact⟨C,mg_of X G (adg q),adg q,ao5 z⟩
 ·cases z
theorem aab{rs:List Str}(X:K.In h)(G:h.Ns mainGlobals mg)(e:ajt K ns=true)(hc:ns.contains c=true)(e2:apm K rs=true)(hr:rs.contains c=true):RaiT K mg c:=by
 obtain⟨C,h1,h2⟩:=qd X G e hc;have z:=List.all_eq_true.mp e2 c (List.contains_iff_mem.mp hr);rw[ab5 h2.ns] at z;exact⟨C,h1,h2,z⟩
theorem as7(X:K.In h)(G:h.Ns mainGlobals mg)(e:catB K=true):CatT K mg:=by
 unfold catB at e;split at e
 ·rename_i B q;simp only[Bool.and_eq_true,beq_iff_eq] at e;obtain⟨⟨⟨h1,h2⟩,h3⟩,h4⟩:=e;obtain⟨cd,hc,_⟩:=PySem.W.any_some h1;exact⟨B,mg_of X G (adg q),⟨by rw[hc];rfl,h2,h3⟩,adg q,h4⟩
 ·cases e
end
end Dn
namespace Mn
open L2
section
variable{prog:Program}{w:World}{A:Around}{E:Value->Shared->Prop}{h:Heap}{g:Array GenState}{d:Drawn}{t:Nat}{os:OsState}
variable{nm q:Str}{C N:Addr}{bs bm bmB:List Value}{hdct:Bool}{sn:List Str}{sub:List Value}{ab:Bool}{col:Option Bool}{dd:Option Addr}{k0 k1 k2 k3 k5:Option Value}{B Bn newId nid initId inN:String}{bmN:List Value}
theorem adk(Fn:ExcBaseFacts Bn newId inN bmN)(hBn:bmB.contains (.type Bn)=true)(F:ExcBaseFacts B nid initId bmB)(T:OwnTail h bmB bm){mN:Str->Option Value}{rest:List Value}{fI:Addr}{oI:Obj}{Q:Fin->Shared->Prop}
  (hC:h.get? C=some (excClassObj nm q C N bs bm hdct sn sub ab col dd k0 k1 k2 k3 k5 newId)) (hn:h.Ns N mN) (hi:mN "__init__" = some (.ref fI)) (hfI:h.get? fI=some oI) (hfc:oI.cls=.type "function")
  (hq:∀h' e,Heap.MadeExcOf h h' e (.ref C) rest->wpAny (model prog w) A (call (.ref fI) (.ref e::rest)) (fun r s'=>r=.none/\Q (.done (.ret (.ref e))) s') E ⟨h',g,d,t,os⟩) (hrest:rest.length<=sizeLine:=by size_fits) :
  wpAny (model prog w) A (Builtin.«type.__call__» ⟨.ref C::rest,[]⟩) Q E ⟨h,g,d,t,os⟩:=by
 repeat (first | with_reducible refine wpAny_loadPart_at hC ?_ | with_reducible refine wpAny_madeBy_exc hC ?_ | wp_step)
 refine codeAny_call_builtin_code (Code.quiet_builtin _ Fn.quiet) (wpAny_check_new_subU Fn hBn T hC ?_);refine codeAny_exc_new_subU Fn hBn F T hC ?_ hrest;show wpAny _ _ _ _ _ _
 let o1:Obj:={ cls:=.type "tuple", data:=.seq rest.toArray }
 let o2:Obj:={ cls:=.ref C,data:=.fields #[.ref h.objs.size,.none,.none,.none,.bool false,.none] }
 have keep:∀b o,h.get? b=some o->((h.push o1).push o2).get? b=some o:=fun b o e=>Heap.get?_push_of_some _ (Heap.get?_push_of_some _ e)
 have hC1:=keep _ _ hC;have hf1:=keep _ _ hfI;have hn1:((h.push o1).push o2).Ns N mN:=let ⟨o,es,ep,e,r⟩:=hn;⟨o,es,ep,keep _ _ e,r⟩
 have hget:((h.push o1).push o2).get? (h.objs.size+1)=some o2:=by heap_get
 have hcC:(Value.ref C::bm).contains (.ref C)=true:=by simp
 have T1:=T.keeps (h':=(h.push o1).push o2) keep;unfold isInstance
 repeat (first | with_reducible refine wpAny_loadPart_at hget ?_ | (with_reducible refine wpAny_isSubtype_exc hC1 ?_;rw[hcC]) | wp_step)
 show wpAny _ _ (typeLookup (.ref C) _) _ _ _;refine wpAny_typeLookup_tail hC1 hn1 T1 F.mroIs F.init.lookup ?_;rw[hi];refine wpAny_holding (wpAny_bind ?_);unfold bindSpecial;refine wpAny_bind (wpAny_typeOf (T := "function") ⟨_,hf1,hfc⟩ ?_);rw[if_pos (by decide)]
 refine wpAny_pure (wpAny_bind (wpAny_mono (hq _ (h.objs.size+1) ⟨keep,Heap.get?_none_of_le (Nat.le_succ _),h.objs.size,hget,Heap.get?_none_of_le (Nat.le_refl _),?_⟩) (fun r s' hr =>?_) fun _ _ x=>x))
 ·exact Heap.get?_push_of_some _ (Heap.get?_push_at rfl rfl)
 ·obtain⟨rfl,hQ⟩:=hr;wp_walk;exact hQ
theorem akq(Fn:ExcBaseFacts Bn newId inN bmN)(hBn:bmB.contains (.type Bn)=true)(F:ExcBaseFacts B nid initId bmB)(T:OwnTail h bmB bm){mN:Str->Option Value}{rest:List Value}{fI:Addr}{oI:Obj}{Q:Value->Shared->Prop}
  (hC:h.get? C=some (excClassObj nm q C N bs bm hdct sn sub ab col dd k0 k1 k2 k3 k5 newId)) (hn:h.Ns N mN) (hi:mN "__init__" = some (.ref fI)) (hfI:h.get? fI=some oI) (hfc:oI.cls=.type "function")
  (hq:∀h' e,Heap.MadeExcOf h h' e (.ref C) rest->wpAny (model prog w) (A.under (.builtin "type.__call__" ⟨.ref C::rest,[]⟩)) (call (.ref fI) (.ref e::rest)) (fun r s'=>r=.none/\Q (.ref e) s') E ⟨h',g,d,t,os⟩) (hrest:rest.length<=sizeLine:=by size_fits) :
  wpAny (model prog w) A (call (.ref C) rest) Q E ⟨h,g,d,t,os⟩:=by
 have f1:=tc_lookup;have f2:=tc_bind (.ref C);have hT:(⟨h,g,d,t,os⟩:Shared).TypeIs (.ref C) "type" := ⟨_,hC,rfl⟩;refine wpAny_call (codeAny_of_tree ?_);show wpAny _ _ (callAny (.ref C) _) _ _ _
 repeat (any_goals (first | assumption | with_reducible refine wpAny_loadPart_at hC ?_ | wp_step))
 refine⟨rfl,?_⟩;exact codeAny_call_builtin_at (Code.quiet_builtin _ (by decide +kernel)) entry_typeCall (wpAny_check_type_call_sub hC (adk (hrest:=hrest) Fn hBn F T hC hn hi hfI hfc fun h' e hm=>hq h' e hm))
end
end Mn
namespace Dn
open L2 Mn
def refB:Value->Bool
 | .ref _=>true
 | _=>false
def aec(K:Fg9)(C:Addr):Bool:=(PySem.W.clsIn K C).any fun cd=>cd.mro.dropWhile refB==bmV
theorem aev(self:Value):∀{l:List Value},l.dropWhile refB=bmV->refuseLoop self "__setattr__" l=pure ()
 | .ref c::r,e=>by rw[refuseLoop_ref];exact aev self (by simpa[List.dropWhile,refB] using e)
 | [],e=>by cases e
 | .type n::r,e=>by
  have:(Value.type n::r)=bmV:=by simpa[List.dropWhile,refB] using e
  rw[this];exact PySem.F.store_ValueError.passes self
 | .none::r,e=>nomatch (show(Value.none::r:List Value)=bmV from e)
 | .ellipsis::r,e=>nomatch (show(Value.ellipsis::r:List Value)=bmV from e)
 | .notImplemented::r,e=>nomatch (show(Value.notImplemented::r:List Value)=bmV from e)
 | .bool b::r,e=>nomatch (show(Value.bool b::r:List Value)=bmV from e)
 | .int i t::r,e=>nomatch (show(Value.int i t::r:List Value)=bmV from e)
 | .float b t::r,e=>nomatch (show(Value.float b t::r:List Value)=bmV from e)
 | .str x t::r,e=>nomatch (show(Value.str x t::r:List Value)=bmV from e)
 | .bytes b t::r,e=>nomatch (show(Value.bytes b t::r:List Value)=bmV from e)
 | .builtin i::r,e=>nomatch (show(Value.builtin i::r:List Value)=bmV from e)
section
variable{prog:Program}{w:World}{A:Around}{E:Value->Shared->Prop}{s:Shared}{K:Fg9}{x C:Addr}{ox:Obj}{od:Option Obj}{name:Str}{v:Value}
theorem arp{tk:Tok}{R:Result->Shared->Prop}(X:K.In s.heap)(I:PySem.W.InstAt s.heap x ox C od)(hp:aec K C=true)(hob:PySem.W.mroIn K C (.type "object")=some true)(ht:PySem.W.takerIn K C name=some none)
  (h:∀b,wpAny (model prog w) A.in1 (Builtin.ObjectAttr.storeInOwnDict (.ref x) (.ref C) (.str name tk) name v b)
   (fun fin s'=>match fin with | .done f=>R (.ok f) s' | .again c'=>c'.quiet=true/\codeAny (model prog w) A c' R s') (fun e s'=>R (.error e) s') s) :
  codeAny (model prog w) A (.call (.builtin "object.__setattr__") ⟨[.ref x,.str name tk,v],[]⟩) R s:=by
 have SF:=PySem.F.store_object;obtain⟨cd,hc,ho⟩:=PySem.W.any_some hp;have ho:=beq_iff_eq.mp ho;have sub:PySem.W.Looks (model prog w) s.heap (isInstance (.ref x) (.type "object")) true:=I.type.andThen (PySem.W.looks_mroIn X hob);refine codeAny_call_builtin SF.slot.plain SF.entry (@PySem.W.check_slot (model prog w) _ _ s "object.__setattr__" "object" "__setattr__" (.ref x) [.str name tk,v] [] _ SF.kind SF.split sub (SF.args (.ref x) (.str name tk) v) ?_);obtain⟨attr,ha,hr⟩:=Option.bind_eq_some_iff.mp ht;have hm:PySem.W.Looks (model prog w) s.heap (mroOf (.ref C)) cd.mro:=(PySem.W.looks_clsIn X hc).andThen .now;have L3:PySem.W.Looks (model prog w) s.heap (Builtin.ObjectAttr.storeTaker? attr) none:=by
  cases attr with
  | none=>exact .now
  | some a =>
   obtain⟨b,hb,hz⟩:=Option.map_eq_some_iff.mp hr;refine(PySem.W.looks_takesIn X hb).andThen ?_;cases b with
   | true=>cases hz
   | false=>exact .now
 rw[PySem.W.osa_eq,refuse_eq];refine wpAny_bind (wpAny_bind (I.type.here (wpAny_bind (hm.here ?_))));rw[aev _ ho];refine wpAny_pure (wpAny_bind (I.type.here (wpAny_bind ((PySem.W.looks_findIn X ha).here (wpAny_bind (L3.here ?_))))));exact h _
theorem ah3{vs:Array Value}{Q:Unit->Shared->Prop}(X:K.In s.heap)(I:PySem.W.InstAt s.heap x ox C none)(hx:s.heap.get? x=some ox)(hc:ox.cls=.ref C)(hdn:ox.dict=none)(hdt:ox.data=.fields vs)
  (hs:findIn K (.ref C) "__setattr__" = some (some (.builtin "object.__setattr__"))) (hp:aec K C=true) (hob:PySem.W.mroIn K C (.type "object")=some true) (ht:PySem.W.takerIn K C name=some none) (hh:PySem.W.hasDictIn K C=true)
  (h:∀h' tk',h'.get? x=some { ox with dict:=some s.heap.objs.size }->h'.Ns1 s.heap.objs.size (fun y=>if y=name then some v else none)->(∀b o,b≠x->s.heap.get? b=some o->h'.get? b=some o)->Q () { s with heap:=h',toks:=tk' }) :
  wpAny (model prog w) A (setAttr (.ref x) name v) Q E s:=by
 obtain⟨oc,odict,odata,osl⟩:=ox;simp only at hc hdn hdt;subst hc hdn hdt;refine PySem.W.set_plain X I hs (arp (s:={ s with toks:=s.toks+1 }) X I hp hob ht fun b =>?_)
 obtain⟨cd,hcd,hd'⟩:=PySem.W.any_some hh;have hxs:x≠s.heap.objs.size:=Nat.ne_of_lt (Heap.lt_size hx);refine wpAny_bind (wpAny_pure (wpAny_bind (wpAny_bind (wpAny_loadPart hx (wpAny_bind (PySem.W.Looks.here (s:={ s with toks:=s.toks+1 }) (PySem.W.looks_clsIn X hcd) ?_))))))
 rw[hd']
 let o0:Obj:={ cls:=.type "dict", data:=.dict #[] }
 have hx1:(s.heap.push o0).get? x=some ⟨.ref C,none,.fields vs,osl⟩:=Heap.get?_push_of_some _ hx;have hgd:((s.heap.push o0).update x fun o=>{ cls:=o.cls,dict:=some s.heap.objs.size,data:=o.data,slots:=o.slots }).get? s.heap.objs.size=some o0:=(Heap.get?_update_ne _ _ _ _ hxs.symm).trans (Heap.get?_push_at rfl rfl)
 have hnd:((s.heap.push o0).update x fun o=>{ cls:=o.cls,dict:=some s.heap.objs.size,data:=o.data,slots:=o.slots }).Ns s.heap.objs.size (fun _=>none):=⟨_,#[],_,hgd,rfl,fun e he=>absurd he (by simp),fun _=>rfl⟩
 refine wpAny_bind (wpAny_alloc' (wpAny_bind (wpAny_update' hx1 (wpAny_pure ?_))));show wpAny _ _ (Builtin.ObjectAttr.storeInDict s.heap.objs.size (.str name _) name v) _ _ _;unfold Builtin.ObjectAttr.storeInDict Builtin.ObjectAttr.newKeyGuard;refine wpAny_bind (wpAny_pure (wpAny_bind (wpAny_nsSet1 (Heap.Ns1.of_empty hnd) fun h' hn' hs' =>?_)))
 obtain⟨oD,esD,epD,hoD,hdD,hcD⟩:=hn'.count (Within.cons name v Within.nil);refine wpAny_bind (wpAny_lookBehind hoD (by rw[hdD];exact pastItsLine_dict (Nat.le_trans hcD (by rw[List.length_cons,List.length_nil,sizeLine_eq];omega))) (wpAny_pure ?_))
 refine h h' _ ((hs'.2 x hxs).trans (Heap.get?_update_self _ hx1 rfl)) hn' fun b o hb e=>(hs'.2 b (Nat.ne_of_lt (Heap.lt_size e))).trans ((Heap.get?_update_ne _ _ _ _ hb).trans (Heap.get?_push_of_some _ e))
end
def exV(a C:Addr)(dx:Option Addr)(vs:Array Value):Heap->Prop:=fun h=>∃oe,h.get? a=some oe/\oe.cls=.ref C/\oe.dict=dx/\oe.data=.fields vs
section
variable{vs:Array Value}{X:Cx}{zv:List (Addr×Obj)}{σ:L2.St}{H:Hp}{s:Shared}{A:Around}{E:Value->Shared->Prop}{a C:Addr}{f:Str}
theorem ala{y:V}{u:Value}{Q:Unit->Shared->Prop}(I:Inv X zv σ H s)(e:H a=some (.ext (exV a C none vs)))(k:ExcK X.K C)(hs:findIn X.K (.ref C) "__setattr__" = some (some (.builtin "object.__setattr__")))(hp:aec X.K C=true)(ht:PySem.W.takerIn X.K C f=some none)(ry:RelV y u)
  (h:∀d s',H d=none->Inv X zv σ (upd (upd H a (.ext (exV a C (some d) vs))) d (.xd [(f,y)])) s'->Q () s'):wpAny (model X.prog X.w) A (setAttr (.ref a) f u) Q E s:=by
 obtain⟨⟨oe,he,hc,hdn,hdt⟩,_,_⟩:=I.hok _ _ e;refine ah3 I.kIn ⟨he,hc,by unfold PySem.W.notCls;rw[hdt],by rw[hdn];trivial⟩ he hc hdn hdt hs hp k.ob ht k.hd fun h' tk' e1 e2 e3 =>?_
 have hd:H s.heap.objs.size=none:=I.hok.fresh (Nat.le_refl _);have hda:s.heap.objs.size≠a:=Nat.ne_of_gt (Heap.lt_size he);have I2:=I.write (x:=a) (e:=a) (o:=.ext (exV a C (some s.heap.objs.size) vs)) (t':=tk') (h':=h') (by rw[e];trivial) (.inl rfl) (fun b u hb q=>e3 b u hb q) ⟨_,e1⟩ ⟨⟨_,e1,hc,rfl,hdt⟩,⟨_,e1⟩,fun h1 h2 p q=>by obtain⟨oe,z1,z2⟩:=p;exact⟨oe,q _ z1,z2⟩⟩
 have fp:FpX X zv (upd H a (.ext (exV a C (some s.heap.objs.size) vs))) s.heap.objs.size:=Inv.fpX I (Heap.get?_none_of_le (Nat.le_refl _)) (by rw[bu hda];exact hd)
 refine h s.heap.objs.size _ hd (Inv.track I2 fp ⟨_,e2,fun g =>?_⟩)
 by_cases q:g=f
 ·subst q;have e1:[(g,y)].lookup g=some y:=by simp[List.lookup]
  rw[e1];show RelO (some y) (if g=g then some u else none)
  rw[if_pos rfl];exact ry
 ·have:(g==f)=false:=beq_eq_false_iff_ne.mpr q;simp[List.lookup,this,q,RelO]
structure FldK (K:Fg9) (C:Addr) (f:Str):Prop where
 k:ExcK K C
 sa:findIn K (.ref C) "__setattr__" = some (some (.builtin "object.__setattr__"))
 ov:aec K C=true
 tk:PySem.W.takerIn K C f=some none
def atv(C:Addr)(vs:Array Value)(ta tv:TE)(f:Str):TS:=fun D σ H=>tv σ H fun y H1=>ta σ H1 fun x H2=>∃a,x=.ref a/\H2 a=some (.ext (exV a C none vs))/\∀d,H2 d=none->D.nx σ (upd (upd H2 a (.ext (exV a C (some d) vs))) d (.xd [(f,y)]))
theorem aq4{o value:Expr}{ta tv:TE}{pos pos':Pos}(k:FldK X.K C f)(ha:PE X o ta)(hv:PE X value tv)(hs:swapsWith value (some (.Attribute o f pos')) pos.line X.env=pure false):PS X (.Assign [.Attribute o f pos'] value pos) (atv C vs ta tv f):=by
 intro zv s σ H D I h;refine plainObj_wpAny_Assign_Attribute (thn (hv zv s σ H _ I h) fun u s1 ⟨y,H1,I1,ry,q⟩=>thn (ha zv s1 σ H1 _ I1 q) fun ov s2 ⟨x,H2,I2,rx,a,ex,ea,q2⟩ =>?_) hs
 subst ex;obtain rfl:ov=Value.ref a:=rx;exact ala I2 ea k.k k.sa k.ov k.tk ry fun d s3 hd I3=>⟨σ,_,I3,q2 d hd⟩
def spI(C:Addr)(vs:Array Value)(f:Str):Sp:=fun us H Q _=>∃a i,us=[.ref a,.int i]/\H a=some (.ext (exV a C none vs))/\∀d,H d=none->Q .non (upd (upd H a (.ext (exV a C (some d) vs))) d (.xd [(f,.int i)]))
theorem asq{K:Fg9}{P:Program}{w:World}{mg:Str->Option Value}{base:Heap}{x qual:Str}{st:Stmt}{fa:Addr}{fd:FuncData}{k:Nat}{p1 p2 p3 p4:Pos}(F:Fun K x qual st fa fd)(S:FnScope ["self", f] ["self", f] (ak st))(hf:FldK K C f)
  (hb:du st=[.Assign [.Attribute (.Name "self" p1) f p2] (.Name f p3) p4]) (h1:(f==("__debug__" : Str))=false) (h2:(f==("__classdict__" : Str))=false)
  (hs:∀env,swapsWith (.Name f p3) (some (.Attribute (.Name "self" p1) f p2)) p4.line env=pure false) (hv1:Vis (ak st) "self") (hv2:Vis (ak st) f) :
  FnOk P w K mg base CX0 (k+1) fa fd ["self", f] (spI C vs f):=by
 refine F.ok S (fun us H Q E h =>?_) fun cdv A outer s H us Q E hr h=>⟨atv C vs (tVar 0) (tVar 1) f,?_,?_⟩
 ·obtain⟨a,i,rfl,_⟩:=h;rfl
 ·rw[hb];exact alg (aq4 hf (pv 0 rfl hv1) (pv 1 rfl hv2 h1 h2) (hs _))
 ·obtain⟨a,i,rfl,e,q⟩:=h;exact⟨_,rfl,_,rfl,a,rfl,e,fun d hd=>q d hd⟩
end
end Dn
namespace Mn
open L2
section
variable{M:Model}{A:Around}{E:Value->Shared->Prop}{env:Env}
variable{nm q:Str}{C N:Addr}{bs bm:List Value}{hdct:Bool}{sn:List Str}{sub:List Value}{ab:Bool}{col:Option Bool}{dd:Option Addr}{k0 k1 k2 k3 k5:Option Value}{newId:String}
theorem aew{s:Shared}{x:Sem Value}{Q:Flow->Shared->Prop}(hbase:bm.contains (.type "BaseException")=true)(hh:A.handled=none)
  (h:wpAny M A x (fun v s₁=>∃e oe vs,v=.ref e/\s₁.heap.get? C=some (excClassObj nm q C N bs bm hdct sn sub ab col dd k0 k1 k2 k3 k5 newId)/\s₁.heap.get? e=some oe/\oe.cls=.ref C/\oe.data=.fields vs/\vs[1]? = some .none/\E (.ref e) s₁) E s) :
  wpAny M A (raiseStmt env (some x) none) Q E s:=by
 have hcB:(Value.ref C::bm).contains (.type "BaseException")=true:=by rw[List.contains_cons,hbase,Bool.or_true]
 unfold raiseStmt;refine wpAny_bind (wpAny_mono h (fun v s₁ h₁ =>?_) fun _ _ x=>x)
 obtain⟨e,⟨oc,od,odt,osl⟩,vs,rfl,hC,he,hc,hd,h1,hE⟩:=h₁;simp only at hc hd;subst hc hd;obtain⟨hp,g,d,tk,os⟩:=s₁
 repeat (first | with_reducible refine wpAny_loadPart_at he ?_ | with_reducible refine wpAny_loadPart_at hC ?_ | (with_reducible refine wpAny_isSubtype_exc hC ?_;rw[hcB]) | wp_step)
 rw[h1];exact wpAny_pure (wpAny_pure (wpAny_raiseNew_none hh hE))
end
section
variable{prog:Program}{w:World}{A:Around}{E:Value->Shared->Prop}{s:Shared}{env:Env}
variable{nm q:Str}{C N:Addr}{bs bm bmB:List Value}{hdct:Bool}{sn:List Str}{sub:List Value}{ab:Bool}{col:Option Bool}{dd:Option Addr}{k0 k1 k2 k3 k5:Option Value}{B Bn newId nid initId inN:String}{bmN:List Value}
theorem ah8(Fn:ExcBaseFacts Bn newId inN bmN)(hBn:bmB.contains (.type Bn)=true)(F:ExcBaseFacts B nid initId bmB){x:Str}{np cpos pos:Pos}{args:List Expr}{Q:Flow->Shared->Prop}{fI:Addr}
  (hbase:bm.contains (.type "BaseException")=true) (hh:A.handled=none) (hplain:(backTo cpos (starEach args env)).any (·.1)=false)
  (h:wpAny (model prog w) A (eval (.Name x np) env) (fun f s₁=>f=.ref C/\wpAny (model prog w) A (evalArgs (.ref C) true (backTo cpos (starEach args env)) [])
   (fun a s₂=>a.kw=[]/\a.pos.length<=sizeLine/\s₂.heap.get? C=some (excClassObj nm q C N bs bm hdct sn sub ab col dd k0 k1 k2 k3 k5 newId)/\(∃mN,s₂.heap.Ns N mN/\mN "__init__" = some (.ref fI))/\OwnTail s₂.heap bmB bm/\(∃oI,s₂.heap.get? fI=some oI/\oI.cls=.type "function") /\
    ∀h' e,Heap.MadeExcOf s₂.heap h' e (.ref C) a.pos->wpAny (model prog w) (A.under (.builtin "type.__call__" ⟨.ref C::a.pos,[]⟩)) (call (.ref fI) (.ref e::a.pos))
     (fun r s'=>r=.none/\s'.heap.get? C=some (excClassObj nm q C N bs bm hdct sn sub ab col dd k0 k1 k2 k3 k5 newId)/\∃oe vs,s'.heap.get? e=some oe/\oe.cls=.ref C/\oe.data=.fields vs/\vs[1]? = some .none/\E (.ref e) s') E { s₂ with heap:=h' }) E s₁) E s) :
  wpAny (model prog w) A (exec (.Raise (some (.Call (.Name x np) args [] cpos)) none pos) env) Q E s:=by
 rw[arm_exec_Raise]
 first
  | refine wpAny_bind (wpAny_standAt (aew (C:=C) (nm:=nm) (q:=q) (N:=N) (bs:=bs) (bm:=bm) (hdct:=hdct) (sn:=sn) (sub:=sub) (ab:=ab) (col:=col) (dd:=dd) (k0:=k0) (k1:=k1) (k2:=k2) (k3:=k3) (k5:=k5) (newId:=newId) hbase hh (wpAny_bind (wpAny_mono (wpAny_Call_ofName (wpAny_mono h (fun f s₁ h₁ =>?_) fun _ _ x=>x)) (fun v s₃ h₃=>wpAny_bind (wpAny_standAt (wpAny_pure h₃))) fun _ _ x=>x))))
  | (simp only[evalOpt,Option.map];refine wpAny_bind (wpAny_standAt (aew (C:=C) (nm:=nm) (q:=q) (N:=N) (bs:=bs) (bm:=bm) (hdct:=hdct) (sn:=sn) (sub:=sub) (ab:=ab) (col:=col) (dd:=dd) (k0:=k0) (k1:=k1) (k2:=k2) (k3:=k3) (k5:=k5) (newId:=newId) hbase hh (wpAny_bind (wpAny_mono (wpAny_Call_ofName (wpAny_mono h (fun f s₁ h₁ =>?_) fun _ _ x=>x)) (fun v s₃ h₃=>wpAny_bind (wpAny_standAt (wpAny_pure h₃))) fun _ _ x=>x)))))
 obtain⟨rfl,h₁⟩:=h₁;unfold callWith;refine wpAny_bind (wpAny_holding (wpAny_mono h₁ (fun a s₂ h₂=>wpAny_bind (wpAny_standAt ?_)) fun _ _ x=>x))
 obtain⟨apos,akw⟩:=a;obtain⟨hkw,hlen,hC,⟨mN,hn,hi⟩,T,⟨oI,hfI,hfc⟩,h₂⟩:=h₂;obtain rfl:akw=[]:=hkw;obtain⟨hp,g,d,tk,os⟩:=s₂;simp only[hplain];refine wpAny_bind (wpAny_keeperOf_exc hC ?_);refine wpAny_bind (akq (hrest:=hlen) Fn hBn F T hC hn hi hfI hfc fun h' e hm=>wpAny_mono (h₂ h' e hm) (fun r s' ⟨hr,hC',oe,vs,he,hc,hd,h1,hE⟩=>⟨hr,wpAny_bind (wpAny_holding (wpAny_point (wpAny_pure ?_)))⟩) fun _ _ z=>z)
 exact⟨e,oe,vs,rfl,hC',he,hc,hd,h1,hE⟩
end
end Mn
namespace Dn
open L2 Mn
theorem ada{H:Hp}{a b:Addr}{o:HO}(h:upd H a o b=none):H b=none:=by
 by_cases z:b=a
 ·rw[z,dg] at h;cases h
 ·rw[bu z] at h;exact h
theorem abn{H:Hp}{a b:Addr}{φ:Heap->Prop}{u:HO}(h:upd H a (.ext φ) b=some u)(hu:∀ψ,u≠.ext ψ):H b=some u:=by
 by_cases z:b=a
 ·rw[z,dg] at h;cases h;exact absurd rfl (hu φ)
 ·rw[bu z] at h;exact h
theorem Inv.untrack{X:Cx}{zv:List (Addr×Obj)}{σ:L2.St}{H:Hp}{s:Shared}{a:Addr}{φ:Heap->Prop}(I:L2.Inv X zv σ (upd H a (.ext φ)) s)(hn:H a=none):L2.Inv X zv σ H s :=
 ⟨I.ok,I.os,I.bare,⟨I.base.keep,I.base.slot,fun b o e n hx=>ada (I.base.free b o e n hx),I.base.there,fun b xs q=>abn (I.base.tups b xs q) (fun _ z=>by cases z),fun b ob u q=>abn (I.base.frzs b ob u q) (fun _ z=>by cases z),fun b ps q=>let ⟨more,h⟩:=I.base.tbls b ps q;⟨more,abn h (fun _ z=>by cases z)⟩⟩,
  I.loc,I.cell,ada I.free,fun x c e=>ada (I.freeC x c e),fun p hp=>let ⟨h1,h2,h3⟩:=I.pin p hp;⟨h1,ada h2,h3⟩,fun b u e=>by
   have hb:b≠a:=fun z=>by rw[z,hn] at e;cases e
   exact(I.hok b u (by rw[bu hb];exact e)).stay (fun c v _ q=>q) (fun c q=>abn q (fun _ z=>by cases z)) fun c xs q=>abn q (fun _ z=>by cases z),I.len⟩
def ahe(K:Fg9)(C fI:Addr):Bool:=match K.lookup C with
 | some ⟨.type "type", _,.cls cd,sl⟩=>(match cd.mro,sl.toList with
  | .ref C'::bm,[_,_,_,_,some (.builtin n),_]=>C'==C&&n == "ValueError.__new__" && !cd.hasDel&&PySem.W.tailIn K bmV bm&&PySem.W.nsOkIn K cd.ns&&nsIn K cd.ns "__init__" == some (some (.ref fI))&&PySem.W.typeIn K (.ref fI)==some (.type "function")
  | _,_=>false)
 | _=>false
theorem arx{K:Fg9}{h:Heap}{N:Addr}{mg:Str->Option Value}{n:Str}{v:Value}(X:K.In h)(G:h.Ns N mg)(e:nsIn K N n=some (some v)):mg n=some v:=by
 obtain⟨o,es,ep,ho,hd,_,hf⟩:=G;unfold nsIn at e;split at e
 ·rename_i c d es' n' sl q;have:=X _ _ q;rw[ho] at this;cases this;cases hd;split at e
  ·rename_i en he;cases e;rw[<-hf];unfold nsFind findBy;rw[<-Array.find?_toList,he];rfl
  ·split at e <;> cases e
 ·cases e
theorem ao3{K:Fg9}{C fI:Addr}(q:ahe K C fI=true) :
  ∃bm N nm qn bs hdct sn sub ab col dd k0 k1 k2 k3 k5,∀h:Heap,K.In h->h.get? C=some (excClassObj nm qn C N bs bm hdct sn sub ab col dd k0 k1 k2 k3 k5 "ValueError.__new__")/\(∃mN,h.Ns N mN/\mN "__init__" = some (.ref fI))/\OwnTail h bmV bm/\∃oI,h.get? fI=some oI/\oI.cls=.type "function" := by
 unfold ahe at q;split at q
 ·rename_i dd cd sl ho;split at q
  ·rename_i C' bm k0 k1 k2 k3 n k5 hm hs;simp only[Bool.and_eq_true,beq_iff_eq,Bool.not_eq_true'] at q;obtain⟨⟨⟨⟨⟨⟨e1,e2⟩,e3⟩,e4⟩,e5⟩,e6⟩,e7⟩:=q;subst e1 e2;obtain⟨nm,bs,mro,ns,qn,hd,sn,sub,ab,col,del⟩:=cd;have hm:mro=_:=hm;have e3:del=false:=e3;subst hm e3;have z:sl = #[k0,k1,k2,k3,some (.builtin "ValueError.__new__"),k5]:=Array.toList_inj.mp hs;subst z;refine⟨bm,ns,nm,qn,bs,hd,sn,sub,ab,col,dd,k0,k1,k2,k3,k5,fun h X=>⟨X _ _ ho,⟨h.nsMap ns,.of_isNs (PySem.W.isNs_of_in X e5),?_⟩,PySem.W.tail_of_in X e4,?_⟩⟩
   ·exact arx X (.of_isNs (PySem.W.isNs_of_in X e5)) e6
   ·obtain⟨o,ho2,hc2⟩:=Option.map_eq_some_iff.mp e7;exact⟨o,X _ _ ho2,hc2⟩
  ·cases q
 ·cases q
def aai(c f:Str)(m:M D):Sd:=dM m fun d ρ=>match d with
 | .int i=>some (.exc ⟨c,[(f,i)]⟩,ρ)
 | _=>none
section
variable{K:Fg9}{X:Cx}{c f:Str}{C fI:Addr}{fd:FuncData}{kk:Nat}{e1:Expr}{m:M D}{np cpos pos:Pos}
theorem aky(hcalm:X.calm=true)(hg:Gl X c)(hm:X.mg c=some (.ref C))(k:ClsOk X.K c C)(qq:ahe X.K C fI=true)(Fi:∀vs,FnOk X.prog X.w X.K X.mg X.base CX0 kk fI fd ["self", f] (spI C vs f))(hb:∀s us,us.length=2->BindsTo s fd ⟨us,[]⟩ ((["self", f]:List Str).zip us))
  (hr:Room (kk+1) X.A) (h:EV K X e1 m) (hn:NoX m) (hs:starEach [e1] X.env=(false,eval e1 X.env)::starEach [] X.env:=by rfl) (hd:(c==("__debug__" : Str))=false:=by decide) :
  XS K X (.Raise (some (.Call (.Name c np) [e1] [] cpos)) none pos) (aai c f m):=⟨fun hk hnx zv s σ H tg F ρ x ρ' I G em=>by
 have em:=lg.mp em;unfold aai dM at em;split at em
 ·rename_i d ρ1 em1;dsimp only at em;split at em
  ·rename_i i;cases em;have h:=h hk;subst hk;obtain⟨bm,N,nm,qn,bs,hdct,sn,sub,ab,col,dd,k0,k1,k2,k3,k5,hobj⟩:=ao3 qq;have T0:=(hobj _ I.kIn).2.2.1;refine ah8 (C:=C) (nm:=nm) (q:=qn) (N:=N) (bs:=bs) (bm:=bm) (hdct:=hdct) (sn:=sn) (sub:=sub) (ab:=ab) (col:=col) (dd:=dd) (k0:=k0) (k1:=k1) (k2:=k2) (k3:=k3) (k5:=k5) (fI:=fI)
    PySem.F.excBase_ValueError (by decide +kernel) PySem.F.excBase_ValueError (T0.hasType PySem.F.excBase_ValueError.hasBase) (I.ok.hd hcalm) (by rw[hs];rfl) ?_
   refine aaf I hg hm ⟨rfl,?_⟩ hd;have pa:=jy h abu hs cpos zv s σ H (fun vs H1=>∃F1,vs=[.int i]/\Good X.K tg F1 H1 ρ' σ/\Ext (Own ρ σ) (Own ρ' σ) F H F1 H1) I ⟨tg,F,ρ,.int i,ρ',G,em1,fun v H' F' G' x' r=>by
    cases r;exact⟨F',rfl,G',x'⟩⟩
   rw[hs] at pa ⊢
   refine Calls.evalArgs_plain (wpAny_mono pa (fun us s2 ⟨vs,H2,I2,r2,F2,ev,G2,x2⟩ =>?_) fun e s1 q=>by rw[hnx] at q;exact q.elim)
   subst ev;have hlen:us.length=1:=r2.length.symm;obtain⟨o1,o2,o3,o4⟩:=hobj _ I2.kIn;refine⟨rfl,by rw[sizeLine_eq];show us.length<=_;omega,o1,o2,o3,o4,fun h' e hme =>?_⟩
   obtain⟨t,he,_,_⟩:=hme.there;have hnH:H2 e=none:=by
    cases z:H2 e with
    | none=>rfl
    | some o =>
     obtain⟨ob,h1⟩:=agw (I2.hok e o z);have h2:s2.heap.get? e=none:=hme.new;rw[h2] at h1;cases h1
   have J:L2.Inv X zv σ H2 { s2 with heap:=h' }:=I2.kept (t':=s2.toks) hme.keeps
   have J1:L2.Inv X zv σ (upd H2 e (.ext (exV e C none #[.ref t,.none,.none,.none,.bool false,.none]))) { s2 with heap:=h' } :=
    Inv.track J (Inv.fpX I2 hme.new hnH) ⟨⟨_,he,rfl,rfl,rfl⟩,⟨_,he⟩,fun h1 h2 p q=>by obtain⟨oe,z1,z2⟩:=p;exact⟨oe,q _ z1,z2⟩⟩
   refine wpAny_call (codeAny_mono ((Fi #[.ref t,.none,.none,.none,.bool false,.none]).run (X.A.under (.builtin "type.__call__" ⟨.ref C::us,[]⟩)) X.stack _ _ ⟨.ref e::us,[]⟩ (.ref e::us) [.ref e,.int i]
    (fun v H3=>v=.non/\∃d,upd H2 e (.ext (exV e C none #[.ref t,.none,.none,.none,.bool false,.none])) d=none/\H3=upd (upd (upd H2 e (.ext (exV e C none #[.ref t,.none,.none,.none,.bool false,.none]))) e (.ext (exV e C (some d) #[.ref t,.none,.none,.none,.bool false,.none]))) d (.xd [(f,.int i)]))
    (fun _ _ _=>False) (hr.make C us []) (J1.env0.make C us []) (hb _ _ (by rw[List.length_cons,hlen])) (.cons rfl r2) ⟨e,i,rfl,dg,fun d hd=>⟨rfl,d,hd,rfl⟩⟩) fun r s' z =>?_)
   cases r with
   | error er=>exact z.elim
   | ok fl =>
    cases fl with
    | ret u =>
    obtain⟨v,H3,J3,rv,rfl,d,hd,rfl⟩:=Inv.after J1 z;have hde:d≠e:=fun q=>by rw[q,dg] at hd;cases hd
    have hd2:H2 d=none:=by rw[bu hde] at hd;exact hd
    have eq:upd (upd (upd H2 e (.ext (exV e C none #[.ref t,.none,.none,.none,.bool false,.none]))) e (.ext (exV e C (some d) #[.ref t,.none,.none,.none,.bool false,.none]))) d (.xd [(f,.int i)])=upd (upd H2 d (.xd [(f,.int i)])) e (.ext (exV e C (some d) #[.ref t,.none,.none,.none,.bool false,.none])):=by
     rw[aqk]
     funext b
     unfold upd
     by_cases q1:b=d
     ·rw[if_pos q1,if_neg (fun q=>hde (q1.symm.trans q)),if_pos q1]
     ·rw[if_neg q1,if_neg q1]
    rw[eq] at J3;obtain⟨⟨oe,he2,hc2,hdx2,hdt2⟩,_⟩:=J3.hok e _ dg;have hne:upd H2 d (.xd [(f,.int i)]) e=none:=by rw[bu (Ne.symm hde)];exact hnH
    have J4:=Inv.untrack J3 hne;have rv:u=Value.none:=rv;refine⟨rv,(hobj _ J4.kIn).1,oe,_,he2,hc2,hdt2,rfl,σ,upd H2 d (.xd [(f,.int i)]),upd F2 d (.xd [(f,.int i)]),J4,G2.new hd2 _,x2.trans (G2.newX hd2 _),e,C,some d,[e],rfl,k,.inr ⟨d,rfl,dg⟩,⟨oe,_,he2,hc2,hdx2,hdt2,by simp,.inl ⟨rfl,rfl⟩⟩,fun b hb =>?_⟩
    obtain rfl:=List.mem_singleton.mp hb;exact Inv.fpX I2 hme.new hne
    | _=>exact z.elim
  ·cases em
 ·rename_i y ρ1 em1;exact absurd em1 (hn _ _ _)
 ·cases em⟩
end
theorem ad2(f:Str):∀fs:List (Str×Int),(fs.map fun p=>(p.1,V.int p.2)).lookup f=(fs.lookup f).map V.int
 | []=>rfl
 | (g,i)::r=>by
  rw[List.map_cons,List.lookup_cons,List.lookup_cons];cases f==g
  ·exact ad2 f r
  ·rfl
def mFld(cs:List Str)(f:Str)(m:M D):M D:=m.bind fun d=>match d with
 | .exn c fs=>if cs.contains c=true then lift ((fs.lookup f).map D.int) else lift none
 | _=>lift none
@[simp] theorem aya(cs:List Str)(f:Str)(m:M D)(ρ:Ro):mFld cs f m ρ=(m.bind fun d=>match d with
 | .exn c fs=>if cs.contains c=true then lift ((fs.lookup f).map D.int) else lift none
 | _=>lift none) ρ:=rfl
theorem ap6{K:Fg9}{X:Cx}{e:Expr}{m:M D}{cs:List Str}{f:Str}{pos:Pos}(hF:∀c C,cs.contains c=true->nsIn K mainGlobals c=some (some (.ref C))->findIn K (.ref C) f=some none)(h:EV K X e m)(hb:attributeBase e f X.env (eval e X.env)=eval e X.env:=by rfl) :
  EV K X (.Attribute e f pos) (mFld cs f m):=EV.mk fun hk=>by
 intro zv s σ H Q I ⟨tg,F,ρ,d,ρ',G,em,q⟩;obtain⟨d1,ρ1,e1,em⟩:=bf em;refine ane hb (thn (h hk zv s σ H (fun x H1=>∃F1,Good K tg F1 H1 ρ1 σ/\Ext (Own ρ σ) (Own ρ1 σ) F H F1 H1/\Is K F1 d1 x) I ⟨tg,F,ρ,d1,ρ1,G,e1,fun v H' F' G' x' r=>⟨F',G',x',r⟩⟩) fun u s1 ⟨x,H1,I1,rx,F1,G1,x1,i1⟩ =>?_)
 subst hk;cases i1 with
 | @exn a C c dx fs ea hc hk hf =>
  dsimp only at em;split at em
  ·rename_i hcs;obtain⟨e2,rfl⟩:=fu em;obtain⟨i,hi,rfl⟩:=Option.map_eq_some_iff.mp e2;rcases hf with⟨_,rfl⟩ | ⟨d,rfl,hFd⟩
   ·cases hi
   ·obtain rfl:u=Value.ref a:=rx;obtain⟨⟨oe,vs,he,hcl,hdx,hdt⟩,_⟩:=I1.hok a _ (G1.sub _ _ ea);obtain⟨mA,hns,hrel⟩:=I1.hok d _ (G1.sub _ _ hFd);obtain⟨od,ho,hl⟩:=ag0 hns;have J:PySem.W.InstAt s1.heap a oe C (some od):=⟨he,hcl,by unfold PySem.W.notCls;rw[hdt],by rw[hdx];exact ho⟩
    have hr:=hrel f;rw[ad2,hi] at hr;cases hm:mA f with
    | none=>rw[hm] at hr;exact hr.elim
    | some v =>
     rw[hm] at hr;obtain⟨t,rfl⟩:∃t,v=.int i t:=hr
     have hfo:=PySem.W.findObj_own (od:=od) hk.hd (hF c C hcs hc) rfl (by rw[hl,hm])
     unfold getAttr;refine wpAny_bind (wpAny_mkText (ajl (s:={ s1 with toks:=s1.toks+1 }) I1.kIn J hk (exc_value (s:={ s1 with toks:=s1.toks+1 }) I1.kIn J hfo ?_)))
     exact wpAny_pure ⟨.int i,H1,I1.kept (t':=s1.toks+1) (fun _ _ z=>z),⟨t,rfl⟩,q _ H1 F1 G1 x1 (.int i)⟩
  ·cases em
 | _=>cases em
def as5(s:Stmt):Stmt:=match s with
 | .ClassDef _ _ _ b _ _ _ _ _ _ _=>b.getD 0 s
 | _=>s
section
variable{K:Fg9}{X:Cx}{c f:Str}{st st':Stmt}{e1:Expr}{m:M D}{np cpos pos p1 p2 p3 p4:Pos}
theorem abo:SV K X st (aai c f m):=SV.mk fun _=>PS.imp ai1 fun E σ H z9=>by
 obtain⟨tg,F,ρ,fl,ρ',G,em,q⟩:=z9;unfold aai dM at em;split at em
 ·dsimp only at em;split at em
  ·cases em;exact(show False from q).elim
  ·cases em
 ·cases em;exact(show False from q).elim
 ·cases em
structure IniT (K:Fg9) (mg:Str->Option Value) (c f q:Str) (st:Stmt):Prop where
 ex:∃C fI fd,mg c=some (.ref C)/\ClsOk K c C/\ahe K C fI=true/\FldK K C f/\Fun K "__init__" q st fI fd
theorem akx{q:Str}(hk:X.K=K)(hcalm:X.calm=true)(hg:Gl X c)(h:IniT K X.mg c f q st)(S:FnScope ["self", f] ["self", f] (ak st))(hb:du st=[.Assign [.Attribute (.Name "self" p1) f p2] (.Name f p3) p4])(h1:(f==("__debug__" : Str))=false)(h2:(f==("__classdict__" : Str))=false)
  (hs:∀env,swapsWith (.Name f p3) (some (.Attribute (.Name "self" p1) f p2)) p4.line env=pure false) (hv1:Vis (ak st) "self") (hv2:Vis (ak st) f)
  (hbd:∀fI fd,Fun K "__init__" q st fI fd->∀s us,us.length=2->BindsTo s fd ⟨us,[]⟩ ((["self", f]:List Str).zip us))
  (hr:Room 2 X.A) (he:EV K X e1 m) (hn:NoX m) (hst:starEach [e1] X.env=(false,eval e1 X.env)::starEach [] X.env:=by rfl) (hd:(c==("__debug__" : Str))=false:=by decide) :
  XS K X (.Raise (some (.Call (.Name c np) [e1] [] cpos)) none pos) (aai c f m):=by
 subst hk;obtain⟨C,fI,fd,hm,k,qq,kf,F⟩:=h.ex;exact aky (kk:=1) hcalm hg hm k qq (fun vs=>asq F S kf hb h1 h2 hs hv1 hv2) (hbd fI fd F) hr he hn hst hd
theorem akm{q:Str}(h:∀(kV doc pm:Value) (an:Option Addr) (cdv ct:Value) (us:List Value),us.length=2->bindArgs (fnOf "__init__" q (jh st) (du st) (ak st) .none kV doc pm an cdv ct) ⟨us,[]⟩=pure ((["self", f]:List Str).zip us)) :
  ∀fI fd,Fun K "__init__" q st fI fd->∀s us,us.length=2->BindsTo s fd ⟨us,[]⟩ ((["self", f]:List Str).zip us):=fun fI fd F s us hl=>by
 obtain⟨oc,od,kV,doc,pm,an,cdv,ct,osl,rfl,lk,hcd⟩:=F.ex;exact .of_eq (h kV doc pm an cdv ct us hl)
def asf(K:Fg9)(C fI:Addr)(f:Str):Bool:=ahe K C fI&&(findIn K (.ref C) "__setattr__" == some (some (.builtin "object.__setattr__")))&&aec K C&&(PySem.W.takerIn K C f==some none)
theorem aou{h:Heap}{mg:Str->Option Value}{ns:List Str}{q:Str}{C fI:Addr}{fd:FuncData}(X:K.In h)(G:h.Ns mainGlobals mg)(e:ajt K ns=true)(hc:ns.contains c=true)(aC:nsIn K mainGlobals c=some (some (.ref C)))(e2:asf K C fI f=true)(F:Fun K "__init__" q st fI fd):IniT K mg c f q st:=by
 obtain⟨C',h1,h2⟩:=qd X G e hc;have z:=h2.ns.symm.trans aC;cases z;unfold asf at e2;simp only[Bool.and_eq_true,beq_iff_eq] at e2;obtain⟨⟨⟨a1,a2⟩,a3⟩,a4⟩:=e2;exact⟨C,fI,fd,h1,h2,a1,⟨h2.ok,a2,a3,a4⟩,F⟩
def asr(K:Fg9)(cs:List Str)(f:Str):Bool:=cs.all fun c=>match clsAt K c with
 | some C=>findIn K (.ref C) f==some none
 | none=>false
theorem ajk{cs:List Str}(h:asr K cs f=true):∀c C,cs.contains c=true->nsIn K mainGlobals c=some (some (.ref C))->findIn K (.ref C) f=some none:=fun c C hc hn=>by
 have z:=List.all_eq_true.mp h c (List.contains_iff_mem.mp hc);rw[ab5 hn] at z;exact beq_iff_eq.mp z
end
theorem asw(a b:Int):eqD (.int a) (.int b)=decide (a=b):=by
 show(a==b)=_
 by_cases h:a=b <;> simp[h]
theorem agv(n:Nat)(ns:List Int):(ns.map D.int).all (okD n)=true:=by
 induction ns with
 | nil=>rfl
 | cons x r ih=>simp[okD]
theorem ajo:∀(a b:List Int),eqDs (a.map D.int) (b.map D.int)=decide (a=b)
 | [],[]=>rfl
 | [],_::_=>rfl
 | _::_,[]=>rfl
 | x::r,y::t=>by
  show(eqD (.int x) (.int y)&&eqDs (r.map D.int) (t.map D.int))=_;rw[asw,ajo r t]
  by_cases h:x=y <;> simp[h]
@[simp] theorem avv(d:D):ami [d]=(bz d).map ac8:=rfl
@[simp] theorem avt(a b:D):aoz [a,b]=(bz a).bind fun l1=>(bz b).bind fun l2=>if l1.length<=l2.length then some (abm l1 l2) else none:=rfl
@[simp] theorem au7(ρ:Ro)(i:Nat)(ms:M (List D)):al3 i ms ρ=((di i).bind fun d0=>ms.bind fun ds=>(di i).bind fun d=>(lift (match d0,d with
 | .lst _,.lst _=>some ()
 | .tup _,.tup _=>some ()
 | _,_=>none)).bind fun _=>lift (aga d ds)) ρ:=rfl
@[simp] theorem aso(l:List D)(x:D):aga (.lst l) [x]=if okD 30 x&&l.all (okD 30) then some (.int (l.countP fun y=>eqD y x)) else none:=rfl
@[simp] theorem asn(l:List D)(x:D):aga (.tup l) [x]=if okD 30 x&&l.all (okD 30) then some (.int (l.countP fun y=>eqD y x)) else none:=rfl
theorem aku{l1 l2:List D}(h:l1.length<=l2.length):(abm l1 l2).length=l1.length:=by unfold abm;rw[List.length_zipWith];omega
theorem sr{ns:List Int}{k:Int}(h0:0<=k)(h1:k < (ns.length:Int)):atI (ns.map D.int) k=some (.int (ns.getD k.toNat 0)):=by
 have hk:k.toNat < ns.length:=by omega
 have q:atI (ns.map D.int) ((k.toNat:Nat):Int)=some (.int (ns.getD k.toNat 0)):=ait (by simp[List.getElem?_eq_getElem hk])
 rw[show((k.toNat:Nat):Int)=k by omega] at q
 exact q
theorem vm{n:Nat}{k:Int}(h0:0<=k)(h1:k < (n:Int)):ixN n k=some k.toNat:=by
 unfold ixN;simp[h0,h1]
theorem ju{K:Fg9}{P:Program}{w:World}{mg:Str->Option Value}{base:Heap}{x qual:Str}{st:Stmt}{f:Addr}{fd:FuncData}{N ps:List Str}{k nl np:Nat}{g:Sd}(F:Fun K x qual st f fd)(S:FnScope N ps (ak st))(h1:N.length=nl)(h2:ps.length=np)
  (body:∀(cdv:Value) (A:Around) (outer:List Env) (s:Shared) (H:Hp) (E:XK),Room k (A.deeper (envOfC qual (ak st) s.heap.objs.size f cdv))->SVs K (cxOf CX0 P w K mg base N qual (ak st) f cdv A outer s H E).nox (du st) g) :
  FnOk P w K mg base CX0 (k+1) f fd ps (spOf K np (fnD nl np g)):=by
 subst h1 h2;exact ayv F S body
end Dn
namespace Mn
open L2
section
variable{X:Cx}
end
end Mn
namespace Dn
open L2 Mn
section
variable{K:Fg9}{X:Cx}
end
theorem mkSc{N P:List Str}{sc:Scope}(a:sc.kind=.function)(b:sc.isCoroutine=false)(c:sc.isGenerator=false)(e:N.take P.length=P)(d:N.Nodup/\(∀x∈P,sc.names.lookup x=some .local∨sc.names.lookup x=some .cell)/\∀y∈sc.names,y.2≠.free):FnScope N P sc:=⟨a,b,c,d.1,e,d.2.1,d.2.2⟩
section
variable{K:Fg9}{X:Cx}{e a b o:Expr}{es:List Expr}{pos p p2:Pos}
def FldT(K:Fg9)(c f:Str):Prop:=∀C,nsIn K mainGlobals c=some (some (.ref C))->Cls K C/\aa1 K C f
def mLnk(c:Str)(i:Nat)(f:Str)(j:Nat):M Unit:=fun ρ=>match ρ[i]?,ρ[j]? with
 | some (.box c' fs),some (.own (some k) _)=>match fs.lookup f with
  | some (.inl k')=>if c'=c/\k'=k then some (.ok (),ρ) else none
  | _=>none
 | _,_=>none
theorem ai8{tg:Nat->Addr}{F H:Hp}{ρ ρ':Ro}{σ:L2.St}(G:Good K tg F H ρ σ){c f:Str}{i j:Nat}{u:Unit}(hc:FldT K c f)(em:mLnk c i f j ρ=some (.ok u,ρ')) :
  ρ'=ρ/\∃a C dx fvs v,σ[i]? = some (some (.ref a))/\H a=some (.ins C dx fvs)/\Cls K C/\aa1 K C f/\fvs.lookup f=some v/\σ[j]? = some (some v):=by
 unfold mLnk at em;split at em
 ·rename_i c' fs k l ei ej;split at em
  ·rename_i k' hk;split at em
   ·rename_i hz;obtain⟨rfl,rfl⟩:=hz;cases em;obtain⟨oi,hoi,a,C,dx,fvs,rfl,hf,hh,hn,_,h1,_⟩:=G.at ei;obtain⟨oj,hoj,b,vs,rfl,_,_,_,ht⟩:=G.at ej;obtain⟨k1,k2⟩:=hc C hn;refine⟨rfl,a,C,dx,fvs,.ref b,hoi,hh,k1,k2,?_,hoj⟩;rw[h1 f _ hk,ht _ rfl]
   ·cases em
  ·cases em
 ·cases em
abbrev tAt(K:Fg9)(i:Nat)(f:Str):TE:=tFld K (tVar i) f
theorem alq{i:Nat}{f:Str}(h:PE X o (tVar i))(hb:attributeBase o f X.env (eval o X.env)=eval o X.env:=by rfl):PE X (.Attribute o f pos) (tAt X.K i f):=auj h hb
def mFV(c:Str)(i:Nat)(f:Str):M D:=fun ρ=>match ρ[i]? with
 | some (.box c' fs)=>if c'=c then match fs.lookup f with
  | some (.inr d)=>some (.ok d,ρ)
  | _=>none
  else none
 | _=>none
theorem ay3{c f:Str}{i:Nat}(hc:FldT K c f)(h:PE X o (tVar i))(hb:attributeBase o f X.env (eval o X.env)=eval o X.env:=by rfl):EV K X (.Attribute o f pos) (mFV c i f):=EV.mk fun hk=>by
 subst hk;refine PE.imp (alq h hb) fun σ H Q z9 =>?_
 obtain⟨tg,F,ρ,d,ρ',G,em,q⟩:=z9;unfold mFV at em;split at em
 ·rename_i c' fs ei;split at em
  ·rename_i hz;subst hz;split at em
   ·rename_i d' hd;cases em;obtain⟨oi,hoi,a,C,dx,fvs,rfl,hf,hh,hn,_,_,h2⟩:=G.at ei;obtain⟨k1,k2⟩:=hc C hn;obtain⟨v,hv,iv⟩:=h2 f _ hd;exact⟨_,hoi,a,C,dx,fvs,v,rfl,hh,k1,k2,hv,q v H F G (Ext.refl _ _ _) iv⟩
   ·cases em
  ·cases em
 ·cases em
theorem e2_f{c f:Str}{i j:Nat}{m2:M D}(hc:FldT K c f)(h:PE X o (tVar i))(hb2:EB K X b m2)(hb:attributeBase o f X.env (eval o X.env)=eval o X.env:=by rfl):E2 K X (.Attribute o f pos) b ((mLnk c i f j).bind fun _=>fj j m2):=E2.mk fun hk=>by
 subst hk;refine⟨_,_,alq h hb,hb2 rfl,fun σ H R ⟨tg,F,ρ,p,ρ',G,em,q⟩ =>?_⟩
 obtain⟨u,ρ9,e9,em1⟩:=bf em;obtain⟨rfl,a,C,dx,fvs,v,h1,h2,h3,h4,h5,h6⟩:=ai8 G hc e9;obtain⟨d0,ρ0,e0,em⟩:=bf em1;obtain⟨d2,ρ2,e2,em⟩:=bf em;obtain⟨d1,ρ1,e1,em⟩:=bf em;obtain⟨rfl,rfl⟩:=jt em;obtain⟨rfl,_⟩:=j7 G e0;exact⟨_,h1,a,C,dx,fvs,v,rfl,h2,h3,h4,h5,tg,F,ρ0,d2,ρ2,G,e2,fun y H2 F2 G2 x2 r2=>by
  obtain⟨rfl,v',hv',b'⟩:=j7 G2 e1;rw[h6] at hv';cases hv';exact q v y H2 F2 G2 x2 b' r2⟩
theorem ea_f{c f:Str}{i j:Nat}{ms:M (List D)}(hc:FldT K c f)(h:PE X o (tVar i))(t:EA K X es ms)(hb:attributeBase o f X.env (eval o X.env)=eval o X.env:=by rfl)(hs:starEach (.Attribute o f pos::es) X.env=(false,eval (.Attribute o f pos) X.env)::starEach es X.env:=by rfl) :
  EA K X (.Attribute o f pos::es) ((mLnk c i f j).bind fun _=>dw j ms):=EA.mk fun hk=>by
 subst hk;refine PA.imp (jy (alq h hb) (t rfl) hs) fun σ H Q z9 =>?_
 obtain⟨tg,F,ρ,ds,ρ',G,em,q⟩:=z9;obtain⟨u,ρ9,e9,em1⟩:=bf em;obtain⟨rfl,a,C,dx,fvs,v,h1,h2,h3,h4,h5,h6⟩:=ai8 G hc e9;obtain⟨d0,ρ0,e0,em⟩:=bf em1;obtain⟨r,ρ2,e2,em⟩:=bf em;obtain⟨d,ρ1,e1,em⟩:=bf em;obtain⟨rfl,rfl⟩:=jt em;obtain⟨rfl,_⟩:=j7 G e0;exact⟨_,h1,a,C,dx,fvs,v,rfl,h2,h3,h4,h5,tg,F,ρ0,r,_,G,e2,fun vs H2 F2 G2 x2 r2=>by
  obtain⟨rfl,v',hv',b'⟩:=j7 G2 e1;rw[h6] at hv';cases hv';exact q _ H2 F2 G2 x2 (.cons b' r2)⟩
def dSubF(c:Str)(i:Nat)(f:Str)(j:Nat)(mi m:M D):Sd:=dM m fun d=>dM (mLnk c i f j) fun _=>dM mi fun k=>dM (mOwn j) fun l=>dM (lift ((asI k).bind (ixN l.length))) fun n=>dM (ab1 j (l.set n d)) fun _=>dNx
theorem aqv{c f:Str}{i j:Nat}{mi m:M D}(hc:FldT K c f)(h:EV K X e m)(ho:PE X o (tVar i))(hi:EV K X b mi)(hb:attributeBase o f X.env (eval o X.env)=eval o X.env:=by rfl)(hs:swapsWithSole [.Subscript (.Attribute o f p2) b p] e pos.line X.env=pure false:=by rfl)(hw:swappedStores [.Subscript (.Attribute o f p2) b p] e X.env=pure none:=by rfl)
  (h1:(assignEach [.Subscript (.Attribute o f p2) b p] X.env).map (·.2)=[assign (.Subscript (.Attribute o f p2) b p) X.env]:=by rfl)
  (ha:∀v,assign (.Subscript (.Attribute o f p2) b p) X.env v=(do
   let ov <-holding [v] (eval (.Attribute o f p2) X.env)
   let iv <-holding [v,ov] (eval b X.env)
   standAt p
   holding [v,ov,iv] (setItem ov iv v)
   release [v,ov,iv] []):=by intro _;rfl):SV K X (.Assign [.Subscript (.Attribute o f p2) b p] e pos) (dSubF c i f j mi m):=SV.mk fun hk=>by
 subst hk;refine PS.imp (ai2 (h rfl) (apu (alq ho hb) (hi rfl) set_list ha) hs hw h1) fun E σ H z9 =>?_
 obtain⟨tg,F,ρ,fl,ρ',G,em,q⟩:=z9;refine j8 em q fun d ρ1 e1 em=>j8 em q fun u0 ρ0 e0 em=>j8 em q fun k ρ2 e2 em=>j8 em q fun l ρ3 e3 em=>j8 em q fun n ρ4 e4 em=>j8 em q fun u ρ5 e5 em =>?_
 cases em;obtain⟨e6,rfl⟩:=fu e4;refine⟨tg,F,ρ,d,ρ1,G,e1,fun v H1 F1 G1 x1 r1 =>?_⟩
 obtain⟨rfl,a,C,dx,fvs,w0,g1,g2,g3,g4,g5,g6⟩:=ai8 G1 hc e0;refine⟨_,g1,a,C,dx,fvs,w0,rfl,g2,g3,g4,g5,tg,F1,_,k,ρ2,G1,e2,fun w H2 F2 G2 x2 r2 =>?_⟩
 obtain⟨rfl,t,a1,xs,es1,hv',hh,hl⟩:=adv G2 e3;rw[g6] at hv';cases hv';cases ek:asI k with
 | none=>rw[ek] at e6;cases e6
 | some z =>
  rw[ek] at e6;obtain rfl:=ahv ek;cases r2;obtain⟨G3,x3⟩:=af1 G2 e5 g6 (hl.set (r1.mono x2.sub) n);exact⟨_,xs,z,n,rfl,rfl,hh,by rw[<-hl.length];exact e6,q _ _ F2 G3 ((x1.trans x2).trans x3)⟩
def dSubAugF(g:Int->Int->Int)(c:Str)(i:Nat)(f:Str)(j:Nat)(mi m:M D):Sd:=dM (mLnk c i f j) fun _=>dM mi fun k=>dM (mOwn j) fun l=>dM (lift ((asI k).bind (ixN l.length))) fun n=>dM (lift ((l[n]?).bind asI)) fun x=>dM m fun y=>dM (lift (asI y)) fun y=>dM (mOwn j) fun l2=>dM (lift (if l2.length=l.length then some () else none)) fun _=>dM (ab1 j (l2.set n (.int (g x y)))) fun _=>dNx
theorem aan{g:Int->Int->Int}{op:Operator}{c f:Str}{i j:Nat}{mi m:M D}(hc:FldT K c f)(ho:PE X o (tVar i))(hi:EV K X b mi)(h:EV K X e m)(hp:PIp X op (ipI g))(hb:attributeBase o f X.env (eval o X.env)=eval o X.env:=by rfl)
  (ha:∀ov iv new,augStore b ov iv new=(do holding [new,ov,iv] (setItem ov iv new);release [new,ov,iv] [];pure .next):=by intros;rfl):SV K X (.AugAssign (.Subscript (.Attribute o f p2) b p) op e pos) (dSubAugF g c i f j mi m):=SV.mk fun hk=>by
 subst hk;refine PS.imp (aq6 (alq ho hb) (hi rfl) aoy (h rfl) hp set_list ha) fun E σ H z9 =>?_
 obtain⟨tg,F,ρ,fl,ρ',G,em,q⟩:=z9;refine j8 em q fun u0 ρ0 e0 em=>j8 em q fun k ρ1 e1 em=>j8 em q fun l ρ2 e2 em=>j8 em q fun n ρ3 e3 em=>j8 em q fun x ρ4 e4 em=>j8 em q fun y ρ5 e5 em=>j8 em q fun y' ρ6 e6 em=>j8 em q fun l2 ρ7 e7 em=>j8 em q fun u ρ8 e8 em=>j8 em q fun u2 ρ9 e9 em =>?_
 cases em;obtain⟨rfl,a0,C,dx,fvs,w0,h1,h2,h3,h4,h5,hv⟩:=ai8 G hc e0;refine⟨_,h1,a0,C,dx,fvs,w0,rfl,h2,h3,h4,h5,tg,F,_,k,ρ1,G,e1,fun w H1 F1 G1 x1 r1 =>?_⟩
 obtain⟨rfl,t1,a1,xs1,es1,hv1,hh1,hl1⟩:=adv G1 e2;rw[hv] at hv1;cases hv1;obtain⟨g3,rfl⟩:=fu e3;obtain⟨g4,rfl⟩:=fu e4;cases ek:asI k with
 | none=>rw[ek] at g3;cases g3
 | some z =>
  rw[ek] at g3;obtain rfl:=ahv ek;cases r1;have e3:ixN l.length z=some n:=g3;cases ej:l[n]? with
  | none=>rw[ej] at g4;cases g4
  | some d =>
   rw[ej] at g4;have h4:asI d=some x:=g4;obtain rfl:=ahv h4;obtain⟨v,ev,iv⟩:=hl1.get ej;cases iv;refine⟨_,xs1,z,.int x,rfl,rfl,SqL.of hh1,by rw[avk hl1.length.symm e3];exact ev,?_⟩
   refine⟨tg,F1,_,y,ρ5,G1,e5,fun w2 H2 F2 G2 x2 r2 =>?_⟩
   obtain⟨g6,rfl⟩:=fu e6;obtain rfl:=ahv g6;cases r2;refine⟨x,y',rfl,rfl,?_⟩;obtain⟨rfl,t2,a2,xs2,es2,hv2,hh2,hl2⟩:=adv G2 e7;rw[hv] at hv2;cases hv2;obtain⟨g8,rfl⟩:=fu e8;split at g8
   ·rename_i hlen;obtain⟨G3,x3⟩:=af1 G2 e9 hv (hl2.set (Is.int (g x y')) n);exact⟨_,xs2,z,n,rfl,rfl,hh2,by rw[<-hl2.length,hlen];exact e3,q _ _ F2 G3 ((x1.trans x2).trans x3)⟩
   ·cases g8
end
theorem _root_.L2.Inv.gh{X:Cx}{zv:List (Addr×Obj)}{σ σ2:L2.St}{H:Hp}{s:Shared}(I:Inv X zv σ H s)(hl:σ2.length=σ.length)(h:∀(i:Nat) (x:Str) (v:V),X.N[i]? = some x->σ2[i]? = some (some v)->Vis X.env.scope x->σ[i]? = some (some v)):Inv X zv σ2 H s:=by
 obtain⟨m,hm,hx⟩:=I.loc;exact⟨I.ok,I.os,I.bare,I.base,⟨m,hm,fun i x v e q vis=>hx i x v e (h i x v e q vis) vis⟩,I.cell,I.free,I.freeC,I.pin,I.hok,hl.trans I.len⟩
def GH(X:Cx)(σ σ2:L2.St):Prop:=σ2.length=σ.length/\∀(i:Nat) (x:Str) (v:V),X.N[i]? = some x->σ2[i]? = some (some v)->Vis X.env.scope x->σ[i]? = some (some v)
theorem apo{X:Cx}{ss:List Stmt}{t:TS}(h:PSs X ss t):PSs X ss (fun D σ H=>∃σ2,GH X σ σ2/\t D σ2 H):=fun zv s σ H D I ⟨σ2,g,q⟩=>h zv s σ2 H D (I.gh g.1 g.2) q
def spBx(K:Fg9)(n ng:Nat)(f:Fd):Sp:=fun vs H Q _=>vs.length=n/\∃gv:List V,gv.length=ng/\∃F as r ps,Good K (tgOf ((vs++gv).map some)) F H as ((vs++gv).map some)/\f as=some (.ok r,ps) /\
 ∀v H' F' O',Same F' H'->Ext (Own as ((vs++gv).map some)) O' F H F' H'->Fin K F' H' ((vs++gv).map some) ps O'->relR K r v H (Own as ((vs++gv).map some)) F' H' O'->Q v H'
theorem ayw{K:Fg9}{P:Program}{w:World}{mg:Str->Option Value}{base:Heap}{x qual:Str}{st:Stmt}{f:Addr}{fd:FuncData}{N ps:List Str}{k nl np ng:Nat}{g:Sd}(F:Fun K x qual st f fd)(S:FnScope N ps (ak st))(h1:N.length=nl)(h2:ps.length=np)(hN:np+ng<=nl)
  (hgh:∀y∈(N.drop np).take ng,(ak st).names.lookup y=none)
  (body:∀(cdv:Value) (A:Around) (outer:List Env) (s:Shared) (H:Hp) (E:XK),Room k (A.deeper (envOfC qual (ak st) s.heap.objs.size f cdv))->SVs K (cxOf CX0 P w K mg base N qual (ak st) f cdv A outer s H E).nox (du st) g) :
  FnOk P w K mg base CX0 (k+1) f fd ps (spBx K np ng (fnD nl (np+ng) g)):=by
 subst h1 h2;refine F.ok S (fun vs H Q E h=>h.1) (fun cdv A outer s H vs Q E hr h=>⟨_,apo (body cdv A outer s H E hr rfl),?_⟩)
 obtain⟨hn,gv,hg,F,as,r,ps',G,em,q⟩:=h;have hl:as.length=((vs++gv).map some).length:=G.len;have hlen:(vs++gv).length=ps.length+ng:=by rw[List.length_append];omega
 have G1:=G.app (N.length - (ps.length+ng));refine⟨(vs++gv).map some++List.replicate (N.length - (ps.length+ng)) none,⟨?_,?_⟩,?_⟩
 ·show _=(vs.map some++List.replicate (N.length - vs.length) none).length;rw[List.length_append,List.length_append,List.length_map,List.length_map,List.length_replicate,List.length_replicate,hlen];omega
 ·intro i y v ei ev vis;show(vs.map some++List.replicate (N.length - vs.length) none)[i]? = some (some v)
  by_cases q1:i < vs.length
  ·rw[List.getElem?_append_left (by rw[List.length_map];exact q1)]
   rw[List.getElem?_append_left (by rw[List.length_map,hlen];omega),List.getElem?_map,List.getElem?_append_left q1] at ev
   rw[List.getElem?_map];exact ev
  ·exfalso
   by_cases q2:i < ps.length+ng
   ·have hm:y∈(N.drop ps.length).take ng:=by
     refine List.mem_of_getElem? (i:=i - ps.length) ?_;rw[List.getElem?_take_of_lt (by omega),List.getElem?_drop,show ps.length+(i - ps.length)=i by omega]
     exact ei
    have z:=hgh y hm;rcases vis with v | v | v
    ·rw[show((cxOf CX0 P w K mg base N qual (ak st) f cdv A outer s H E).nox).env.scope=ak st from rfl,z] at v;cases v
    ·rw[show((cxOf CX0 P w K mg base N qual (ak st) f cdv A outer s H E).nox).env.scope=ak st from rfl,z] at v;cases v
    ·rw[show((cxOf CX0 P w K mg base N qual (ak st) f cdv A outer s H E).nox).env.scope=ak st from rfl,z] at v;cases v
   ·rw[List.getElem?_append_right (by rw[List.length_map,hlen];omega),List.getElem?_replicate] at ev
    split at ev <;> cases ev
 have fin:∀{ρ':Ro} {σ':L2.St} {F' H':Hp},Good K (tgOf ((vs++gv).map some)) F' H' ρ' σ'->Fin K F' H' ((vs++gv).map some) (ρ'.take (ps.length+ng)) (Own ρ' σ'):=fun{ρ' σ' F' H'} G'=>⟨fun i l e=>by
  have hi:=(List.getElem?_eq_some_iff.mp e).1;rw[List.length_take] at hi;rw[List.getElem?_take_of_lt (by omega)] at e
  obtain⟨o,ho,a,ws,rfl,hf,hh,hl,ht⟩:=G'.at e;rw[ht i rfl];exact⟨⟨i,⟨_,_,e⟩,ho⟩,hf,ws,hh,hl⟩⟩
 unfold fnD at em;split at em
 ·rename_i r' ρ' e;cases em;refine⟨_,F,_,.ret r,ρ',G1,e,fun v σ' H' F' G' x' rr =>?_⟩
  rw[qg hl] at x' rr;exact q v H' F' (Own ρ' σ') G'.sub x' (fin G') rr
 ·rename_i ρ' e;cases em;refine⟨_,F,_,.nx,ρ',G1,e,fun σ' H' F' G' x' =>?_⟩
  rw[qg hl] at x';exact q .non H' F' (Own ρ' σ') G'.sub x' (fin G') .non
 ·cases em
 ·cases em
def bxC(np:Nat)(ls vf:List Str)(fs:List (Str×(Nat ⊕ D))):Option (List (Str×(Nat ⊕ D))):=(vf.mapM fun f=>match fs.lookup f with
 | some (.inr d)=>some (f,(.inr d:Nat ⊕ D))
 | _=>none).map fun vs=>(ls.mapIdx fun n f=>(f,(.inl (np+n):Nat ⊕ D)))++vs
def lnkB(fs:List (Str×(Nat ⊕ D)))(ρ:Ro):List Str->List Nat->Bool
 | [],[]=>true
 | f::ls,j::gs=>(match fs.lookup f,ρ[j]? with
  | some (.inl k),some (.own (some k') _)=>k==k'
  | _,_=>false)&&lnkB fs ρ ls gs
 | _,_=>false
theorem aey{np:Nat}{f:Str}{k:Nat ⊕ D}:∀{ls:List Str} {n0:Nat},(ls.mapIdx fun n g=>(g,(.inl (np+(n0+n)):Nat ⊕ D))).lookup f=some k->∃n,ls[n]? = some f/\k=.inl (np+(n0+n))
 | [],_,h=>by cases h
 | g::ls,n0,h=>by
  rw[List.mapIdx_cons] at h
  by_cases e:f=g
  ·subst e;rw[List.lookup_cons_self] at h;exact⟨0,rfl,(Option.some.inj h).symm⟩
  ·have hb:(f==g)=false:=beq_eq_false_iff_ne.mpr e;simp only[List.lookup,hb] at h;have h':(ls.mapIdx fun n g=>(g,(.inl (np+((n0+1)+n)):Nat ⊕ D))).lookup f=some k:=by
    have e2:(fun(n:Nat) (g:Str)=>(g,(.inl (np+(n0+(n+1))):Nat ⊕ D)))=fun n g=>(g,(.inl (np+((n0+1)+n)):Nat ⊕ D)):=by
     funext n g
     rw[show n0+(n+1)=n0+1+n by omega]
    rw[<-e2];exact h
   obtain⟨n,h1,h2⟩:=aey h';exact⟨n+1,by simpa using h1,by rw[h2];congr 2;omega⟩
theorem vz{α β:Type}[BEq α]{f:α}:∀{a b:List (α×β)},(a++b).lookup f=(a.lookup f).or (b.lookup f)
 | [],b=>rfl
 | (g,x)::a,b=>by
  rw[List.cons_append];simp only[List.lookup];split
  ·rfl
  ·exact vz
section
variable{K:Fg9}{X:Cx}{tg:Nat->Addr}{F H:Hp}{ρ:Ro}{σ:L2.St}
theorem Good.setB(G:Good K tg F H ρ σ){i:Nat}{s:Sl}(e:(ρ:List Sl)[i]? = some .emp)(hs:∀t l,s≠.own t l)(h:∀o,σ[i]? = some o->SlOk K tg F H s o):Good K tg F H (List.set ρ i s) σ/\Own (List.set ρ i s) σ=Own ρ σ:=by
 have sub:∀j t l,(List.set ρ i s)[j]? = some (Sl.own t l)↔(ρ:List Sl)[j]? = some (Sl.own t l):=fun j t l=>by
  rw[List.getElem?_set]
  by_cases hj:i=j
  ·subst hj;rw[if_pos rfl,e];constructor
   ·intro z;split at z
    ·cases z;exact absurd rfl (hs t l)
    ·cases z
   ·intro z;cases z
  ·rw[if_neg hj]
 refine⟨⟨G.sub,by rw[List.length_set];exact G.len,fun j s' o z q =>?_,fun j k a ⟨⟨t,l,z⟩,q⟩ ⟨⟨t',l',z'⟩,q'⟩=>G.inj j k a ⟨⟨t,l,(sub _ _ _).mp z⟩,q⟩ ⟨⟨t',l',(sub _ _ _).mp z'⟩,q'⟩⟩,?_⟩
 ·rw[List.getElem?_set] at z
  by_cases hj:i=j
  ·subst hj;rw[if_pos rfl] at z;split at z
   ·cases z;exact h o q
   ·cases z
  ·rw[if_neg hj] at z;exact G.sl j s' o z q
 ·funext a
  refine propext ⟨fun⟨j,⟨t,l,z⟩,q⟩=>⟨j,⟨t,l,(sub _ _ _).mp z⟩,q⟩,fun⟨j,⟨t,l,z⟩,q⟩=>⟨j,⟨t,l,(sub _ _ _).mpr z⟩,q⟩⟩
theorem al4{js:List (Option Nat)}{ds:List (Option D)}{vs gv:List V}{gs:List Nat}{a:Addr}(ar:AR K F σ js ds vs)(hg:gv.length=gs.length)(hgv:∀(n j:Nat) (v:V),gs[n]? = some j->gv[n]? = some v->σ[j]? = some (some v)) :
  Lent K F σ ((V.ref a::(vs++gv)).map some) (none::(js++gs.map some)) (none::(ds++gs.map fun _=>none)):=by
 have L:=ar.lent;have l0:=ar.length;have l2:=L.l2;refine⟨by simp[hg,l0],by simp[l2],fun i j o h q =>?_,fun i d h q =>?_⟩
 ·cases i with
  | zero=>cases h
  | succ i =>
   rw[List.getElem?_cons_succ] at h;rw[List.map_cons,List.getElem?_cons_succ,List.getElem?_map]
   by_cases hi:i < js.length
   ·rw[List.getElem?_append_left hi] at h;have z:=L.h1 i j o h q;rw[List.getElem?_map] at z;rw[List.getElem?_append_left (by omega)]
    exact z
   ·rw[List.getElem?_append_right (by omega),List.getElem?_map] at h
    obtain⟨j',hj,e⟩:=Option.map_eq_some_iff.mp h;cases e;rw[List.getElem?_append_right (by omega),l0]
    have hlt:i - js.length < gv.length:=by rw[hg];exact(List.getElem?_eq_some_iff.mp hj).1
    have z:=hgv _ _ _ hj (List.getElem?_eq_getElem hlt);rw[q] at z;rw[List.getElem?_eq_getElem hlt];exact z.symm▸rfl
 ·cases i with
  | zero=>cases q
  | succ i =>
   rw[List.getElem?_cons_succ] at h q;rw[List.map_cons,List.getElem?_cons_succ,List.getElem?_map]
   by_cases hi:i < js.length
   ·rw[List.getElem?_append_left hi] at h;rw[List.getElem?_append_left (by omega)] at q
    obtain⟨v,hv,iv⟩:=L.h2 i d h q;rw[List.getElem?_map] at hv;rw[List.getElem?_append_left (by omega)]
    exact⟨v,hv,iv⟩
   ·rw[List.getElem?_append_right (by omega),List.getElem?_map] at h
    obtain⟨j',_,e⟩:=Option.map_eq_some_iff.mp h;cases e
theorem aii{fs:List (Str×(Nat ⊕ D))}:∀{ls:List Str} {gs:List Nat} {n:Nat} {f:Str},lnkB fs ρ ls gs=true->ls[n]? = some f->∃j k l,gs[n]? = some j/\fs.lookup f=some (.inl k)/\(ρ:List Sl)[j]? = some (.own (some k) l)
 | [],_,n,f,_,h=>by simp at h
 | g::ls,[],n,f,hb,_=>by simp[lnkB] at hb
 | g::ls,j::gs,n,f,hb,h=>by
  unfold lnkB at hb;rw[Bool.and_eq_true] at hb;cases n with
  | zero =>
   simp at h;subst h;obtain⟨h1,_⟩:=hb;split at h1
   ·rename_i k k' l e1 e2;have:k=k':=by simpa using h1
    subst this;exact⟨j,k,l,rfl,e1,e2⟩
   ·cases h1
  | succ n =>
   obtain⟨j',k,l,h1,h2,h3⟩:=aii (n:=n) hb.2 (by simpa using h)
   exact⟨j',k,l,by simpa using h1,h2,h3⟩
theorem ai9{fs:List (Str×(Nat ⊕ D))}:∀{ls:List Str} {gs:List Nat},lnkB fs ρ ls gs=true->ls.length=gs.length
 | [],[],_=>rfl
 | [],_::_,h=>by simp[lnkB] at h
 | _::_,[],h=>by simp[lnkB] at h
 | g::ls,j::gs,h=>by
  unfold lnkB at h;rw[Bool.and_eq_true] at h;rw[List.length_cons,List.length_cons,ai9 h.2]
theorem aqi{fs:List (Str×(Nat ⊕ D))}:∀{vf:List Str} {vs:List (Str×(Nat ⊕ D))},(vf.mapM fun f=>match fs.lookup f with
 | some (.inr d)=>some (f,(.inr d:Nat ⊕ D))
 | _=>none)=some vs->∀f x,vs.lookup f=some x->∃d,x=.inr d/\fs.lookup f=some (.inr d)
 | [],vs,h,f,x,hx=>by
  simp at h;subst h;cases hx
 | g::vf,vs,h,f,x,hx=>by
  rw[List.mapM_cons] at h;obtain⟨y,h1,h2⟩:=Option.bind_eq_some_iff.mp h;obtain⟨ys,h3,h4⟩:=Option.bind_eq_some_iff.mp h2;cases h4;split at h1
  ·rename_i d hd;cases h1
   by_cases e:f=g
   ·subst e;rw[List.lookup_cons_self] at hx;cases hx;exact⟨d,rfl,hd⟩
   ·have hb:(f==g)=false:=beq_eq_false_iff_ne.mpr e;simp only[List.lookup,hb] at hx;exact aqi h3 f x hx
  ·cases h1
end
theorem aji{np:Nat}{f:Str}:∀{ls:List Str} {n0:Nat},(ls.mapIdx fun n g=>(g,(.inl (np+(n0+n)):Nat ⊕ D))).lookup f=none->f∉ls
 | [],_,_=>List.not_mem_nil
 | g::ls,n0,h=>by
  rw[List.mapIdx_cons] at h
  by_cases e:f=g
  ·subst e;rw[List.lookup_cons_self] at h;cases h
  ·have hb:(f==g)=false:=beq_eq_false_iff_ne.mpr e;simp only[List.lookup,hb] at h;have h':(ls.mapIdx fun n g=>(g,(.inl (np+((n0+1)+n)):Nat ⊕ D))).lookup f=none:=by
    have e2:(fun(n:Nat) (g:Str)=>(g,(.inl (np+(n0+(n+1))):Nat ⊕ D)))=fun n g=>(g,(.inl (np+((n0+1)+n)):Nat ⊕ D)):=by
     funext n g
     rw[show n0+(n+1)=n0+1+n by omega]
    rw[<-e2];exact h
   intro hm;rcases List.mem_cons.mp hm with z | z
   ·exact e z
   ·exact aji h' z
theorem ak0{fs:List (Str×(Nat ⊕ D))}:∀{vf:List Str} {vs:List (Str×(Nat ⊕ D))},(vf.mapM fun f=>match fs.lookup f with
 | some (.inr d)=>some (f,(.inr d:Nat ⊕ D))
 | _=>none)=some vs->∀f,vs.lookup f=none->f∉vf
 | [],vs,h,f,hx=>List.not_mem_nil
 | g::vf,vs,h,f,hx=>by
  rw[List.mapM_cons] at h;obtain⟨y,h1,h2⟩:=Option.bind_eq_some_iff.mp h;obtain⟨ys,h3,h4⟩:=Option.bind_eq_some_iff.mp h2;cases h4;split at h1
  ·rename_i d hd;cases h1
   by_cases e:f=g
   ·subst e;rw[List.lookup_cons_self] at hx;cases hx
   ·have hb:(f==g)=false:=beq_eq_false_iff_ne.mpr e;simp only[List.lookup,hb] at hx;intro hm;rcases List.mem_cons.mp hm with z | z
    ·exact e z
    ·exact ak0 h3 f hx z
  ·cases h1
theorem ag6{ls vf:List Str}{f:Str}:∀{fs:List (Str×(Nat ⊕ D))},fs.all (fun p=>ls.contains p.1||vf.contains p.1)=true->f∉ls->f∉vf->fs.lookup f=none
 | [],_,_,_=>rfl
 | (g,x)::fs,h,h1,h2=>by
  rw[List.all_cons,Bool.and_eq_true] at h;have e:f≠g:=fun z=>by
   subst z;rcases(Bool.or_eq_true _ _).mp h.1 with z | z
   ·exact h1 (List.contains_iff_mem.mp z)
   ·exact h2 (List.contains_iff_mem.mp z)
  have hb:(f==g)=false:=beq_eq_false_iff_ne.mpr e;simp only[List.lookup,hb];exact ag6 h.2 h1 h2
structure DfnM (P:Program) (w:World) (K:Fg9) (mg:Str->Option Value) (base:Heap) (c m:Str) (ps:List Str) (k:Nat) (sp:Sp):Prop where
 ex:∃C f fd,nsIn K mainGlobals c=some (some (.ref C))/\Cls K C/\Meth K C m f/\FnOk P w K mg base CX0 k f fd ps sp/\Binds K fd ps []
def mIsB(c:Str)(i:Nat)(m:Str):M (List (Str×(Nat ⊕ D))):=fun ρ=>match ρ[i]? with
 | some (.box c' fs)=>if c'=c/\(fs.lookup m).isNone=true then some (.ok fs,ρ) else none
 | _=>none
def ai7(c:Str)(i:Nat)(m:Str)(ls vf:List Str)(gs:List Nat)(f:Fd)(js:List (Option Nat))(ms:M (List (Option D))):M Rv:=(mIsB c i m).bind fun _=>ms.bind fun ds=>(mIsB c i m).bind fun fs ρ =>
 if lnkB fs ρ ls gs=true/\okJs ρ (none::(js++gs.map some))=true/\fs.all (fun p=>ls.contains p.1||vf.contains p.1)=true then match bxC (1+js.length) ls vf fs with
  | some fc=>match f (List.set (lend ρ (none::(js++gs.map some)) (none::(ds++gs.map fun _=>none))) 0 (.box c fc)) with
   | some (.ok r,ps)=>some (.ok r,putB ρ (none::(js++gs.map some)) ps)
   | _=>none
  | none=>none
 else none
theorem ap4{K:Fg9}{tg:Nat->Addr}{F H:Hp}{ρ ρ':Ro}{σ:L2.St}(G:Good K tg F H ρ σ){c m:Str}{i:Nat}{fs:List (Str×(Nat ⊕ D))}(em:mIsB c i m ρ=some (.ok fs,ρ')) :
  ρ'=ρ/\(ρ:List Sl)[i]? = some (.box c fs)/\∃a C dx fvs,σ[i]? = some (some (.ref a))/\F a=none/\H a=some (.ins C dx fvs)/\nsIn K mainGlobals c=some (some (.ref C))/\(∀f,fs.lookup f=none->fvs.lookup f=none)/\fvs.lookup m=none/\(∀f k,fs.lookup f=some (.inl k)->fvs.lookup f=some (.ref (tg k)))/\∀f d,fs.lookup f=some (.inr d)->∃v,fvs.lookup f=some v/\Is K F d v:=by
 unfold mIsB at em;split at em
 ·rename_i c' fs' ei;split at em
  ·rename_i hz;obtain⟨rfl,hm⟩:=hz;cases em;obtain⟨oi,hoi,a,C,dx,fvs,rfl,hf,hh,hn,h0,h1,h2⟩:=G.at ei;exact⟨rfl,ei,a,C,dx,fvs,hoi,hf,hh,hn,h0,h0 m (Option.isNone_iff_eq_none.mp hm),h1,h2⟩
  ·cases em
 ·cases em
theorem aip{K:Fg9}{X:Cx}{o e:Expr}{es:List Expr}{apos pos:Pos}{c m:Str}{i k n ng:Nat}{ls vf:List Str}{gs:List Nat}{f:Fd}{ps:List Str}{js:List (Option Nat)}{ms:M (List (Option D))}
  (D:DfnM X.prog X.w X.K X.mg X.base c m ps k (spBx K n ng f)) (hr:Room k X.A) (ho:PE X o (tVar i)) (ha:EG K X (e::es) js ms) (hn:1+js.length=n:=by rfl) (hng:gs.length=ng:=by rfl) {pl:Sem Bool}
  (hst:starEach (e::es) X.env=(false,eval e X.env)::starEach es X.env:=by rfl) (hpl:(backTo pos (starEach es X.env)).any (·.1)=false:=by rfl)
  (ht:eval (.Call (.Attribute o m apos) (e::es) [] pos) X.env=(do
   let ov <-eval o X.env
   standAt apos.atName
   let (f,first) <-holding [ov] (getMethod ov m pl)
   callWith pos f first (backTo pos (starEach (e::es) X.env)) (backToKw pos (keywordEach [] X.env))):=by rfl) :
  ER K X (.Call (.Attribute o m apos) (e::es) [] pos) (ai7 c i m ls vf gs f js ms):=ER.mk fun hk=>by
 obtain⟨C,fa,fd,hC,hcl,hme,hF,hB⟩:=D.ex;refine PE.imp (ard (pl:=pl) ho hcl hme hF hr hB .nil arn (ha hk) hst hpl ht) fun σ H Q z9 =>?_
 obtain⟨tg,F,ρ,r,ρ',G,em,q⟩:=z9;obtain⟨fs0,ρ0,e0,em1⟩:=bf em
 clear em
 obtain⟨ds,ρ1,e1,em2⟩:=bf em1
 clear em1
 obtain⟨fs,ρ2,e2,em⟩:=bf em2
 clear em2
 obtain⟨rfl,_,a0,C0,dx0,fvs0,z1,z2,z3,z4,z5,z6,z7,z8⟩:=ap4 G e0;subst hk;rw[hC] at z4;cases z4;refine⟨_,z1,a0,dx0,fvs0,rfl,z3,z6,tg,F,ρ0,ds,ρ1,G,e1,fun vs H1 F1 G1 x1 ar =>?_⟩
 obtain⟨rfl,ei,a,C1,dx,fvs,y1,y2,y3,y4,y5,y6,y7,y8⟩:=ap4 G1 e2;rw[z1] at y1;cases y1;split at em
 ·rename_i hz;obtain⟨hl,hj,hky⟩:=hz;split at em
  ·rename_i fc hfc;split at em
   ·rename_i r' ps' e3;cases em;have hlen:=ai9 hl;have hgv:∃gv:List V,gv.length=gs.length/\∀(nn j:Nat) (v:V),gs[nn]? = some j->gv[nn]? = some v->σ[j]? = some (some v):=by
     refine⟨gs.map fun j=>match σ[j]? with | some (some v)=>v | _=>.non,by rw[List.length_map],fun nn j v g1 g2 =>?_⟩
     rw[List.getElem?_map,g1] at g2;have hlt:nn < ls.length:=by rw[hlen];exact(List.getElem?_eq_some_iff.mp g1).1
     obtain⟨j',k',l',h1,h2,h3⟩:=aii hl (List.getElem?_eq_getElem hlt);rw[g1] at h1;cases h1;obtain⟨o',ho',b,ws,rfl,_⟩:=G1.at h3;have g2:some (match σ[j]? with | some (some v)=>v | _=>V.non)=some v:=g2
     rw[ho'] at g2;cases g2;exact ho'
    obtain⟨gv,hgl,hgv⟩:=hgv;have L:=al4 (a:=a0) ar hgl hgv;have Gl:=uq G1 hj L;have vl:=ar.length;have hb0:(lend ρ2 (none::(js++gs.map some)) (none::(ds++gs.map fun _=>none)):List Sl)[0]? = some .emp:=by
     unfold lend;rw[List.zip_cons_cons,List.mapIdx_cons];rfl
    have hsl:∀o',((V.ref a0::(vs++gv)).map some)[0]? = some o'->SlOk X.K (tgOf ((V.ref a0::(vs++gv)).map some)) F1 H1 (.box c fc) o':=fun o' ho'=>by
     cases ho';unfold bxC at hfc;obtain⟨vv,hv1,hv2⟩:=Option.map_eq_some_iff.mp hfc;subst hv2;have idx:∀f x,(ls.mapIdx fun nn g=>(g,(.inl (1+js.length+nn):Nat ⊕ _root_.Dn.D))).lookup f=some x->∃nn,ls[nn]? = some f/\x=.inl (1+js.length+nn):=fun f x hx=>by
      obtain⟨nn,h1,h2⟩:=aey (np:=1+js.length) (n0:=0) (by simpa using hx)
      exact⟨nn,h1,by simpa using h2⟩
     refine⟨a0,C1,dx,fvs,rfl,y2,y3,y4,fun f hf =>?_,fun f kk hf =>?_,fun f d hf =>?_⟩
     ·-- nothing else
      refine y5 f ?_;rw[vz] at hf;cases hq:(ls.mapIdx fun nn g=>(g,(.inl (1+js.length+nn):Nat ⊕ _root_.Dn.D))).lookup f with
      | none =>
       rw[hq] at hf;exact ag6 hky (aji (np:=1+js.length) (n0:=0) (by simpa using hq)) (ak0 hv1 f hf)
      | some x=>rw[hq] at hf;cases hf
     ·rw[vz] at hf;cases hq:(ls.mapIdx fun nn g=>(g,(.inl (1+js.length+nn):Nat ⊕ _root_.Dn.D))).lookup f with
      | none =>
       rw[hq] at hf;obtain⟨d,hd,_⟩:=aqi hv1 f _ hf;cases hd
      | some x =>
       rw[hq] at hf;cases hf;obtain⟨nn,h1,h2⟩:=idx f _ hq;cases h2;obtain⟨j,k',l',g1,g2,g3⟩:=aii hl h1;obtain⟨oj,hoj,b,ws,rfl,_,_,_,ht'⟩:=G1.at g3;rw[y7 f k' g2,ht' k' rfl];have hlt:nn < gv.length:=by rw[hgl];exact(List.getElem?_eq_some_iff.mp g1).1
       have e5:=hgv nn j _ g1 (List.getElem?_eq_getElem hlt);rw[hoj] at e5;have e6:gv[nn]? = some (V.ref b):=by rw[List.getElem?_eq_getElem hlt];exact Option.some.inj e5.symm▸rfl
       have e7:((V.ref a0::(vs++gv)).map some)[1+js.length+nn]? = some (some (.ref b)):=by
        rw[List.getElem?_map,show 1+js.length+nn=(js.length+nn)+1 by omega,List.getElem?_cons_succ,List.getElem?_append_right (by omega),show js.length+nn - vs.length=nn by omega,e6]
        rfl
       unfold tgOf;rw[e7]
     ·rw[vz] at hf;cases hq:(ls.mapIdx fun nn g=>(g,(.inl (1+js.length+nn):Nat ⊕ _root_.Dn.D))).lookup f with
      | none =>
       rw[hq] at hf;obtain⟨d',hd,hd2⟩:=aqi hv1 f _ hf;cases hd;exact y8 f d hd2
      | some x =>
       rw[hq] at hf;cases hf;obtain⟨nn,h1,h2⟩:=idx f _ hq;cases h2
    obtain⟨Gb,hO⟩:=Gl.setB hb0 (fun t l z=>by cases z) hsl
    show spBx X.K n ng f (V.ref a0::(vs++[])) H1 Q E0;rw[List.append_nil];refine⟨by rw[List.length_cons,vl];omega,gv,hgl.trans hng,F1,_,r,ps',Gb,e3,fun v H' F' O' s' x' fin rr =>?_⟩
    have hO':Own (List.set (lend ρ2 (none::(js++gs.map some)) (none::(ds++gs.map fun _=>none))) 0 (Sl.box c fc)) ((V.ref a0::vs++gv).map some)=Own (lend ρ2 (none::(js++gs.map some)) (none::(ds++gs.map fun _=>none))) ((V.ref a0::(vs++gv)).map some):=hO
    rw[hO'] at x' rr;exact q v H' F' (xg G1 L x' s' fin) (x1.trans (aat G1 L x')) (qj x1 (adh G1 L fin rr))
   ·cases em
  ·cases em
 ·cases em
def aly:Sl->Bool
 | .box _ _=>false
 | _=>true
section
variable{K:Fg9}{X:Cx}{tg:Nat->Addr}{F H F1 H1:Hp}{O O1:Addr->Prop}{ρ:Ro}{σ:L2.St}
theorem Good.updN(G:Good K tg F H ρ σ)(hb:(ρ:List Sl).all aly=true){d:Addr}(hf:F d=none)(hn:¬Own ρ σ d)(o:HO):Good K tg F (L2.upd H d o) ρ σ where
 sub:=fun b u e=>by
  have hb:b≠d:=fun z=>by subst z;rw[hf] at e;cases e
  rw[bu hb];exact G.sub b u e
 len:=G.len
 inj:=G.inj
 sl:=fun i s o' e q=>by
  have z:=G.sl i s o' e q;cases s with
  | emp=>trivial
  | val _=>exact z
  | box c fs=>exact absurd (List.all_eq_true.mp hb _ (List.mem_of_getElem? e)) (by simp[aly])
  | own t l =>
   obtain⟨a,vs,e1,f,e2,h,ht⟩:=z;have ha:a≠d:=fun z=>hn (z▸⟨i,⟨t,l,e⟩,by rw[q,e1]⟩)
   exact⟨a,vs,e1,f,by rw[bu ha];exact e2,h,ht⟩
inductive FdR (K:Fg9) (F H:Hp) (O:Addr->Prop):List (Str×Rv)->List (Str×V)->List Addr->Prop
 | nil:FdR K F H O [] [] []
 | v {f:Str} {d:D} {v:V} {rs:List (Str×Rv)} {fvs:List (Str×V)} {A:List Addr} (h:Is K F d v) (t:FdR K F H O rs fvs A):FdR K F H O ((f,.v d)::rs) ((f,v)::fvs) A
 | fr {f:Str} {l:List D} {e:Addr} {ws:List V} {rs:List (Str×Rv)} {fvs:List (Str×V)} {A:List Addr} (hf:F e=none) (hn:¬O e) (hh:H e=some (.lst ws)) (h:IsL K F l ws) (ne:e∉A) (t:FdR K F H O rs fvs A):FdR K F H O ((f,.fr l)::rs) ((f,.ref e)::fvs) (e::A)
theorem FdR.step{rs:List (Str×Rv)}{fvs:List (Str×V)}{A:List Addr}(h:FdR K F H O rs fvs A)(x:Ext O O1 F H F1 H1):FdR K F1 H1 O1 rs fvs A:=by
 induction h with
 | nil=>exact .nil
 | v h t ih=>exact .v (h.mono x.sub) ih
 | @fr f l e ws rs fvs A hf hn hh h ne t ih =>
  refine .fr ?_ (fun z =>?_) (x.keep e _ hh hn) (h.mono x.sub) ne ih
  ·cases z:F1 e with
   | none=>rfl
   | some o =>
    rcases x.new e o z with z | z | z
    ·rw[hf] at z;cases z
    ·rw[hh] at z;cases z
    ·exact absurd z hn
  ·rcases x.own e z with z | z
   ·exact hn z
   ·rw[hh] at z;cases z
theorem FdR.out{rs:List (Str×Rv)}{fvs:List (Str×V)}{A:List Addr}(h:FdR K F H O rs fvs A):∀e∈A,¬O e/\F e=none/\∃ws,H e=some (.lst ws)/\∃l,IsL K F l ws:=by
 induction h with
 | nil=>exact fun e he=>absurd he List.not_mem_nil
 | v h t ih=>exact ih
 | @fr f l e ws rs fvs A hf hn hh h ne t ih =>
  intro e' he;rcases List.mem_cons.mp he with rfl | he
  ·exact⟨hn,hf,ws,hh,l,h⟩
  ·exact ih e' he
theorem FdR.upd{rs:List (Str×Rv)}{fvs:List (Str×V)}{A:List Addr}{d:Addr}{o:HO}(h:FdR K F H O rs fvs A)(hd:d∉A):FdR K F (L2.upd H d o) O rs fvs A:=by
 induction h with
 | nil=>exact .nil
 | v h t ih=>exact .v h (ih hd)
 | @fr f l e ws rs fvs A hf hn hh h ne t ih =>
  have h1:d≠e/\d∉A:=⟨fun q=>hd (q▸List.mem_cons_self ..),fun q=>hd (List.mem_cons_of_mem _ q)⟩
  exact .fr hf hn (by rw[bu (Ne.symm h1.1)];exact hh) h ne (ih h1.2)
theorem FdR.snocV{rs:List (Str×Rv)}{fvs:List (Str×V)}{A:List Addr}(h:FdR K F H O rs fvs A){f:Str}{d:D}{v:V}(hd:Is K F d v):FdR K F H O (rs++[(f,.v d)]) (fvs++[(f,v)]) A:=by
 induction h with
 | nil=>exact .v hd .nil
 | v h t ih=>exact .v h ih
 | fr hf hn hh h ne t ih=>exact .fr hf hn hh h ne ih
theorem FdR.snocF{rs:List (Str×Rv)}{fvs:List (Str×V)}{A:List Addr}(h:FdR K F H O rs fvs A){f:Str}{l:List D}{e:Addr}{ws:List V}(h1:F e=none)(h2:¬O e)(h3:H e=some (.lst ws))(h4:IsL K F l ws)(h5:e∉A):FdR K F H O (rs++[(f,.fr l)]) (fvs++[(f,.ref e)]) (A++[e]):=by
 induction h with
 | nil=>exact .fr h1 h2 h3 h4 List.not_mem_nil .nil
 | v h t ih=>exact .v h (ih h5)
 | @fr f' l' e' ws' rs fvs A hf hn hh h ne t ih =>
  have z:e≠e'/\e∉A:=⟨fun q=>h5 (q▸List.mem_cons_self ..),fun q=>h5 (List.mem_cons_of_mem _ q)⟩
  refine .fr hf hn hh h (fun q =>?_) (ih z.2)
  rcases List.mem_append.mp q with q | q
  ·exact ne q
  ·rw[List.mem_singleton] at q;exact z.1 q.symm
theorem afm{f:Str}{y:V}:∀{fs:List (Str×V)},fs.lookup f=none->putF f y fs=fs++[(f,y)]
 | [],_=>rfl
 | (g,x)::r,h=>by
  by_cases e:f=g
  ·subst e;rw[List.lookup_cons_self] at h;cases h
  ·have hb:(f==g)=false:=beq_eq_false_iff_ne.mpr e;simp only[List.lookup,hb] at h;show(if g=f then (g,y)::r else (g,x)::putF f y r)=_
   rw[if_neg (Ne.symm e),afm h];rfl
def Oa(ρ:Ro)(σ:L2.St)(a:Addr)(A:List Addr):Addr->Prop:=fun z=>Own ρ σ z∨z=a∨z∈A
def iniD:List (Str×M Rv)->Ro->Option (List (Str×Rv)×Ro)
 | [],ρ=>some ([],ρ)
 | (f,m)::r,ρ=>match m ρ with
  | some (.ok (.v d),ρ1)=>if (ρ1:List Sl).all aly=true then (iniD r ρ1).map fun p=>((f,.v d)::p.1,p.2) else none
  | some (.ok (.fr l),ρ1)=>if (ρ1:List Sl).all aly=true then (iniD r ρ1).map fun p=>((f,.fr l)::p.1,p.2) else none
  | _=>none
def TSi(K:Fg9)(C:Addr)(fms:List (Str×M Rv)):TS:=fun D σ H=>∃tg F ρ a dx rs0 fvs0 A0 rs ρ',Good K tg F H ρ σ/\σ[0]? = some (some (.ref a))/\H a=some (.ins C dx fvs0)/\F a=none/\FdR K F H (Own ρ σ) rs0 fvs0 A0/\fvs0.length+fms.length < 1000 /\
 (∀f∈fms.map (·.1),fvs0.lookup f=none)/\(fms.map (·.1)).Nodup/\iniD fms ρ=some (rs,ρ') /\
 ∀H' F' fvs A,Good K tg F' H' ρ' σ->H' a=some (.ins C dx fvs)->F' a=none->FdR K F' H' (Own ρ' σ) (rs0++rs) fvs A->Ext (Oa ρ σ a A0) (Oa ρ' σ a A) F H F' H'->D.nx σ H'
structure SI (K:Fg9) (X:Cx) (C:Addr) (ss:List Stmt) (fms:List (Str×M Rv)):Prop where
 go:X.K=K->PSs X ss (TSi K C fms)
theorem atr{C:Addr}:SI K X C [] []:=SI.mk fun _=>PSs.imp alh fun D σ H z9=>by
 obtain⟨tg,F,ρ,a,dx,rs0,fvs0,A0,rs,ρ',G,h0,h1,h2,h3,h4,h5,h6,em,q⟩:=z9;cases em;exact q H F fvs0 A0 G h1 h2 (by rw[List.append_nil];exact h3) (Ext.refl _ _ _)
theorem Ext.oa{ρ1:Ro}{a:Addr}{A A1:List Addr}{o:HO}(x:Ext (Own ρ σ) (Own ρ1 σ) F H F1 H1)(hA:∀z∈A1,z∈A∨Own ρ σ z∨H z=none):Ext (Oa ρ σ a A) (Oa ρ1 σ a A1) F H F1 (L2.upd H1 a o) where
 sub:=x.sub
 new:=fun z u e=>(x.new z u e).imp id fun h=>h.imp id .inl
 keep:=fun z u e n=>by
  have hz:z≠a:=fun q=>n (.inr (.inl q))
  rw[bu hz];exact x.keep z u e fun q=>n (.inl q)
 own:=fun z h=>by
  rcases h with h | h | h
  ·exact(x.own z h).imp .inl id
  ·exact .inl (.inr (.inl h))
  ·rcases hA z h with q | q | q
   ·exact .inl (.inr (.inr q))
   ·exact .inl (.inl q)
   ·exact .inr q
 there:=fun z h=>by
  by_cases hz:z=a
  ·subst hz;rw[dg] at h;cases h
  ·rw[bu hz] at h;exact x.there z h
theorem ado{C:Addr}{o e:Expr}{f:Str}{p2 pos:Pos}{m:M Rv}{ss:List Stmt}{fms:List (Str×M Rv)}(hcl:Cls K C)(hna:aa1 K C f)(hv:ER K X e m)(ho:PE X o (tVar 0))(t:SI K X C ss fms)(hs:swapsWith e (some (.Attribute o f p2)) pos.line X.env=pure false:=by rfl) :
  SI K X C (.Assign [.Attribute o f p2] e pos::ss) ((f,m)::fms):=SI.mk fun hk=>by
 subst hk;refine PSs.imp (afo (at8 ho (hv.go rfl) hs) (t.go rfl)) fun D σ H z9 =>?_
 obtain⟨tg,F,ρ,a,dx,rs0,fvs0,A0,rs,ρ',G,h0,h1,h2,h3,h4,h5,h6,em,q⟩:=z9;have hlk:fvs0.lookup f=none:=h5 f (List.mem_cons_self ..);rw[List.map_cons,List.nodup_cons] at h6;have h5':∀(y:V),∀g∈fms.map (·.1),(fvs0++[(f,y)]).lookup g=none:=fun y g hg=>by
  rw[vz,h5 g (List.mem_cons_of_mem _ hg)];have e:g≠f:=fun z=>h6.1 (z▸hg)
  have hb:(g==f)=false:=beq_eq_false_iff_ne.mpr e;simp[List.lookup,hb]
 have h4':∀y:V,(fvs0++[(f,y)]).length+fms.length < 1000:=fun y=>by
  rw[List.length_append];rw[List.length_cons] at h4;simp;omega
 have stay:∀{ρ1:Ro} {F1 H1:Hp},Ext (Own ρ σ) (Own ρ1 σ) F H F1 H1->H1 a=some (.ins C dx fvs0)/\F1 a=none/\¬Own ρ1 σ a:=fun{ρ1 F1 H1} x=>by
  have no:¬Own ρ σ a:=fun z=>by
   obtain⟨_,vs,hv⟩:=G.ownAt z;rw[h1] at hv;cases hv
  refine⟨x.keep a _ h1 no,?_,fun z =>?_⟩
  ·cases z:F1 a with
   | none=>rfl
   | some u =>
    rcases x.new a u z with z | z | z
    ·rw[h2] at z;cases z
    ·rw[h1] at z;cases z
    ·exact absurd z no
  ·rcases x.own a z with z | z
   ·exact no z
   ·rw[h1] at z;cases z
 have hA0:a∉A0:=fun z=>by
  obtain⟨_,_,ws,hw,_⟩:=h3.out a z;rw[h1] at hw;cases hw
 unfold iniD at em;split at em
 ·rename_i d ρ1 e1;split at em
  ·rename_i hb;obtain⟨⟨rs1,ρ2⟩,e2,e3⟩:=Option.map_eq_some_iff.mp em;cases e3;refine⟨tg,F,ρ,.v d,ρ1,G,e1,fun y H1 F1 G1 x1 rr=>⟨_,h0,a,C,dx,fvs0,rfl,(stay x1).1,hcl,hna,by omega,?_⟩⟩
   obtain⟨s1,s2,s3⟩:=stay x1;have rr:Is X.K F1 d y:=rr;rw[afm hlk];refine⟨tg,F1,ρ1,a,dx,rs0++[(f,.v d)],fvs0++[(f,y)],A0,rs1,ρ2,G1.updN hb s2 s3 _,h0,dg,s2,((h3.step x1).snocV rr).upd hA0,h4' y,h5' y,h6.2,e2,fun H' F' fvs A G' g1 g2 g3 g4=>q H' F' fvs A G' g1 g2 (by rw[List.append_assoc] at g3;exact g3) ((Ext.oa (o:=.ins C dx (fvs0++[(f,y)])) x1 fun z hz=>.inl hz).trans g4)⟩
  ·cases em
 ·rename_i l ρ1 e1;split at em
  ·rename_i hb;obtain⟨⟨rs1,ρ2⟩,e2,e3⟩:=Option.map_eq_some_iff.mp em;cases e3;refine⟨tg,F,ρ,.fr l,ρ1,G,e1,fun y H1 F1 G1 x1 rr=>⟨_,h0,a,C,dx,fvs0,rfl,(stay x1).1,hcl,hna,by omega,?_⟩⟩
   obtain⟨s1,s2,s3⟩:=stay x1;obtain⟨b,ws,rfl,hb1,hb2,hb3,hb4,hb5⟩:=rr;have hbA:b∉A0:=fun z=>by
    obtain⟨o1,_,ws',hw,_⟩:=h3.out b z;rcases hb1 with q | q
    ·rw[hw] at q;cases q
    ·exact o1 q
   have hba:a≠b:=fun z=>by
    subst z;rw[s1] at hb3;cases hb3
   rw[afm hlk];refine⟨tg,F1,ρ1,a,dx,rs0++[(f,.fr l)],fvs0++[(f,.ref b)],A0++[b],rs1,ρ2,G1.updN hb s2 s3 _,h0,dg,s2,((h3.step x1).snocF hb2 hb5 hb3 hb4 hbA).upd (fun z=>by
    rcases List.mem_append.mp z with z | z
    ·exact hA0 z
    ·rw[List.mem_singleton] at z;exact hba z),h4' _,h5' _,h6.2,e2,fun H' F' fvs A G' g1 g2 g3 g4=>q H' F' fvs A G' g1 g2 (by rw[List.append_assoc] at g3;exact g3) ((Ext.oa (o:=.ins C dx (fvs0++[(f,.ref b)])) x1 fun z hz =>?_).trans g4)⟩
   rcases List.mem_append.mp hz with q | q
   ·exact .inl q
   ·rw[List.mem_singleton] at q;subst q;exact .inr hb1.symm
  ·cases em
 ·cases em
end
def afd(K:Fg9)(n nl:Nat)(fms:List (Str×M Rv))(C:Addr):Sp:=fun vs H Q _=>vs.length=n/\∃a dx F as rs ρ',vs[0]? = some (.ref a)/\H a=some (.ins C dx [])/\F a=none/\Good K (tgOf (vs.map some)) F H as (vs.map some)/\iniD fms (as++List.replicate (nl - n) .emp)=some (rs,ρ') /\
 ∀H' F' fvs A O',Same F' H'->H' a=some (.ins C dx fvs)->F' a=none->FdR K F' H' O' rs fvs A->Ext (fun z=>Own as (vs.map some) z∨z=a) (fun z=>O' z∨z=a∨z∈A) F H F' H'->Fin K F' H' (vs.map some) (ρ'.take n) O'->Q .non H'
theorem avy{K:Fg9}{P:Program}{w:World}{mg:Str->Option Value}{base:Heap}{x qual:Str}{st:Stmt}{f:Addr}{fd:FuncData}{N ps:List Str}{k nl np:Nat}{fms:List (Str×M Rv)}{C:Addr}(F:Fun K x qual st f fd)(S:FnScope N ps (ak st))(h1:N.length=nl)(h2:ps.length=np)
  (hnd:(fms.map (·.1)).Nodup) (hsz:fms.length < 1000)
  (body:∀(cdv:Value) (A:Around) (outer:List Env) (s:Shared) (H:Hp) (E:XK),Room k (A.deeper (envOfC qual (ak st) s.heap.objs.size f cdv))->SI K (cxOf CX0 P w K mg base N qual (ak st) f cdv A outer s H E).nox C (du st) fms) :
  FnOk P w K mg base CX0 (k+1) f fd ps (afd K np nl fms C):=by
 subst h1 h2;refine F.ok S (fun vs H Q E h=>h.1) (fun cdv A outer s H vs Q E hr h=>⟨_,(body cdv A outer s H E hr).go rfl,?_⟩)
 obtain⟨hn,a,dx,F,as,rs,ρ',h0,hH,hF,G,em,q⟩:=h;have hl:as.length=(vs.map some).length:=G.len;have G1:=G.app (N.length - vs.length);rw[<-hn] at em;have hs0:(L2.start N vs)[0]? = some (some (.ref a)):=by
  unfold L2.start;have hlt:0 < vs.length:=(List.getElem?_eq_some_iff.mp h0).1;rw[List.getElem?_append_left (by rw[List.length_map];exact hlt),List.getElem?_map,h0]
  rfl
 refine⟨_,F,_,a,dx,[],[],[],rs,ρ',G1,hs0,hH,hF,.nil,by simpa using hsz,fun _ _=>rfl,hnd,em,fun H' F' fvs A' G' g1 g2 g3 g4 =>?_⟩
 refine q H' F' fvs A' (Own ρ' (L2.start N vs)) G'.sub g1 g2 g3 ?_ ⟨fun i l e =>?_⟩
 ·have e:Oa (as++List.replicate (N.length - vs.length) .emp) (L2.start N vs) a []=fun z=>Own as (vs.map some) z∨z=a:=by
   funext z
   unfold Oa L2.start;rw[qg hl];simp
  rw[e] at g4;exact g4
 ·have hi:=(List.getElem?_eq_some_iff.mp e).1;rw[List.length_take] at hi;rw[List.getElem?_take_of_lt (by omega)] at e
  obtain⟨o,ho,b,ws,rfl,hf,hh,hl,ht⟩:=G'.at e;rw[ht i rfl];exact⟨⟨i,⟨_,_,e⟩,ho⟩,hf,ws,hh,hl⟩
def tagB:Sl->Bool
 | .own (some k) _=>decide (k < 1000)
 | .box _ _=>false
 | _=>true
section
variable{K:Fg9}{X:Cx}{tg tg1:Nat->Addr}{F H F1 H1:Hp}{ρ:Ro}{σ:L2.St}
theorem Good.retag(G:Good K tg F H ρ σ)(hb:(ρ:List Sl).all tagB=true)(h:∀k,k < 1000->tg k=tg1 k):Good K tg1 F H ρ σ where
 sub:=G.sub
 len:=G.len
 inj:=G.inj
 sl:=fun i s o e q=>by
  have z:=G.sl i s o e q;have t:=List.all_eq_true.mp hb _ (List.mem_of_getElem? e);cases s with
  | emp=>trivial
  | val _=>exact z
  | box c fs=>cases t
  | own t' l =>
   obtain⟨a,vs,e1,f,e2,h',ht⟩:=z;refine⟨a,vs,e1,f,e2,h',fun k ek =>?_⟩
   subst ek;have t:decide (k < 1000)=true:=t;rw[<-h k (of_decide_eq_true t)];exact ht k rfl
def offs(ρ:Ro):List Nat->Ro
 | []=>ρ
 | j::js=>offs (List.set ρ j .emp) js
theorem Good.offs(G:Good K tg F H ρ σ):∀{js:List Nat},Good K tg F H (Dn.offs ρ js) σ/\∀z,Own (Dn.offs ρ js) σ z->Own ρ σ z:=fun{js}=>by
 induction js generalizing ρ with
 | nil=>exact⟨G,fun _ h=>h⟩
 | cons j js ih =>
  obtain⟨g,h⟩:=ih (G.drop j);exact⟨g,fun z hz=>(abv (h z hz)).1⟩
def setG:List (Str×Rv)->List Nat->Nat->Ro->Option Ro
 | [],[],_,ρ=>some ρ
 | (_,.v _)::r,gs,n,ρ=>setG r gs n ρ
 | (_,.fr l)::r,j::gs,n,ρ=>setG r gs (n+1) (List.set ρ j (.own (some (1000+n)) l))
 | _,_,_,_=>none
def mkFs:List (Str×Rv)->Nat->List (Str×(Nat ⊕ D))
 | [],_=>[]
 | (f,.v d)::r,n=>(f,.inr d)::mkFs r n
 | (f,.fr _)::r,n=>(f,.inl (1000+n))::mkFs r (n+1)
 | (f,.tf _ _)::r,n=>(f,.inl 0)::mkFs r n
theorem aq0{O:Addr->Prop}{rs:List (Str×Rv)}{fvs:List (Str×V)}{A:List Addr}(h:FdR K F H O rs fvs A):∀{gs:List Nat} {n:Nat} {ρ ρ':Ro} {σ:L2.St},Good K tg1 F H ρ σ->(∀e∈A,¬Own ρ σ e)->(∀(m:Nat) (e:Addr),A[m]? = some e->tg1 (1000+(n+m))=e)->setG rs gs n ρ=some ρ' ->
  ∃σ',Good K tg1 F H ρ' σ'/\(∀j,j∉gs->σ'[j]? = σ[j]?)/\σ'.length=σ.length/\∀z,Own ρ' σ' z->Own ρ σ z∨z∈A:=by
 induction h with
 | nil =>
  intro gs n ρ ρ' σ G hA ht em;cases gs with
  | nil=>cases em;exact⟨σ,G,fun _ _=>rfl,rfl,fun _ h=>.inl h⟩
  | cons _ _=>cases em
 | v h t ih=>exact fun{gs n ρ ρ' σ} G hA ht em=>ih G hA ht em
 | @fr f l e ws rs fvs A hf hn hh h ne t ih =>
  intro gs n ρ ρ' σ G hA ht em;cases gs with
  | nil=>cases em
  | cons j gs =>
   have em:setG rs gs (n+1) (List.set ρ j (.own (some (1000+n)) l))=some ρ':=em;have hne:=hA e (List.mem_cons_self ..);have hte:tg1 (1000+n)=e:=ht 0 e rfl;have G1:=G.put (s:=.own (some (1000+n)) l) (v:=.ref e) j ⟨e,ws,rfl,hf,hh,h,fun k ek=>by cases ek;exact hte⟩ (fun t l' a _ ea=>by cases ea;exact hne)
   obtain⟨σ',g1,g2,g3,g4⟩:=ih G1 (fun e' he' w=>by
    rcases xu G.len w with w | ⟨_,w⟩
    ·exact hA e' (List.mem_cons_of_mem _ he') w
    ·cases w;exact ne he') (fun m e' he'=>by
    have:=ht (m+1) e' (by simpa using he')
    rw[show n+1+m=n+(m+1) by omega]
    exact this) em
   refine⟨σ',g1,fun k hk =>?_,by rw[g3,List.length_set],fun z hz =>?_⟩
   ·rw[g2 k (fun q=>hk (List.mem_cons_of_mem _ q)),List.getElem?_set,if_neg (fun q:j=k=>hk (q▸List.mem_cons_self ..))]
   ·rcases g4 z hz with w | w
    ·rcases xu G.len w with w | ⟨_,w⟩
     ·exact .inl w
     ·cases w;exact .inr (List.mem_cons_self ..)
    ·exact .inr (List.mem_cons_of_mem _ w)
theorem ar6{O:Addr->Prop}{rs:List (Str×Rv)}{fvs:List (Str×V)}{A:List Addr}(h:FdR K F H O rs fvs A):∀{n:Nat},(∀(m:Nat) (e:Addr),A[m]? = some e->tg1 (1000+(n+m))=e) ->
  (∀f,(mkFs rs n).lookup f=none->fvs.lookup f=none)/\(∀f k,(mkFs rs n).lookup f=some (.inl k)->fvs.lookup f=some (.ref (tg1 k)))/\∀f d,(mkFs rs n).lookup f=some (.inr d)->∃v,fvs.lookup f=some v/\Is K F d v:=by
 induction h with
 | nil =>
  intro n _;refine⟨fun _ _=>rfl,fun _ _ h =>?_,fun _ _ h =>?_⟩
  ·cases h
  ·cases h
 | @v g d v rs fvs A h t ih =>
  intro n ht;obtain⟨i1,i2,i3⟩:=ih (n:=n) ht;refine⟨fun f hf =>?_,fun f k hf =>?_,fun f d' hf =>?_⟩
  all_goals (unfold mkFs at hf;by_cases e:f=g)
  ·subst e;rw[List.lookup_cons_self] at hf;cases hf
  ·have hb:(f==g)=false:=beq_eq_false_iff_ne.mpr e;simp only[List.lookup,hb] at hf ⊢
   exact i1 f hf
  ·subst e;rw[List.lookup_cons_self] at hf;cases hf
  ·have hb:(f==g)=false:=beq_eq_false_iff_ne.mpr e;simp only[List.lookup,hb] at hf ⊢
   exact i2 f k hf
  ·subst e;rw[List.lookup_cons_self] at hf ⊢
   cases hf;exact⟨v,rfl,h⟩
  ·have hb:(f==g)=false:=beq_eq_false_iff_ne.mpr e;simp only[List.lookup,hb] at hf ⊢
   exact i3 f d' hf
 | @fr g l e0 ws rs fvs A hf0 hn hh h ne t ih =>
  intro n ht;have hte:tg1 (1000+n)=e0:=ht 0 e0 rfl;obtain⟨i1,i2,i3⟩:=ih (n:=n+1) (fun m e' he'=>by
   have:=ht (m+1) e' (by simpa using he')
   rw[show n+1+m=n+(m+1) by omega]
   exact this)
  refine⟨fun f hf =>?_,fun f k hf =>?_,fun f d' hf =>?_⟩
  all_goals (unfold mkFs at hf;by_cases e:f=g)
  ·subst e;rw[List.lookup_cons_self] at hf;cases hf
  ·have hb:(f==g)=false:=beq_eq_false_iff_ne.mpr e;simp only[List.lookup,hb] at hf ⊢
   exact i1 f hf
  ·subst e;rw[List.lookup_cons_self] at hf ⊢
   cases hf;rw[hte]
  ·have hb:(f==g)=false:=beq_eq_false_iff_ne.mpr e;simp only[List.lookup,hb] at hf ⊢
   exact i2 f k hf
  ·subst e;rw[List.lookup_cons_self] at hf;cases hf
  ·have hb:(f==g)=false:=beq_eq_false_iff_ne.mpr e;simp only[List.lookup,hb] at hf ⊢
   exact i3 f d' hf
end
structure DfnI (P:Program) (w:World) (K:Fg9) (mg:Str->Option Value) (base:Heap) (c:Str) (ps:List Str) (k:Nat) (sp:Addr->Sp):Prop where
 ex:∃C f fd,nsIn K mainGlobals c=some (some (.ref C))/\mg c=some (.ref C)/\Mk K C f/\FnOk P w K mg base CX0 k f fd ps (sp C)/\Binds K fd ps []
def dNew(c:Str)(i:Nat)(gs:List Nat)(n nl:Nat)(fms:List (Str×M Rv))(js:List (Option Nat))(ms:M (List (Option D)))(k:Sd):Sd:=dM ms fun ds ρ =>
 if okJs ρ (none::js)=true then match iniD fms (lend ρ (none::js) (none::ds)++List.replicate (nl - n) .emp) with
  | some (rs,ρc)=>if (putB ρ (none::js) (ρc.take n):List Sl).all tagB=true/\gs.contains i=false then match setG rs gs 0 (List.set (putB ρ (none::js) (ρc.take n)) i (.box c (mkFs rs 0))) with
   | some ρ3=>match k ρ3 with
    | some (fl,ρ4)=>if (offs ρ4 (i::gs):List Sl).all tagB=true then some (fl,offs ρ4 (i::gs)) else none
    | none=>none
   | none=>none
   else none
  | none=>none
 else none
theorem Fin.mono{K:Fg9}{F' H':Hp}{τ:L2.St}{ps:Ro}{O O':Addr->Prop}(h:Fin K F' H' τ ps O)(w:∀z,O z->O' z):Fin K F' H' τ ps O':=⟨fun i l e=>let ⟨a,b,c⟩:=h.at' i l e;⟨w _ a,b,c⟩⟩
theorem Ext.imp{O O1 O2:Addr->Prop}{F H F1 H1:Hp}(x:Ext O O1 F H F1 H1)(w:∀z,O2 z->O1 z):Ext O O2 F H F1 H1:=⟨x.sub,x.new,x.keep,fun z h=>x.own z (w z h),x.there⟩
theorem anw{K:Fg9}{r:Rv}{v:V}{H:Hp}{O:Addr->Prop}{F' H':Hp}{O1 O2:Addr->Prop}(w:∀z,O2 z->O1 z)(h:relR K r v H O F' H' O1):relR K r v H O F' H' O2:=by
 cases r with
 | v d=>exact h
 | fr l =>
  obtain⟨a,vs,e,h1,h2,h3,h4,h5⟩:=h;exact⟨a,vs,e,h1,h2,h3,h4,fun z=>h5 (w _ z)⟩
 | tf d l =>
  obtain⟨t,u,a,vs,e,h1,h2,h3,h4,h5,h6,h7⟩:=h;exact⟨t,u,a,vs,e,h1,h2,h3,h4,h5,h6,fun z=>h7 (w _ z)⟩
theorem FlOk.off{K:Fg9}{tg tg1:Nat->Addr}{ρ ρ4:Ro}{σ:L2.St}{F H:Hp}{E:Ends}{fl:Fl}{js:List Nat}(ht:∀k,k < 1000->tg1 k=tg k)(hb:(offs ρ4 js:List Sl).all tagB=true)(q:FlOk K tg ρ σ F H E fl (offs ρ4 js)):FlOk K tg1 ρ σ F H E fl ρ4:=by
 have go:∀{σ':L2.St} {H' F':Hp},Good K tg1 F' H' ρ4 σ'->Good K tg F' H' (offs ρ4 js) σ'/\∀z,Own (offs ρ4 js) σ' z->Own ρ4 σ' z:=fun G=>by
  obtain⟨g,h⟩:=G.offs (js:=js);exact⟨g.retag hb ht,h⟩
 cases fl with
 | nx=>exact fun σ' H' F' G' x'=>let ⟨g,h⟩:=go G';q σ' H' F' g (x'.imp h)
 | brk=>exact fun σ' H' F' G' x'=>let ⟨g,h⟩:=go G';q σ' H' F' g (x'.imp h)
 | cont=>exact fun σ' H' F' G' x'=>let ⟨g,h⟩:=go G';q σ' H' F' g (x'.imp h)
 | ret r=>exact fun v σ' H' F' G' x' rr=>let ⟨g,h⟩:=go G';q v σ' H' F' g (x'.imp h) (anw h rr)
 | exc _=>exact q
def ap9(s:Stmt)(n:Nat):Stmt:=match s with
 | .ClassDef _ _ _ b _ _ _ _ _ _ _=>b.getD n s
 | _=>s
def boxB(K:Fg9)(C:Addr)(fs:List Str):Bool:=PySem.W.plainGet K C Str.empty&&PySem.W.hasDictIn K C&&PySem.W.plainOver K C&&(findIn K (.ref C) "__setattr__" == some (some (.builtin "object.__setattr__")))&&PySem.W.makesIn K C&&keepIn K (.ref C)&&fs.all fun f=>findIn K (.ref C) f==some none
section
variable{K:Fg9}{C:Addr}{fs:List Str}{c f m:Str}
theorem agd(e:boxB K C fs=true):Cls K C/\PySem.W.makesIn K C=true/\keepIn K (.ref C)=true/\∀f∈fs,aa1 K C f:=by
 unfold boxB at e;simp only[Bool.and_eq_true,beq_iff_eq,List.all_eq_true] at e;obtain⟨⟨⟨⟨⟨⟨a,b⟩,c⟩,d⟩,g⟩,h⟩,i⟩:=e;exact⟨⟨a,b,c,d⟩,g,h,fun f hf=>i f hf⟩
theorem aeb(a:nsIn K mainGlobals c=some (some (.ref C)))(e:boxB K C fs=true)(h:fs.contains f=true):FldT K c f:=fun C' h'=>by
 rw[a] at h';cases h';obtain⟨x,_,_,y⟩:=agd e;exact⟨x,y f (List.contains_iff_mem.mp h)⟩
theorem as3{P:Program}{w:World}{mg:Str->Option Value}{base:Heap}{fa:Addr}{fd:FuncData}{ps:List Str}{k:Nat}{sp:Sp}(a:nsIn K mainGlobals c=some (some (.ref C)))(e:boxB K C fs=true)(b:findIn K (.ref C) m=some (some (.ref fa)))(h1:PySem.W.isFn K (.ref fa)=true)(h2:keepIn K (.ref fa)=true)
  (F:FnOk P w K mg base CX0 k fa fd ps sp) (B:Binds K fd ps []):DfnM P w K mg base c m ps k sp:=⟨C,fa,fd,a,(agd e).1,⟨b,h1,h2⟩,F,B⟩
theorem as4{P:Program}{w:World}{mg:Str->Option Value}{base:Heap}{fa:Addr}{fd:FuncData}{ps:List Str}{k:Nat}{sp:Addr->Sp}(a:nsIn K mainGlobals c=some (some (.ref C)))(g:mg c=some (.ref C))(e:boxB K C fs=true)(b:findIn K (.ref C) "__init__" = some (some (.ref fa)))(h1:PySem.W.isFn K (.ref fa)=true)
  (F:FnOk P w K mg base CX0 k fa fd ps (sp C)) (B:Binds K fd ps []):DfnI P w K mg base c ps k sp:=⟨C,fa,fd,a,g,⟨(agd e).2.1,b,h1,(agd e).2.2.1⟩,F,B⟩
end
def ghB(N:List Str)(gs:List Nat)(sc:Scope):Bool:=gs.all fun j=>match N[j]? with
 | some y=>(sc.names.lookup y).isNone
 | none=>true
theorem avr{N:List Str}{gs:List Nat}{sc:Scope}(h:ghB N gs sc=true):∀j∈gs,∀y,N[j]? = some y->¬Vis sc y:=fun j hj y hy v=>by
 have z:=List.all_eq_true.mp h j hj;rw[hy] at z;have z:sc.names.lookup y=none:=Option.isNone_iff_eq_none.mp z;rcases v with v | v | v <;> (rw[z] at v;cases v)
def noTf:Rv->Bool
 | .tf _ _=>false
 | _=>true
section
variable{K:Fg9}{X:Cx}{tg:Nat->Addr}{F H F1 H1 F2 H2:Hp}{ρ ρ1 ρ2:Ro}{σ:L2.St}{e a b:Expr}{pos:Pos}
theorem afl{O O1 O2:Addr->Prop}{r:Rv}{v:V}(ht:noTf r=true)(h:relR K r v H O F1 H1 O1)(x:Ext O1 O2 F1 H1 F2 H2):relR K r v H O F2 H2 O2:=by
 cases r with
 | v d=>exact Is.mono x.sub h
 | fr l =>
  obtain⟨c,vs,e,h1,h2,h3,h4,h5⟩:=h;refine⟨c,vs,e,h1,?_,x.keep c _ h3 h5,h4.mono x.sub,fun z =>?_⟩
  ·cases z:F2 c with
   | none=>rfl
   | some o =>
    rcases x.new c o z with z | z | z
    ·rw[h2] at z;cases z
    ·rw[h3] at z;cases z
    ·exact absurd z h5
  ·rcases x.own c z with z | z
   ·exact h5 z
   ·rw[h3] at z;cases z
 | tf d l=>cases ht
theorem Good.store2{F0 H0:Hp}{O:Addr->Prop}(G:Good K tg F H ρ σ)(x:Ext O (Own ρ σ) F0 H0 F H){r1 r2:Rv}{v1 v2:V}(i j:Nat)(h1:relR K r1 v1 H0 O F H (Own ρ σ))(h2:relR K r2 v2 H0 O F H (Own ρ σ))(ht1:noTf r1=true)(ht2:noTf r2=true)
  (hd:∀l1 l2 c,r1=.fr l1->r2=.fr l2->v1=.ref c->v2≠.ref c) :
  Good K tg F H (List.set (List.set ρ i r1.sl) j r2.sl) (List.set (List.set σ i (some v1)) j (some v2))/\Ext O (Own (List.set (List.set ρ i r1.sl) j r2.sl) (List.set (List.set σ i (some v1)) j (some v2))) F0 H0 F H:=by
 obtain⟨G1,x1⟩:=G.store x i h1;refine G1.store x1 j ?_;cases r2 with
 | v d=>exact h2
 | fr l =>
  obtain⟨c,vs,e,k1,k2,k3,k4,k5⟩:=h2;refine⟨c,vs,e,k1,k2,k3,k4,fun w =>?_⟩
  rcases xu G.len w with w | ⟨⟨t,l',w1⟩,w2⟩
  ·exact k5 w
  ·cases r1 with
   | v d=>cases w1
   | fr l1=>exact hd l1 l c rfl rfl w2 e
   | tf d l1=>cases ht1
 | tf d l=>cases ht2
theorem two_rel{r1 r2:Rv}{v1 v2:V}(ht1:noTf r1=true)(x1:Ext (Own ρ σ) (Own ρ1 σ) F H F1 H1)(rr1:relR K r1 v1 H (Own ρ σ) F1 H1 (Own ρ1 σ))(x2:Ext (Own ρ1 σ) (Own ρ2 σ) F1 H1 F2 H2)(rr2:relR K r2 v2 H1 (Own ρ1 σ) F2 H2 (Own ρ2 σ)) :
  relR K r1 v1 H (Own ρ σ) F2 H2 (Own ρ2 σ)/\relR K r2 v2 H (Own ρ σ) F2 H2 (Own ρ2 σ)/\∀l1 l2 c,r1=.fr l1->r2=.fr l2->v1=.ref c->v2≠.ref c:=by
 refine⟨afl ht1 rr1 x2,qj x1 rr2,fun l1 l2 c e1 e2 e3 e4 =>?_⟩
 subst e1 e2;obtain⟨c1,vs1,q1,a1,a2,a3,a4,a5⟩:=rr1;obtain⟨c2,vs2,q2,b1,b2,b3,b4,b5⟩:=rr2;rw[q1] at e3;rw[q2] at e4;cases e3;cases e4;rcases b1 with z | z
 ·rw[a3] at z;cases z
 ·exact a5 z
end
def cxE(X:Cx)(ps:List (Addr×Obj))(R:Value->Shared->Prop):Cx:={ X with pn:=X.pn++ps,xe:=R }
section
variable{K:Fg9}{X:Cx}{ps zv:List (Addr×Obj)}{R:Value->Shared->Prop}{σ:L2.St}{H:Hp}{s:Shared}
theorem Inv.toE(I:Inv X (ps++zv) σ H s):Inv (cxE X ps R) zv σ H s :=
 ⟨⟨I.ok.mod,I.ok.kind,I.ok.glob,I.ok.blt,I.ok.above,I.ok.inj,I.ok.has,I.ok.cab,I.ok.hd,I.ok.frames,I.ok.stk,I.ok.exf,I.ok.bs,I.ok.bsz,I.ok.noex,I.ok.exfs,I.ok.funs,I.ok.frf⟩,I.os,I.bare,I.base,I.loc,I.cell,I.free,I.freeC,fun p hp=>I.pin p (by rw[<-List.append_assoc];exact hp),I.hok,I.len⟩
theorem Inv.ofE(I:Inv (cxE X ps R) zv σ H s):Inv X (ps++zv) σ H s :=
 ⟨⟨I.ok.mod,I.ok.kind,I.ok.glob,I.ok.blt,I.ok.above,I.ok.inj,I.ok.has,I.ok.cab,I.ok.hd,I.ok.frames,I.ok.stk,I.ok.exf,I.ok.bs,I.ok.bsz,I.ok.noex,I.ok.exfs,I.ok.funs,I.ok.frf⟩,I.os,I.bare,I.base,I.loc,I.cell,I.free,I.freeC,fun p hp=>I.pin p (by show p∈(X.pn++ps)++zv;rw[List.append_assoc];exact hp),I.hok,I.len⟩
theorem RX.unpin{tg:Nat->Addr}{ρ ρ':Ro}{F:Hp}{x:Exn}{e:Value}{s':Shared}(h:RX K X (ps++zv) tg ρ σ F H x ρ' e s'):RX K X ps tg ρ σ F H x ρ' e s':=by
 obtain⟨σ',H',F',I,G,y,a,C,dx,ch,ea,hc,hf,fly,hch⟩:=h;refine⟨σ',H',F',I.unpinned,G,y,a,C,dx,ch,ea,hc,hf,fly,fun b hb =>?_⟩
 obtain⟨h1,h2,h3,h4,h5,h6⟩:=hch b hb;refine⟨h1,h2,h3,h4,h5,fun p hp=>h6 p ?_⟩
 rcases List.mem_append.mp hp with z | z
 ·exact List.mem_append_left _ z
 ·exact List.mem_append_right _ (List.mem_append_left _ z)
theorem ald{tg:Nat->Addr}{ρ ρ':Ro}{F:Hp}{x:Exn}(hfr:X.env.frame=some X.env.locals)(hst:X.stack=X.env::X.outer):PassesOwn (model X.prog X.w) X.A X.env (RX K X zv tg ρ σ F H x ρ'):=fun e s' z9=>by
 obtain⟨σ1,H1,F1,I1,G1,x1,a,C,dx,ch,ea,hc,hf,fly,hch⟩:=z9;subst ea;have hl1:=I1.stack;rw[hst] at hl1;unfold notedBy;refine arz (by rw[<-hst];exact I1.ok.frames) hl1 hfr fly fun h' T oT ts oe vs hT kb e1 e2 e3 e4 e5 e6 e7 e8 e9 e10 =>?_
 rw[<-hst] at kb;have I2:=Inv.records I1 kb hch;have hsz3:3 < ts.size:=(Array.getElem?_eq_some_iff.mp e10).1;have fin:RX K X zv tg ρ σ F H x ρ' (.ref a) { s' with heap:=h' }:=by
  refine⟨σ1,H1,F1,I2,G1,x1,a,C,dx,[a,T],rfl,hc,hf,⟨oe,vs,e1,e2,e3,e4,e5,.inr ⟨T,oT,ts,_,rfl,e6,e7,e8,e9,e10,.inr rfl⟩⟩,fun b hb =>?_⟩
  have hb':b=a∨b=T:=by simpa using hb
  rcases hb' with rfl | rfl
  ·exact hch _ fly.fresh
  ·rcases hT with z | z
   ·exact hch _ z
   ·exact Inv.fpX I1 (Heap.get?_none_of_le z) (I1.hok.fresh z)
 have same:h'.update T (Obj.mapFields (·.setIfInBounds 3 (rawInt X.env.locals)))=h':=Heap.update_setField_same h' T oT ts 3 (rawInt X.env.locals) e8 e9 e10;have step:wpAny (model X.prog X.w) X.A (setFlight (.ref a) X.env.frame) (fun _ s''=>RX K X zv tg ρ σ F H x ρ' (.ref a) s'') (RX K X zv tg ρ σ F H x ρ') { s' with heap:=h' }:=by
  rw[hfr];unfold setFlight;refine wpAny_bind (wpAny_field e1 e4 e6 ?_);rw[if_pos (show(Value.ref T != Value.none)=true from by simp)]
  show wpAny (model X.prog X.w) X.A (setField (.ref T) 3 (rawInt X.env.locals)) _ _ _;refine wpAny_setField e8 e9 hsz3 ?_;show RX K X zv tg ρ σ F H x ρ' (.ref a) { s' with heap:=h'.update T (Obj.mapFields (·.setIfInBounds 3 (rawInt X.env.locals))) }
  rw[same];exact fin
 unfold cameBackBy;refine wpAny_bind (wpAny_field e1 e4 e6 ?_);rw[if_neg (show ¬((Value.ref T==Value.none)=true) from by simp)]
 first
  | exact wpAny_bind (wpAny_pure step)
  | exact step
end
section
variable{K:Fg9}{X:Cx}{tgt iter:Expr}{ss:List Stmt}{pos:Pos}
theorem IT.s{m:M (List D)}(h:IT K X tgt iter m):IT K X tgt iter (okS m):=IT.mk fun hk zv s σ H R I ⟨tg,F,ρ,l,ρ',G,em,q⟩=>h.go hk zv s σ H R I ⟨tg,F,ρ,l,ρ',G,(aex em).1,q⟩
def TSx(K:Fg9)(tg:Nat->Addr)(g:Sd)(ρ:Ro)(σ:L2.St)(F H:Hp)(x:Exn)(ρ':Ro):TS:=fun E σ3 H3=>∃F3 ρ3 fl ρ4,Good K tg F3 H3 ρ3 σ3/\g ρ3=some (fl,ρ4)/\((fl=.exc x/\ρ4=ρ'/\Ext (Own ρ σ) (Own ρ3 σ3) F H F3 H3)∨FlOk K tg ρ3 σ3 F3 H3 E fl ρ4)
theorem atg{m:M (List D)}{b:D->Ro->Option Ro}{g:Sd}(hfr:X.env.frame=some X.env.locals)(hst:X.stack=X.env::X.outer)(hc:X.calm=true)(hi:IT K X tgt iter m)(hm:NoX m)(hg:GV K X tgt b)(hb:SVs K X ss g)(hx:XSs K X ss g)
  (hs:∀x,foldedSetIterable iter X.env x=pure x:=by intro _;rfl):XS K X (.For tgt iter ss [] pos) (dFor m b g):=⟨fun hk hn zv s σ H tg F ρ x ρ' I G em=>by
 rcases ahg (lg.mp em) with em | ⟨l,ρ1,e1,em⟩
 ·exact absurd em (hm _ _ _)
 have no:∀{e:Value} {s':Shared},X.xe e s'->False:=fun z=>by rw[hn] at z;exact z
 have pi':PI (cxE X zv (RX K X zv tg ρ σ F H x ρ')) tgt iter (TIt K m):=fun q s0 σ0 H0 R I0 h0 =>
  wpAny_mono (hi hk (zv++q) s0 σ0 H0 R (Inv.ofE I0) h0) (fun v s1 h1=>wpAny_mono h1 (fun itv s2 ⟨it,fp,tn,J,H2,ea,I2,T,st2,f2,r⟩=>⟨it,fp,tn,J,H2,ea,(Inv.toE I2),T,st2,fun b hb=>by
   obtain⟨z1,z2,z3,z4,z5,z6⟩:=f2 b hb;exact⟨z1,z2,z3,z4,z5,fun p hp=>z6 p (by rw[<-List.append_assoc];exact hp)⟩,r⟩) fun _ _ z=>(no z).elim) fun _ _ z=>(no z).elim
 have pg':PG (cxE X zv (RX K X zv tg ρ σ F H x ρ')) tgt (TGd K b):=fun q s0 σ0 H0 v u Q I0 r h0 =>
  wpAny_mono (hg hk (zv++q) s0 σ0 H0 v u Q (Inv.ofE I0) r h0) (fun _ s1 ⟨σ1,H1,I1,z⟩=>⟨σ1,H1,(Inv.toE I1),z⟩) fun _ _ z=>(no z).elim
 have pb':PSs (cxE X zv (RX K X zv tg ρ σ F H x ρ')) ss (TSx K tg g ρ σ F H x ρ'):=fun q s3 σ3 H3 E I3 z9=>by
  obtain⟨F3,ρ3,fl,ρ4,G3,e3,q3⟩:=z9;rcases q3 with⟨rfl,rfl,x3⟩ | q3
  ·exact wpAny_mono (hx.go hk hn (zv++q) s3 σ3 H3 tg F3 ρ3 x _ (Inv.ofE I3) G3 (lg.mpr e3)) (fun _ _ z=>z.elim) fun _ _ z=>(RX.unpin z).back x3
  ·refine wpAny_mono (hb.go hk (zv++q) s3 σ3 H3 E (Inv.ofE I3) ⟨tg,F3,ρ3,fl,ρ4,G3,e3,q3⟩) (fun f s4 z =>?_) fun _ _ z=>(no z).elim
   cases f with
   | next=>obtain⟨σ5,H5,I5,z⟩:=z;exact⟨σ5,H5,(Inv.toE I5),z⟩
   | brk=>obtain⟨σ5,H5,I5,z⟩:=z;exact⟨σ5,H5,(Inv.toE I5),z⟩
   | cont=>obtain⟨σ5,H5,I5,z⟩:=z;exact⟨σ5,H5,(Inv.toE I5),z⟩
   | ret u=>obtain⟨v,σ5,H5,I5,r,z⟩:=z;exact⟨v,σ5,H5,(Inv.toE I5),r,z⟩
 have I0:Inv X (zv++[]) σ H s:=by rw[List.append_nil];exact I
 refine wpAny_mono (aps (X:=cxE X zv (RX K X zv tg ρ σ F H x ρ')) (ald hfr hst) hc pi' pg' pb' hs [] s σ H { nx:=fun _ _=>False,rt:=fun _ _=>False } (Inv.toE I0) ?_) (fun f s1 z =>?_) fun _ _ z=>z
 ·refine⟨tg,F,ρ,l,ρ1,G,e1,fun J H1 F1 G1 x1 Z =>?_⟩
  refine aml (g:=TGd K b) (tb:=TSx K tg g ρ σ F H x ρ') (D':={ nx:=fun _ _=>False,rt:=fun _ _=>False }) Z (fun i σ2 H2=>∃F2 ρ2,Good K tg F2 H2 ρ2 σ2/\Ext (Own ρ σ) (Own ρ2 σ2) F H F2 H2/\Same F1 F2/\forD b g (l.drop i) ρ2=some (.exc x,ρ')) ⟨F1,ρ1,G1,x1,Same.refl _,em⟩ (fun i σ2 H2 _ ⟨F2,ρ2,G2,_,s2,_⟩=>s2.trans G2.sub) ?_ ?_
  ·rintro i d xv σ2 H2' H2 hd ⟨F2',ρ2,G2',x2',s2',em2⟩ al
   obtain⟨F2,G2,x2,s2,id,_⟩:=age G2' x2' s2' al;have hlt:i < l.length:=(List.getElem?_eq_some_iff.mp hd).1;have ed:l[i]=d:=(List.getElem?_eq_some_iff.mp hd).2;rw[List.drop_eq_getElem_cons hlt,ed] at em2;unfold forD at em2;split at em2
   ·cases em2
   ·rename_i ρ3 e3;refine⟨tg,F2,ρ2,d,ρ3,G2,id,e3,fun σ3 H3 F3 G3 x3 =>?_⟩
    split at em2
    ·rename_i ρ4 e4;exact⟨F3,ρ3,.nx,ρ4,G3,e4,.inr fun σ' H' F' G' x'=>⟨F',ρ4,G',(x2.trans x3).trans x',(s2.trans x3.sub).trans x'.sub,em2⟩⟩
    ·rename_i ρ4 e4;exact⟨F3,ρ3,.cont,ρ4,G3,e4,.inr fun σ' H' F' G' x'=>⟨F',ρ4,G',(x2.trans x3).trans x',(s2.trans x3.sub).trans x'.sub,em2⟩⟩
    ·cases em2
    ·cases em2
    ·rename_i y ρ4 e4;cases em2;exact⟨F3,ρ3,.exc _,_,G3,e4,.inl ⟨rfl,rfl,x2.trans x3⟩⟩
    ·cases em2
  ·rintro σ2 H2 ⟨F2,ρ2,G2,x2,s2,em2⟩
   rw[List.drop_eq_nil_of_le (Nat.le_refl _)] at em2;cases em2
 ·cases f with
  | next=>obtain⟨_,_,_,z⟩:=z;exact z.elim
  | brk=>obtain⟨_,_,_,z⟩:=z;exact z.elim
  | cont=>obtain⟨_,_,_,z⟩:=z;exact z.elim
  | ret u=>obtain⟨_,_,_,_,_,z⟩:=z;exact z.elim⟩
end
def TNew(K:Fg9)(X:Cx)(c:Str)(i:Nat)(gs:List Nat)(n nl:Nat)(fms:List (Str×M Rv))(js:List (Option Nat))(ms:M (List (Option D))):TS:=fun E σ H=>∃tg F ρ ds ρ1 rs ρc ρ3,Good K tg F H ρ σ/\ms ρ=some (.ok ds,ρ1)/\okJs ρ1 (none::js)=true/\iniD fms (lend ρ1 (none::js) (none::ds)++List.replicate (nl - n) .emp)=some (rs,ρc)/\((putB ρ1 (none::js) (ρc.take n):List Sl).all tagB=true/\gs.contains i=false)/\setG rs gs 0 (List.set (putB ρ1 (none::js) (ρc.take n)) i (.box c (mkFs rs 0)))=some ρ3 /\
 ∀(σ1:L2.St) (H1:Hp) (σ2:L2.St) (tg1:Nat->Addr) (F1:Hp),GH X σ1 σ2->Good K tg1 F1 H1 ρ3 σ2->(∀m,m < 1000->tg1 m=tg m)->Ext (Own ρ σ) (Own ρ3 σ2) F H F1 H1->E.nx σ1 H1
section
variable{K:Fg9}{X:Cx}{e:Expr}{es:List Expr}{ss:List Stmt}{p p2 pos pos2:Pos}{x c:Str}{i kk n nl:Nat}{gs:List Nat}{fms:List (Str×M Rv)}{ps:List Str}{js:List (Option Nat)}{ms:M (List (Option D))}{k:Sd}
theorem apr
  (D:DfnI X.prog X.w X.K X.mg X.base c ps kk (afd K n nl fms)) (hr:Room (kk+1) X.A) (hgl:Gl X c) (hN:X.N.Nodup) (hi:X.N[i]? = some x) (hx:Loc X.env.scope x) (ha:EG K X (e::es) js ms) 
  (hgh:∀j∈gs,∀y,X.N[j]? = some y->¬Vis X.env.scope y) (hn:1+js.length=n:=by rfl)
  (hdb:(c==("__debug__" : Str))=false:=by decide) (he:starEach (e::es) X.env=(false,eval e X.env)::starEach es X.env:=by rfl) (hpl:(backTo pos (starEach es X.env)).any (·.1)=false:=by rfl)
  (hs:swapsWith (.Call (.Name c p2) (e::es) [] pos) (some (.Name x p)) pos2.line X.env=pure false:=by rfl) (hf:X.fn x=true∨X.env.scope.names.lookup x=some .local:=by first | exact .inl rfl | exact .inr rfl | assumption) (hk:X.K=K) :
  PS X (.Assign [.Name x p] (.Call (.Name c p2) (e::es) [] pos) pos2) (TNew K X c i gs n nl fms js ms):=by
 obtain⟨C,fa,fd,hC,hmg,hM,hF,hB⟩:=D.ex;subst hk;refine PS.imp (apq hN hi hx (arf hM hF hr hgl hmg hB .nil arn (ha rfl) hdb he hpl) hs hf) fun E σ H z9 =>?_
 obtain⟨tg,F,ρ,ds,ρ1,rs,ρc,ρ3,G,e1,hj,e2,⟨hb,hgi⟩,e3,q⟩:=z9;refine⟨tg,F,ρ,ds,ρ1,G,e1,fun vs H1 F1 G1 x1 ar x0 dx hx0 hdx hne =>?_⟩
 have vl:=ar.length;have L:Lent X.K F1 σ ((V.ref x0::vs).map some) (none::js) (none::ds):=by
  have:=al4 (a:=x0) (gs:=[]) (gv:=[]) ar rfl (fun n j v h=>by simp at h)
  simpa using this
 have hx1:(upd H1 dx (.own x0)) x0=none:=by rw[bu (Ne.symm hne)];exact hx0
 have G2:=(G1.fresh hdx (.own x0)).fresh hx1 (.ins C dx []);have Gl:=uq G2 hj L;show afd X.K n nl fms C (V.ref x0::(vs++[])) _ _ E0;rw[List.append_nil];refine⟨by rw[List.length_cons,vl];omega,x0,dx,F1,_,rs,ρc,rfl,dg,G1.freeF hx0,Gl,e2,fun H' F' fvs A O' s' g1 g2 g3 g4 fin=>⟨rfl,?_⟩⟩
 have y:Ext (Own (lend ρ1 (none::js) (none::ds)) ((V.ref x0::vs).map some)) (fun z=>O' z∨z=x0∨z∈A) F1 H1 F' H':=by
  have up:∀z o,H1 z=some o->(upd (upd H1 dx (.own x0)) x0 (.ins C dx [])) z=some o:=fun z o hz=>by
   rw[bu (gr hz hx0),bu (gr hz hdx)];exact hz
  have dn:∀z,(upd (upd H1 dx (.own x0)) x0 (.ins C dx [])) z=none->H1 z=none:=fun z hz=>by
   cases q:H1 z with
   | none=>rfl
   | some o=>rw[up z o q] at hz;cases hz
  refine⟨g4.sub,fun z o hz =>?_,fun z o hz nz =>?_,fun z hz =>?_,fun z hz=>dn z (g4.there z hz)⟩
  ·rcases g4.new z o hz with w | w | w | w
   ·exact .inl w
   ·exact .inr (.inl (dn z w))
   ·exact .inr (.inr w)
   ·subst w;rw[g2] at hz;cases hz
  ·exact g4.keep z o (up z o hz) fun w=>w.elim nz fun w=>by subst w;rw[hx0] at hz;cases hz
  ·rcases g4.own z hz with(w | w) | w
   ·exact .inl w
   ·subst w;exact .inr hx0
   ·exact .inr (dn z w)
 have fin':=fin.mono (O':=fun z=>O' z∨z=x0∨z∈A) fun z hz=>.inl hz
 have Gb:=xg G1 L y s' fin';have xb:=aat (ps:=ρc.take n) G1 L y;have hA:∀z∈A,¬Own (putB ρ1 (none::js) (ρc.take n)) σ z/\(Own ρ1 σ z∨H1 z=none):=fun z hz=>by
  obtain⟨o1,o2,ws,o3,l,o4⟩:=g3.out z hz;have w:=y.own z (.inr (.inr hz));have rr:relR X.K (.fr l) (.ref z) H1 (Own (lend ρ1 (none::js) (none::ds)) ((V.ref x0::vs).map some)) F' H' O':=⟨z,ws,rfl,w.symm,o2,o3,o4,o1⟩;obtain⟨a,vs',e',h1,h2,h3,h4,h5⟩:=adh (ps:=ρc.take n) G1 L fin rr;cases e';exact⟨h5,h1.symm⟩
 have hx9:¬Own (putB ρ1 (none::js) (ρc.take n)) σ x0:=fun z=>by
  obtain⟨j,z⟩:=z;obtain⟨_,ws,hw⟩:=G1.ownAt ⟨j,aas z⟩;rw[hx0] at hw;cases hw
 have htg:∀m',m' < 1000->tg m'=(fun m=>if m < 1000 then tg m else A.getD (m - 1000) 0) m':=fun m' hm=>by simp[hm]
 have hnm:∀(m:Nat) (e':Addr),A[m]? = some e'->(fun m=>if m < 1000 then tg m else A.getD (m - 1000) 0) (1000+(0+m))=e':=fun m e' he'=>by
  show(if 1000+(0+m) < 1000 then tg (1000+(0+m)) else A.getD (1000+(0+m) - 1000) 0)=e'
  rw[if_neg (by omega),show 1000+(0+m) - 1000=m by omega,List.getD_eq_getElem?_getD,he']
  rfl
 have Gt:=Gb.retag (tg1:=fun m=>if m < 1000 then tg m else A.getD (m - 1000) 0) hb htg
 obtain⟨k1,k2,k3⟩:=ar6 (tg1:=fun m=>if m < 1000 then tg m else A.getD (m - 1000) 0) (n:=0) g3 hnm
 have Gi:=Gt.put (s:=.box c (mkFs rs 0)) (v:=.ref x0) i ⟨x0,C,dx,fvs,rfl,g2,g1,hC,k1,k2,k3⟩ (fun t l a z=>by cases z)
 have ob:∀z,Own (List.set (putB ρ1 (none::js) (ρc.take n)) i (.box c (mkFs rs 0))) (List.set σ i (some (V.ref x0))) z->Own (putB ρ1 (none::js) (ρc.take n)) σ z:=fun z hz=>by
  rcases xu Gb.len hz with w | ⟨⟨t,l,w⟩,_⟩
  ·exact w
  ·cases w
 obtain⟨σ2,Gf,s1,s2,s3⟩:=aq0 (n:=0) g3 Gi (fun z hz w=>(hA z hz).1 (ob z w)) hnm e3
 refine q _ _ σ2 _ F' ⟨s2,fun j yy v hj' hv vis =>?_⟩ Gf (fun m hm=>(htg m hm).symm) ?_
 ·by_cases hg:j∈gs
  ·exact absurd vis (hgh j hg yy hj')
  ·rw[<-s1 j hg];exact hv
 ·have xx:=x1.trans xb;refine⟨xx.sub,xx.new,xx.keep,fun z hz =>?_,xx.there⟩
  rcases s3 z hz with w | w
  ·exact xx.own z (ob z w)
  ·rcases(hA z w).2 with w | w
   ·exact x1.own z w
   ·exact .inr (x1.there z w)
theorem alz{ds:List (Option D)}{ρ1 ρ':Ro}{fl:Fl}
  (em:(if okJs ρ1 (none::js)=true then match iniD fms (lend ρ1 (none::js) (none::ds)++List.replicate (nl - n) .emp) with
  | some (rs,ρc)=>if (putB ρ1 (none::js) (ρc.take n):List Sl).all tagB=true/\gs.contains i=false then match setG rs gs 0 (List.set (putB ρ1 (none::js) (ρc.take n)) i (.box c (mkFs rs 0))) with
   | some ρ3=>match k ρ3 with
    | some (fl,ρ4)=>if (offs ρ4 (i::gs):List Sl).all tagB=true then some (fl,offs ρ4 (i::gs)) else none
    | none=>none
   | none=>none
   else none
  | none=>none
 else none)=some (fl,ρ')):∃rs ρc ρ3 ρ4,okJs ρ1 (none::js)=true/\iniD fms (lend ρ1 (none::js) (none::ds)++List.replicate (nl - n) .emp)=some (rs,ρc)/\((putB ρ1 (none::js) (ρc.take n):List Sl).all tagB=true/\gs.contains i=false)/\setG rs gs 0 (List.set (putB ρ1 (none::js) (ρc.take n)) i (.box c (mkFs rs 0)))=some ρ3/\k ρ3=some (fl,ρ4)/\(offs ρ4 (i::gs):List Sl).all tagB=true/\ρ'=offs ρ4 (i::gs):=by
 split at em
 ·rename_i hj;split at em
  ·rename_i rs ρc e2;split at em
   ·rename_i hz;split at em
    ·rename_i ρ3 e3;split at em
     ·rename_i fl' ρ4 e4;split at em
      ·rename_i hb4;cases em;exact⟨rs,ρc,ρ3,ρ4,hj,e2,hz,e3,e4,hb4,rfl⟩
      ·cases em
     ·cases em
    ·cases em
   ·cases em
  ·cases em
 ·cases em
theorem anp
  (D:DfnI X.prog X.w X.K X.mg X.base c ps kk (afd K n nl fms)) (hr:Room (kk+1) X.A) (hgl:Gl X c) (hN:X.N.Nodup) (hi:X.N[i]? = some x) (hx:Loc X.env.scope x) (ha:EG K X (e::es) js ms) (t:SVs K X ss k)
  (hgh:∀j∈gs,∀y,X.N[j]? = some y->¬Vis X.env.scope y) (hn:1+js.length=n:=by rfl)
  (hdb:(c==("__debug__" : Str))=false:=by decide) (he:starEach (e::es) X.env=(false,eval e X.env)::starEach es X.env:=by rfl) (hpl:(backTo pos (starEach es X.env)).any (·.1)=false:=by rfl)
  (hs:swapsWith (.Call (.Name c p2) (e::es) [] pos) (some (.Name x p)) pos2.line X.env=pure false:=by rfl) (hf:X.fn x=true∨X.env.scope.names.lookup x=some .local:=by first | exact .inl rfl | exact .inr rfl | assumption) :
  SVs K X (.Assign [.Name x p] (.Call (.Name c p2) (e::es) [] pos) pos2::ss) (dNew c i gs n nl fms js ms k):=SVs.mk fun hk =>
 PSs.imp (afo (apr D hr hgl hN hi hx ha hgh hn hdb he hpl hs hf hk) (apo (t hk))) fun E σ H ⟨tg,F,ρ,fl,ρ',G,em,q⟩=>j8 em q fun ds ρ1 e1 em=>by
  obtain⟨rs,ρc,ρ3,ρ4,hj,e2,hz,e3,e4,hb4,rfl⟩:=alz em;exact⟨tg,F,ρ,ds,ρ1,rs,ρc,ρ3,G,e1,hj,e2,hz,e3,fun σ1 H1 σ2 tg1 F1 g Gf ht xx=>⟨σ2,g,tg1,F1,ρ3,fl,ρ4,Gf,e4,FlOk.off ht hb4 (FlOk.back xx q)⟩⟩
theorem aqf
  (D:DfnI X.prog X.w X.K X.mg X.base c ps kk (afd K n nl fms)) (hr:Room (kk+1) X.A) (hgl:Gl X c) (hN:X.N.Nodup) (hi:X.N[i]? = some x) (hx:Loc X.env.scope x) (ha:EG K X (e::es) js ms) (hm:NoX ms) (t:XSs K X ss k)
  (hgh:∀j∈gs,∀y,X.N[j]? = some y->¬Vis X.env.scope y) (hn:1+js.length=n:=by rfl)
  (hdb:(c==("__debug__" : Str))=false:=by decide) (he:starEach (e::es) X.env=(false,eval e X.env)::starEach es X.env:=by rfl) (hpl:(backTo pos (starEach es X.env)).any (·.1)=false:=by rfl)
  (hs:swapsWith (.Call (.Name c p2) (e::es) [] pos) (some (.Name x p)) pos2.line X.env=pure false:=by rfl) (hf:X.fn x=true∨X.env.scope.names.lookup x=some .local:=by first | exact .inl rfl | exact .inr rfl | assumption) :
  XSs K X (.Assign [.Name x p] (.Call (.Name c p2) (e::es) [] pos) pos2::ss) (dNew c i gs n nl fms js ms k):=⟨fun hk hno zv s σ H tg F ρ y ρ' I G em=>by
 rcases ahg (lg.mp em) with em | ⟨ds,ρ1,e1,em⟩
 ·exact absurd em (hm _ _ _)
 ·obtain⟨rs,ρc,ρ3,ρ4,hj,e2,hz,e3,e4,hb4,rfl⟩:=alz em;refine wpAny_execs_cons (wpAny_mono (apr D hr hgl hN hi hx ha hgh hn hdb he hpl hs hf hk zv s σ H { nx:=fun σ1 H1=>∃σ2 tg1 F1,GH X σ1 σ2/\Good K tg1 F1 H1 ρ3 σ2/\(∀m,m < 1000->tg1 m=tg m)/\Ext (Own ρ σ) (Own ρ3 σ2) F H F1 H1,rt:=fun _ _=>False } I ⟨tg,F,ρ,ds,ρ1,rs,ρc,ρ3,G,e1,hj,e2,hz,e3,fun σ1 H1 σ2 tg1 F1 g Gf ht xx=>⟨σ2,tg1,F1,g,Gf,ht,xx⟩⟩) (fun f s1 q =>?_) fun e s1 q=>by rw[hno] at q;exact q.elim)
  cases f with
  | next =>
   obtain⟨σ1,H1,I1,σ2,tg1,F1,g,Gf,ht,xx⟩:=q;refine wpAny_mono (t.go hk hno zv s1 σ2 H1 tg1 F1 ρ3 y ρ4 (I1.gh g.1 g.2) Gf (lg.mpr e4)) (fun _ _ z=>z.elim) fun _ _ z9 =>?_
   obtain⟨σ',H',F',I',G',yy,fly⟩:=z9;obtain⟨g2,o2⟩:=G'.offs (js:=i::gs);exact⟨σ',H',F',I',g2.retag hb4 ht,(xx.trans yy).imp o2,fly⟩
  | ret v=>obtain⟨_,_,_,_,_,z⟩:=q;exact z.elim
  | brk=>obtain⟨_,_,_,z⟩:=q;exact z.elim
  | cont=>obtain⟨_,_,_,z⟩:=q;exact z.elim⟩
end
def amw(i j k:Nat)(m1 m2 m3:M Rv):Sd:=dM m1 fun r1=>dM m2 fun r2=>dM m3 fun r3 ρ=>if noTf r1=true/\noTf r2=true/\noTf r3=true then some (.nx,List.set (List.set (List.set ρ i r1.sl) j r2.sl) k r3.sl) else none
section
variable{K:Fg9}{X:Cx}{tg:Nat->Addr}{F H:Hp}{ρ:Ro}{σ:L2.St}{a b c:Expr}{pos:Pos}
theorem Good.store3{F0 H0:Hp}{O:Addr->Prop}(G:Good K tg F H ρ σ)(x:Ext O (Own ρ σ) F0 H0 F H){r1 r2 r3:Rv}{v1 v2 v3:V}(i j k:Nat)(h1:relR K r1 v1 H0 O F H (Own ρ σ))(h2:relR K r2 v2 H0 O F H (Own ρ σ))(h3:relR K r3 v3 H0 O F H (Own ρ σ))(ht1:noTf r1=true)(ht2:noTf r2=true)(ht3:noTf r3=true)
  (hd:∀l1 l2 c,r1=.fr l1->r2=.fr l2->v1=.ref c->v2≠.ref c) (hd1:∀l1 l2 c,r1=.fr l1->r3=.fr l2->v1=.ref c->v3≠.ref c) (hd2:∀l1 l2 c,r2=.fr l1->r3=.fr l2->v2=.ref c->v3≠.ref c) :
  Good K tg F H (List.set (List.set (List.set ρ i r1.sl) j r2.sl) k r3.sl) (List.set (List.set (List.set σ i (some v1)) j (some v2)) k (some v3))/\Ext O (Own (List.set (List.set (List.set ρ i r1.sl) j r2.sl) k r3.sl) (List.set (List.set (List.set σ i (some v1)) j (some v2)) k (some v3))) F0 H0 F H:=by
 obtain⟨G1,x1⟩:=G.store2 x i j h1 h2 ht1 ht2 hd;refine G1.store x1 k ?_;cases r3 with
 | v d=>exact h3
 | fr l =>
  obtain⟨c,vs,e,k1,k2,k3,k4,k5⟩:=h3;refine⟨c,vs,e,k1,k2,k3,k4,fun w =>?_⟩
  rcases xu (by rw[List.length_set,List.length_set];exact G.len) w with w | ⟨⟨t,l',w1⟩,w2⟩
  ·rcases xu G.len w with w | ⟨⟨t,l',w1⟩,w2⟩
   ·exact k5 w
   ·cases r1 with
    | v d=>cases w1
    | fr l1=>exact hd1 l1 l c rfl rfl w2 e
    | tf d l1=>cases ht1
  ·cases r2 with
   | v d=>cases w1
   | fr l1=>exact hd2 l1 l c rfl rfl w2 e
   | tf d l1=>cases ht2
 | tf d l=>cases ht3
theorem aqx{i j k:Nat}{x y z:Str}{px py pz pt:Pos}{kt k2:Nat}{pt2:Pos}{m1 m2 m3:M Rv}(hc:X.calm=true)(hN:X.N.Nodup)(hi:X.N[i]? = some x)(hj:X.N[j]? = some y)(hk:X.N[k]? = some z)(hx:Loc X.env.scope x)(hy:Loc X.env.scope y)(hz:Loc X.env.scope z)(h1:ER K X a m1)(h2:ER K X b m2)(h3:ER K X c m3)
  (hs1:starEach [a,b,c] X.env=(false,eval a X.env)::starEach [b,c] X.env:=by rfl) (hs2:starEach [b,c] X.env=(false,eval b X.env)::starEach [c] X.env:=by rfl) (hs3:starEach [c] X.env=(false,eval c X.env)::starEach [] X.env:=by rfl)
  (hfx:X.fn x=true∨X.env.scope.names.lookup x=some .local:=by first | exact .inl rfl | exact .inr rfl | assumption) (hfy:X.fn y=true∨X.env.scope.names.lookup y=some .local:=by first | exact .inl rfl | exact .inr rfl | assumption) (hfz:X.fn z=true∨X.env.scope.names.lookup z=some .local:=by first | exact .inl rfl | exact .inr rfl | assumption)
  (hs:swapsWithSole [.Tuple [.Name x px,.Name y py,.Name z pz] kt pt] (.Tuple [a,b,c] k2 pt2) pos.line X.env=pure false:=by rfl) (hw:swappedStores [.Tuple [.Name x px,.Name y py,.Name z pz] kt pt] (.Tuple [a,b,c] k2 pt2) X.env=pure none:=by rfl)
  (ha1:(assignEach [.Tuple [.Name x px,.Name y py,.Name z pz] kt pt] X.env).map (·.2)=[assign (.Tuple [.Name x px,.Name y py,.Name z pz] kt pt) X.env]:=by rfl)
  (ht1:(assignEach [.Name x px,.Name y py,.Name z pz] X.env).map (·.2)=assign (.Name x px) X.env::(assignEach [.Name y py,.Name z pz] X.env).map (·.2):=by rfl)
  (ht2:(assignEach [.Name y py,.Name z pz] X.env).map (·.2)=assign (.Name y py) X.env::(assignEach [.Name z pz] X.env).map (·.2):=by rfl)
  (ht3:(assignEach [.Name z pz] X.env).map (·.2)=assign (.Name z pz) X.env::(assignEach [] X.env).map (·.2):=by rfl)
  (hn:(assignEach [.Name x px,.Name y py,.Name z pz] X.env).length=3:=by rfl) (hst:(assignEach [.Name x px,.Name y py,.Name z pz] X.env).findIdx? (·.1)=none:=by rfl) :
  SV K X (.Assign [.Tuple [.Name x px,.Name y py,.Name z pz] kt pt] (.Tuple [a,b,c] k2 pt2) pos) (amw i j k m1 m2 m3):=SV.mk fun hq=>PS.imp (ai2 (apv (jy (h1 hq) (jy (h2 hq) (jy (h3 hq) abu hs3) hs2) hs1)) (apt hc (adb (afp hN hi hx hfx) (adb (afp hN hj hy hfy) (adb (afp hN hk hz hfz) aln ht3) ht2) ht1) hn hst) hs hw ha1) fun E σ H ⟨tg,F,ρ,fl,ρ',G,em,q⟩=>j8 em q fun r1 ρ1 e1 em=>j8 em q fun r2 ρ2 e2 em=>j8 em q fun r3 ρ3 e3 em=>by
 split at em
 ·rename_i hz;cases em;refine⟨tg,F,ρ,r1,ρ1,G,e1,fun v1 H1 F1 G1 x1 rr1=>⟨tg,F1,ρ1,r2,ρ2,G1,e2,fun v2 H2 F2 G2 x2 rr2=>⟨tg,F2,ρ2,r3,ρ3,G2,e3,fun v3 H3 F3 G3 x3 rr3=>⟨by rw[sizeLine_eq];show 3<=16777216;decide,fun p hp =>?_⟩⟩⟩⟩
  obtain⟨k1,k2,k3⟩:=two_rel hz.1 x1 rr1 x2 rr2;obtain⟨a1,a3,a13⟩:=two_rel hz.1 (x1.trans x2) k1 x3 rr3;obtain⟨b2,_,b23⟩:=two_rel hz.2.1 (x1.trans x2) k2 x3 rr3;have x4:=G3.freshX hp (.tup [v1,v2,v3]);have G4:=G3.fresh hp (.tup [v1,v2,v3]);obtain⟨G5,x5⟩:=G4.store3 (((x1.trans x2).trans x3).trans x4) i j k (afl hz.1 a1 x4) (afl hz.2.1 b2 x4) (afl hz.2.2 a3 x4) hz.1 hz.2.1 hz.2.2 k3 a13 b23;exact⟨p,[v1,v2,v3],rfl,SqT.of dg,rfl,v1,[v2,v3],rfl,v2,[v3],rfl,v3,[],rfl,rfl,q _ _ F3 G5 x5⟩
 ·cases em
end
@[simp] theorem aw8(i j k:Nat)(m1 m2 m3:M Rv)(ρ:Ro):amw i j k m1 m2 m3 ρ=dM m1 (fun r1=>dM m2 fun r2=>dM m3 fun r3 ρ=>if noTf r1=true/\noTf r2=true/\noTf r3=true then some (.nx,List.set (List.set (List.set ρ i r1.sl) j r2.sl) k r3.sl) else none) ρ:=rfl
end Dn
namespace Mn
open PySem PySem.SeqAt L2
open PySem.AutoSeq1 (wpAny_loadPart')
open PySem.MeetsSeq PySem.MeetsSeq3
def EqIn(P:Program)(w:World)(A:Around)(s:Shared)(y x:Value):Prop:=∀(E:Value->Shared->Prop) (Q:Bool->Shared->Prop),Q true s->wpAny (model P w) A (eqBool y x) Q E s
theorem EqIn.of{P:Program}{w:World}{A:Around}{s:Shared}{y x:Value}(h:EqAt A s y x true):EqIn P w A s y x:=fun E Q q=>h P w E Q q
structure Two (h:Heap) (l b:Addr) (xs ys:Array Value) (n n2:Nat) (dd dd2:Option Addr) (sl sl2:Array (Option Value)):Prop where
 fst:h.get? l=some ⟨.type "list", dd,.seq xs n,sl⟩
 snd:h.get? b=some ⟨.type "list", dd2,.seq ys n2,sl2⟩
 len:xs.size=ys.size
section
variable{P:Program}{w:World}{l b:Addr}{xs ys:Array Value}{n n2:Nat}{dd dd2:Option Addr}{sl sl2:Array (Option Value)}
end
theorem ao8{A:Around}{s:Shared}{a b:Addr}{P:Program}{w:World}{x:Str}{n:Int}{t1 t2:Tok}(ha:(a==sysModules)=false)(hb:(b==sysModules)=false)
  (da:s.heap.DictOf (aae P w) a [(Sum.inr x,.int n t1)]) (db:s.heap.DictOf (aae P w) b [(Sum.inr x,.int n t2)]) (hu:A.units < cLine):EqIn P w A s (.ref a) (.ref b):=by
 by_cases hab:a=b
 ·subst hab;exact .of (EqAt.same _)
 ·intro E Q hq;have hits:PySem.W.KeqHits A.in1 s [((Sum.inr x:Key),Value.int n t2)] [((Sum.inr x:Key),Value.int n t1)] (true&&true):=by
   refine .hit (y:=.int n t2) ?_ ?_ .nil
   ·simp[valueAt]
   ·have:=PySem.W.keq_flat (A:=A.in1) (s:=s) (v:=.int n t1) (y:=.int n t2) (d:=.int n) (e:=.int n) (PyProof.V.Flat.int n t1) (PyProof.V.Flat.int n t2);have e:PyData.eqv (.int n) (.int n)=true:=eqv_refl _ rfl;rwa[e] at this
  unfold eqBool;refine wpAny_holding (wpAny_ite_split (fun z=>absurd (Value.ref.inj (eq_of_beq z)) hab) fun _=>wpAny_bind ?_)
  exact PySem.W.keq_eq (knd:=aae P w) ha hb da db hu (fun _=>hits) (wpAny_truthy_bool hq)
end Mn
namespace Dn
open L2 Mn
def agn:D->D->Bool
 | .dct [(.inr x,.int n)],.dct [(.inr y,.int m)]=>decide (x=y)&&decide (n=m)
 | d,e=>okD 28 d&&okD 28 e&&eqD d e
def ah6:List D->List D->Bool
 | [],[]=>true
 | d::l,e::k=>agn d e&&ah6 l k
 | _,_=>false
section
variable{X:Cx}{zv:List (Addr×Obj)}{σ:L2.St}{H F:Hp}{s:Shared}
theorem dct_is(I:Inv X zv σ H s)(g:Same F H){x:Str}{n:Int}{v:V}{u:Value}(h:Is X.K F (.dct [(.inr x,.int n)]) v)(r:RelV v u):∃a t,u=.ref a/\(a==sysModules)=false/\s.heap.DictOf (aae X.prog X.w) a [(Sum.inr x,.int n t)]:=by
 cases h with
 | dct e h =>
  rename_i a kvs;cases r;obtain⟨_,hsys,vs,kv,dd⟩:=(show rn X.prog X.w H s.heap a (.dK kvs) from I.hok a _ (g _ _ e))
  cases h with
  | cons h1 h2 =>
   cases h2;cases h1;cases kv with
   | @cons _ b _ _ k1 k2 =>
    cases k2;obtain⟨k3,k4⟩:=k1;obtain⟨bk,bv⟩:=b;dsimp only at k3 k4;subst k3;obtain⟨t,rfl⟩:=k4;exact⟨a,t,rfl,hsys,dd⟩
theorem anu(I:Inv X zv σ H s)(g:Same F H)(hu:X.A.in1.units+63 < cLine){d e:D}(h:agn d e=true){v v':V}{u u':Value}(h1:Is X.K F d v)(h2:Is X.K F e v')(r1:RelV v u)(r2:RelV v' u'):EqIn X.prog X.w X.A.in1 s u u':=by
 unfold agn at h;split at h
 ·rename_i x n y m;rw[Bool.and_eq_true,decide_eq_true_eq,decide_eq_true_eq] at h;obtain⟨rfl,rfl⟩:=h;obtain⟨a,t,rfl,ha,da⟩:=dct_is I g h1 r1;obtain⟨b,t',rfl,hb,db⟩:=dct_is I g h2 r2;exact ao8 ha hb da db (by omega)
 ·rw[Bool.and_eq_true,Bool.and_eq_true] at h;obtain⟨⟨k1,k2⟩,k3⟩:=h;obtain⟨as,ra⟩:=vy I g (.inl h1) k1 r1;obtain⟨bs,rb⟩:=vy I g (.inl h2) k2 r2;obtain⟨c1,p1⟩:=ul _ _ k1;obtain⟨c2,p2⟩:=ul _ _ k2;have:=PySem.SeqAt.eqAt_reads _ _ X.A.in1 s u u' as bs ra rb c1 c2 (by omega)
  have k3:PyData.eqv (toPy d) (toPy e)=true:=k3;rw[k3] at this;exact .of this
theorem ai0(I:Inv X zv σ H s)(g:Same F H)(hu:X.A.in1.units+63 < cLine):∀{l k:List D} {vs vs':List V} {us us':List Value},ah6 l k=true->IsL X.K F l vs->IsL X.K F k vs'->Vals vs us->Vals vs' us' ->
  us.length=us'.length/\∀j (h1:j < us.length) (h2:j < us'.length),EqIn X.prog X.w X.A.in1 s us[j] us'[j]
 | [],[],_,_,_,_,_,.nil,.nil,r1,r2=>by
  cases r1;cases r2;exact⟨rfl,fun j h1=>absurd h1 (Nat.not_lt_zero _)⟩
 | d::l,e::k,_,_,_,_,hs,.cons h1 t1,.cons h2 t2,r1,r2=>by
  have hs:(agn d e&&ah6 l k)=true:=hs;rw[Bool.and_eq_true] at hs;cases r1 with
  | cons a1 b1 =>
   cases r2 with
   | cons a2 b2 =>
    obtain⟨q1,q2⟩:=ai0 I g hu hs.2 t1 t2 b1 b2;refine⟨by rw[List.length_cons,List.length_cons,q1],fun j j1 j2 =>?_⟩
    cases j with
    | zero=>exact anu I g hu hs.1 h1 h2 a1 a2
    | succ j=>exact q2 j (by simpa using j1) (by simpa using j2)
 | [],_::_,_,_,_,_,hs,_,_,_,_=>by cases hs
 | _::_,[],_,_,_,_,hs,_,_,_,_=>by cases hs
end
theorem apa{d:D}(h:okD 28 d=true):eqD d d=true:=PySem.SeqAt.eqv_refl _ (ul _ _ h).1
end Dn
namespace Mn
open PySem PySem.SeqAt L2
open PySem.AutoSeq1 (wpAny_loadPart')
open PySem.MeetsSeq PySem.MeetsSeq3
section
variable{P:Program}{w:World}{l b:Addr}{xs ys:Array Value}{n n2:Nat}{dd dd2:Option Addr}{sl sl2:Array (Option Value)}
theorem aee:∀(m i:Nat),xs.size=i+m->MeetsIn P w (Builtin.«list.__eq__.loop» ⟨[.ref l,.ref b,rawInt i,rawInt 2],[]⟩)
  fun A R s=>Two s.heap l b xs ys n n2 dd dd2 sl sl2/\(∀j (j1:j < xs.size) (j2:j < ys.size),EqIn P w A.in1 s xs[j] ys[j])/\R (.ok (.ret (.bool true))) s
 | 0,i,hm=>by
  rintro A R ⟨hp,g,d,tk,os⟩ ⟨T,he,h⟩
  have t1:=T.fst;have t2:=T.snd;have t3:=T.len;wp_walk using wpAny_loadPart' t1,wpAny_loadPart' t2;rw[show xs[((i:Nat):Int).toNat]? = none by simp;omega,show ys[((i:Nat):Int).toNat]? = none by simp;omega]
  wp_walk using wpAny_loadPart' t1,wpAny_loadPart' t2;show R (.ok (.ret (.bool (xs.size==ys.size)))) _;rw[t3,beq_self_eq_true];exact h
 | m+1,i,hm=>by
  rintro A R ⟨hp,g,d,tk,os⟩ ⟨T,he,h⟩
  have t1:=T.fst;have t2:=T.snd;have t3:=T.len;have j1:i < xs.size:=by omega
  have j2:i < ys.size:=by omega
  wp_walk using wpAny_loadPart' t1,wpAny_loadPart' t2;rw[show xs[((i:Nat):Int).toNat]? = some xs[i] by simp[j1],show ys[((i:Nat):Int).toNat]? = some ys[i] by simp[j2]]
  refine wpAny_bind (he i j1 j2 _ _ ?_);wp_walk;rw[show((i:Int)+1)=((i+1:Nat):Int) by omega]
  refine⟨plainId_quiet plain_eq_loop _,codeAny_builtin entry_eq_loop ?_⟩;rw[Around.under_plainId plain_eq_loop _];exact aee m (i+1) (by omega) A R _ ⟨T,he,h⟩
theorem av0:MeetsIn P w (Builtin.«list.__eq__» ⟨[.ref l,.ref b],[]⟩) fun A R s=>Two s.heap l b xs ys n n2 dd dd2 sl sl2/\(∀j (j1:j < xs.size) (j2:j < ys.size),EqIn P w A.in1 s xs[j] ys[j])/\R (.ok (.ret (.bool true))) s:=by
 rintro A R ⟨hp,g,d,tk,os⟩ ⟨T,he,h⟩
 have t1:=T.fst;have t2:=T.snd;have f3:=AutoSeq1.sub_list_list;have no:¬(xs.size != ys.size)=true:=by simp[T.len]
 wp_walk using wpAny_loadPart' t1,wpAny_loadPart' t2;refine⟨plainId_quiet plain_eq_loop _,codeAny_builtin entry_eq_loop ?_⟩;rw[Around.under_plainId plain_eq_loop _];exact aee xs.size 0 (by omega) A R _ ⟨T,he,h⟩
theorem ao9{A:Around}{E:Value->Shared->Prop}{s:Shared}{Q:Value->Shared->Prop}(hl:s.heap.IsList l xs)(hb:s.heap.IsList b ys)(hn:xs.size=ys.size)(hu:A.units < cLine)
  (he:∀j (j1:j < xs.size) (j2:j < ys.size),EqIn P w A.in1 s xs[j] ys[j]) (h:Q (.bool true) s):wpAny (model P w) A (compareOp .Eq (.ref l) (.ref b)) Q E s:=by
 obtain⟨⟨c1,d1,e1,s1⟩,g1,k1,m1,z1⟩:=id hl;obtain⟨⟨c2,d2,e2,s2⟩,g2,k2,m2,z2⟩:=id hb;simp only at k1 z1 k2 z2;subst k1 z1 k2 z2;exact wpAny_richCompare_same_room (op:=.Eq) ⟨_,g1,rfl⟩ ⟨_,g2,rfl⟩ F.slot_list_eq
  (call_meetsIn F.slot_list_eq ⟨_,g1,rfl⟩ F.entry_list_eq (F.args_list_eq_2 _ _) av0 ⟨⟨g1,g2,hn⟩,he,show Value.bool true≠Value.notImplemented/\Q (.bool true) s from⟨nofun,h⟩⟩) hu
end
end Mn
namespace Dn
open L2 Mn
def gEqL(a b:D):Option Rv:=match a,b with
 | .lst l,.lst k=>if ah6 l k=true then some (.v (.bl true)) else none
 | _,_=>none
theorem arq{K:Fg9}{X:Cx}(hu:X.A.units+64 < cLine):OpD K X (compareOp .Eq) gEqL:=OpD.mk fun hk=>by
 intro zv s σ0 H x y v u Q I rx ry ⟨tg,F,ρ,σ,d1,d2,r,G,b1,b2,eg,q⟩;subst hk;unfold gEqL at eg;split at eg
 ·rename_i l k;split at eg
  ·rename_i hs;cases eg;obtain⟨a,vs,rfl,ea,h1⟩:=b1.lst G.sub;obtain⟨b,vs',rfl,eb,h2⟩:=b2.lst G.sub;cases rx;cases ry;obtain⟨us,r1,l1,_⟩:=I.list (SqL.of ea);obtain⟨us',r2,l2,_⟩:=I.list (SqL.of eb);have hin:X.A.in1.units<=X.A.units+1:=by show X.A.units+1<=_;exact Nat.le_refl _
   obtain⟨q1,q2⟩:=ai0 I G.sub (by omega) hs h1 h2 r1 r2
   exact ao9 l1.isList l2.isList (by simpa using q1) (by omega) (fun j j1 j2=>by
    have:=q2 j (by simpa using j1) (by simpa using j2)
    simpa using this) ⟨.bl true,H,I,rfl,Res.same G q (.bl _)⟩
  ·cases eg
 ·cases eg
end Dn
namespace Mn
open L2
section
variable{X:Cx}{pos:Pos}
def axd(i j k:Nat)(ta:TA):TS:=fun D σ H=>ta σ H fun vs H1=>∃u v w,vs=[u,v,w]/\D.nx (((σ.set i (some u)).set j (some v)).set k (some w)) H1
theorem vals3{u v w:V}{us:List Value}(h:Vals [u,v,w] us):∃a b c,us=[a,b,c]/\RelV u a/\RelV v b/\RelV w c:=by
 cases h with
 | cons p q =>
  cases q with
  | cons p' q' =>
   cases q' with
   | cons p'' q'' =>
    cases q'';exact⟨_,_,_,rfl,p,p',p''⟩
theorem aq3{i j k:Nat}{x y z:Str}{a b c:Expr}{ta:TA}{px py pz pt:Pos}{kt k2 pt2}(hc:X.calm=true)(hN:X.N.Nodup)(hi:X.N[i]? = some x)(hj:X.N[j]? = some y)(hk:X.N[k]? = some z)(hij:i≠j)(hik:i≠k)(hjk:j≠k)
  (hx:X.env.scope.names.lookup x=some .local) (hy:X.env.scope.names.lookup y=some .local) (hz:X.env.scope.names.lookup z=some .local) (ha:PA X [a,b,c] ta)
  (hw:swappedStores [.Tuple [.Name x px,.Name y py,.Name z pz] kt pt] (.Tuple [a,b,c] k2 pt2) X.env=pure (some [x,y,z]))
  (hs:swapsWithSole [.Tuple [.Name x px,.Name y py,.Name z pz] kt pt] (.Tuple [a,b,c] k2 pt2) pos.line X.env=pure false) :
  PS X (.Assign [.Tuple [.Name x px,.Name y py,.Name z pz] kt pt] (.Tuple [a,b,c] k2 pt2) pos) (axd i j k ta):=by
 intro zv s σ H D I h;rw[exec_Assign_arm];refine wpAny_bind (wpAny_standAt ?_);rw[hs];refine wpAny_bind (wpAny_pure ?_);rw[if_neg (by decide)]
 refine wpAny_bind (Tuple_ (thn (ha _ zv s σ H _ I h) fun us s1 z9 =>?_))
 obtain⟨vs,H1,I1,r1,q1⟩:=z9;obtain⟨u,v,w,e1,q1⟩:=q1;subst e1;obtain⟨u1,u2,u3,rfl,ru,rv,rw'⟩:=vals3 r1;refine wpAny_newObj_type ?_ (by show 3<=sizeLine;decide)
 have I2:Inv X zv σ H1 { s1 with heap:=s1.heap.push { cls:=.type "tuple", data:=.seq [u1,u2,u3].toArray } }:=I1.kept (t':=s1.toks) fun b o e=>Heap.get?_push_of_some _ e
 rw[hw];refine wpAny_bind (wpAny_pure ?_);show wpAny (model X.prog X.w) X.A (do rule "assign.swapped-stores";let items <-unpackItems (.ref s1.heap.objs.size) 3 none;assignInOrder [fun v=>bindName X.env z v,fun v=>bindName X.env y v,fun v=>bindName X.env x v] items.reverse;pure Flow.next) _ _ _
 refine wpAny_bind (wpAny_rule (wpAny_bind (unpackItems_tuple (items := #[u1,u2,u3]) (I.ok.hd hc) (IsTup.new s1.heap _) fun h' hx' =>?_)))
 have I3:=I2.kept (h':=h') (t':=s1.toks) fun b o e=>hx' b o (Nat.ne_of_lt (Heap.lt_size e)) e
 show wpAny _ _ (assignInOrder [fun v=>bindName X.env z v,fun v=>bindName X.env y v,fun v=>bindName X.env x v] [u3,u2,u1] >>= fun _=>pure Flow.next) _ _ _
 refine wpAny_bind (assignInOrder_cons (wpAny_bindName (uf I3 hN hk (.inl hz) rw' (fun s2 I4 =>?_) (.inr hz))))
 refine assignInOrder_cons (wpAny_bindName (uf I4 hN hj (.inl hy) rv (fun s3 I5 =>?_) (.inr hy)))
 refine assignInOrder_cons (wpAny_bindName (uf I5 hN hi (.inl hx) ru (fun s4 I6=>assignInOrder_nil (wpAny_pure ?_)) (.inr hx)))
 have e:((σ.set k (some w)).set j (some v)).set i (some u)=((σ.set i (some u)).set j (some v)).set k (some w):=by
  rw[List.set_comm _ _ (Ne.symm hjk),List.set_comm _ _ (Ne.symm hik),List.set_comm _ _ (Ne.symm hij)]
 rw[e] at I6;exact⟨_,H1,I6,q1⟩
end
end Mn
namespace Dn
open L2 Mn
section
variable{K:Fg9}{X:Cx}{tg:Nat->Addr}{F H:Hp}{ρ:Ro}{σ:L2.St}{a b c:Expr}{pos:Pos}
theorem anq{i j k:Nat}{x y z:Str}{px py pz pt:Pos}{kt k2:Nat}{pt2:Pos}{m1 m2 m3:M Rv}(hc:X.calm=true)(hN:X.N.Nodup)(hi:X.N[i]? = some x)(hj:X.N[j]? = some y)(hk:X.N[k]? = some z)(hij:i≠j)(hik:i≠k)(hjk:j≠k)
  (hx:X.env.scope.names.lookup x=some .local) (hy:X.env.scope.names.lookup y=some .local) (hz:X.env.scope.names.lookup z=some .local) (h1:ER K X a m1) (h2:ER K X b m2) (h3:ER K X c m3)
  (hs1:starEach [a,b,c] X.env=(false,eval a X.env)::starEach [b,c] X.env:=by rfl) (hs2:starEach [b,c] X.env=(false,eval b X.env)::starEach [c] X.env:=by rfl) (hs3:starEach [c] X.env=(false,eval c X.env)::starEach [] X.env:=by rfl)
  (hw:swappedStores [.Tuple [.Name x px,.Name y py,.Name z pz] kt pt] (.Tuple [a,b,c] k2 pt2) X.env=pure (some [x,y,z]):=by rfl) (hs:swapsWithSole [.Tuple [.Name x px,.Name y py,.Name z pz] kt pt] (.Tuple [a,b,c] k2 pt2) pos.line X.env=pure false:=by rfl) :
  SV K X (.Assign [.Tuple [.Name x px,.Name y py,.Name z pz] kt pt] (.Tuple [a,b,c] k2 pt2) pos) (amw i j k m1 m2 m3):=SV.mk fun hq=>PS.imp (aq3 hc hN hi hj hk hij hik hjk hx hy hz (jy (h1 hq) (jy (h2 hq) (jy (h3 hq) abu hs3) hs2) hs1) hw hs) fun E σ H ⟨tg,F,ρ,fl,ρ',G,em,q⟩=>j8 em q fun r1 ρ1 e1 em=>j8 em q fun r2 ρ2 e2 em=>j8 em q fun r3 ρ3 e3 em=>by
 split at em
 ·rename_i hz;cases em;refine⟨tg,F,ρ,r1,ρ1,G,e1,fun v1 H1 F1 G1 x1 rr1=>⟨tg,F1,ρ1,r2,ρ2,G1,e2,fun v2 H2 F2 G2 x2 rr2=>⟨tg,F2,ρ2,r3,ρ3,G2,e3,fun v3 H3 F3 G3 x3 rr3 =>?_⟩⟩⟩
  obtain⟨k1,k2,k3⟩:=two_rel hz.1 x1 rr1 x2 rr2;obtain⟨a1,a3,a13⟩:=two_rel hz.1 (x1.trans x2) k1 x3 rr3;obtain⟨b2,_,b23⟩:=two_rel hz.2.1 (x1.trans x2) k2 x3 rr3;obtain⟨G5,x5⟩:=G3.store3 ((x1.trans x2).trans x3) i j k a1 b2 a3 hz.1 hz.2.1 hz.2.2 k3 a13 b23;exact⟨v1,v2,v3,rfl,q _ H3 F3 G5 x5⟩
 ·cases em
end
end Dn
end
namespace My
open PySem L2 Mn Dn
def NS:List Str:=["ArrowError","NoArrows","NoRoom","NoWalkers","NotShut","NeverBack","NoTour","NoRow","NoHouse","NotOpen","Nobody","NoText","TooGreat"]
def ae1:Sd :=
 (dRet (M.v (mAnd (mIsi .int (di 0)) (mUn gNot (mIsi .bool (di 0))))))
def wz:Fd:=fnD 1 1 ae1
def wy:Sd :=
 (dRet (M.v (mAnd (M.d (mFn wz [some 0] (cg 0 ie))) (ad0 (fun i j=>decide (i<=j)) (fun i j=>decide (i<=j)) (mVar 1) (mVar 0) (mVar 2)))))
def jb:Fd:=fnD 3 3 wy
def qy:Sd :=
 (dRet (M.v (mAnd (mIsi .tuple (di 0)) (ad0 (fun i j=>decide (i<=j)) (fun i j=>decide (i<=j)) (mVar 1) (M.d (jc (g1 fun d=>(bz d).map fun l=>.v (.int l.length)) (dw 0 mNil))) (mVar 2)))))
def gj:Fd:=fnD 3 3 qy
def yz:Sd :=
 (dRet (mFn jb [none,none,none] (bw (mVar 1) (bw (ret (.int 0)) (bw (M.d (mOp (gInt fSub) (gn (M.d (jc (g1 fun d=>(bz d).map fun l=>.v (.int l.length)) (dw 0 mNil))) (ret (.int 1))))) ie)))))
def j4:Fd:=fnD 2 2 yz
def aah:M D :=
 (M.d (mFn jb [some 0,none,none] (cg 0 (bw (ret (.int 0)) (bw (M.d (mOp (gInt fSub) (gn (M.d (jc (g1 fun d=>(bz d).map fun l=>.v (.int l.length)) (dw 1 mNil))) (ret (.int 1))))) ie)))))
def ad9:Sd :=
 (dSeq (dIf (yc (uo (M.d (mFn gj [some 1,none,none] (cg 1 (bw (M.d (jc (g1 fun d=>(bz d).map fun l=>.v (.int l.length)) (dw 0 mNil))) (bw (M.d (jc (g1 fun d=>(bz d).map fun l=>.v (.int l.length)) (dw 0 mNil))) ie))))))) (dRet (M.v (ret (.bl false)))) dNx) (dRet (jc (g1 gAll) (bc (M.d (ac7 [none,none] (mGet aoz (bc (mVar 1) (bc (mVar 0) mNil))) (bTup 2 (qp (ir 0) (qp (ir 1) bNil))) (ret true) aah)) mNil))))
def uv:Fd:=fnD 2 2 ad9
def vd:Sd :=
 (dIf (okS (yc (uo (M.d (mFn uv [none,none] (bw (mVar 0) (bw (mVar 1) ie))))))) (ae7 ⟨"NoArrows", []⟩) dNx)
def gq:Fd:=fnD 2 2 vd
def yl:M D :=
 (M.d (mFn jb [some 0,none,some 1] (cg 0 (bw (ret (.int 0)) (cg 1 ie)))))
def ac0:Sd :=
 (dSeq (dIf (yc (uo (M.d (mFn gj [some 1,none,none] (cg 1 (bw (M.d (jc (g1 fun d=>(bz d).map fun l=>.v (.int l.length)) (dw 0 mNil))) (bw (M.d (jc (g1 fun d=>(bz d).map fun l=>.v (.int l.length)) (dw 0 mNil))) ie))))))) (dRet (M.v (ret (.bl false)))) dNx) (dRet (jc (g1 gAll) (bc (M.d (ac7 [none,some 2] (ab2 (mVar 1)) (ir 0) (ret true) yl)) mNil))))
def tu:Fd:=fnD 3 3 ac0
def ut:Sd :=
 (dIf (okS (yc (uo (M.d (mFn tu [some 0,none,none] (cg 0 (bw (mVar 1) (bw (ret (.int 100)) ie)))))))) (ae7 ⟨"NoWalkers", []⟩) dNx)
def f9:Fd:=fnD 2 2 ut
def aci:Sd :=
 (dSeq (dSet 5 (mOp (gInt fMod) (gn (M.d (mOp (gInt fSub) (fj 4 (di 1)))) (di 0)))) (acr (M.v (mMut 3 aea (bc (M.d (mOp (gInt fDiv) (gn (M.d (mOp (gInt fSub) (gn (M.d (mOp (gInt fSub) (gn (M.d (mOp gAdd (fj 2 (di 0)))) (ret (.int 1))))) (di 5)))) (di 0)))) mNil)))))
def aha:Sd :=
 (dSeq (dSet 3 (mLst mNil)) (dSeq (dFor (mGet yj (bc (mVar 0) mNil)) (ir 4) aci) (dRet (akk 3))))
def aag:Fd:=fnD 6 3 aha
def wu:Sd :=
 (dSeq (acr (mFn gq [none,none] (bw (okS (mVar 0)) (bw (okS (mVar 1)) ie)))) (acr (mFn f9 [some 0,none] (cg 0 (bw (okS (mVar 2)) ie)))))
def gf:Fd:=fnD 3 3 wu
def jn:Sd :=
 (dIf (um (gCmp fun i j=>decide (j<=i)) (fj 9 (ret (.int 0)))) (dSubAugF (fun i j=>i+j) "Crowd" 0 "standing" 4 (mVar 9) (mVar 10)) (dSubAugF (fun i j=>i+j) "Crowd" 0 "gone" 5 (M.d (mOp (gInt fSub) (gn (mUn gNeg (mVar 9)) (ret (.int 1))))) (mVar 10)))
def g_Crowd_let_leave:Sd :=
 (dSeq (dSet 7 (mOp gIx (gn (mFV "Crowd" 0 "house") (di 1)))) (dSeq (dSet 8 (mFn aag [none,none,some 2] (bw (M.d (jc (g1 fun d=>(bz d).map fun l=>.v (.int l.length)) (dw 7 mNil))) (bw (M.d (mOp gIx ((mLnk "Crowd" 0 "turning" 3).bind fun _=>fj 3 (di 1)))) (cg 2 ie))))) (dSeq (dSubF "Crowd" 0 "turning" 3 (mVar 1) (M.d (mOp (gInt fMod) (gn (M.d (mOp gAdd (gn (M.d (mOp gIx ((mLnk "Crowd" 0 "turning" 3).bind fun _=>fj 3 (di 1)))) (di 2)))) (M.d (jc (g1 fun d=>(bz d).map fun l=>.v (.int l.length)) (dw 7 mNil))))))) (dSeq (dSubAugF (fun i j=>i+j) "Crowd" 0 "left" 6 (mVar 1) (mVar 2)) (dSeq (dSubAugF (fun i j=>i - j) "Crowd" 0 "standing" 4 (mVar 1) (mVar 2)) (dFor (mGet aoz (bc (mVar 7) (bc (mVar 8) mNil))) (bTup 2 (qp (ir 9) (qp (ir 10) bNil))) jn))))))
def dh:Fd:=fnD 11 7 g_Crowd_let_leave
def vo:List (Str×M Rv) :=
 [("house", (M.v (mVar 1))),("turning", (jc (g1 fun d=>(bz d).map fun l=>.fr l) (dw 2 mNil))),("standing", (jc (g1 fun d=>(bz d).map fun l=>.fr l) (dw 3 mNil))),("gone", (mOp gMul (gn (M.d (mLst (bc (ret (.int 0)) mNil))) (ret (.int 3))))),("left", (mOp gMul (gn (M.d (mLst (bc (ret (.int 0)) mNil))) (M.d (jc (g1 fun d=>(bz d).map fun l=>.v (.int l.length)) (dw 1 mNil))))))]
def mz:Sd :=
 (dSeq (dIf (okS (mOrB (yc (uo (M.d (mFn j4 [some 0,none] (cg 0 (bw (mVar 6) ie)))))) (um (gEq false) (gn (M.d (mOp gIx ((mLnk "Crowd" 4 "standing" 8).bind fun _=>fj 8 (di 6)))) (ret (.int 0)))))) (aai "Nobody" "at" (okS (mVar 5))) dNx) (dOk (acr (ai7 "Crowd" 4 "let_leave" ["turning","standing","gone","left"] ["house"] [7,8,9,10] dh [some 6,none] (cg 6 (bw (ret (.int 1)) ie))))))
def ahb:Sd :=
 (dSeq (acr (mFn gf [none,none,none] (bw (okS (mVar 0)) (bw (okS (mVar 1)) (bw (okS (mVar 2)) ie))))) (dNew "Crowd" 4 [7,8,9,10] 4 4 vo [some 0,some 1,some 2] (okS (cg 0 (cg 1 (cg 2 ie)))) (dSeq (dFor (okS (mGet ami (bc (mVar 3) mNil))) (bTup 2 (qp (ir 5) (qp (ir 6) bNil))) mz) (dOk (dRet (M.v (mTup (bc (M.d (jc (g1 fun d=>(bz d).map fun l=>.v (.tup l)) ((mLnk "Crowd" 4 "turning" 7).bind fun _=>dw 7 mNil))) (bc (M.d (jc (g1 fun d=>(bz d).map fun l=>.v (.tup l)) ((mLnk "Crowd" 4 "standing" 8).bind fun _=>dw 8 mNil))) (bc (M.d (jc (g1 fun d=>(bz d).map fun l=>.v (.tup l)) ((mLnk "Crowd" 4 "gone" 9).bind fun _=>dw 9 mNil))) mNil))))))))))
def sy:Fd:=fnD 11 4 ahb
def abg:Sd :=
 (dSeq (dIf (um (gCmp fun i j=>decide (i < j)) (fj 1 (M.d (jc (g1 fun d=>(bz d).map fun l=>.v (.int l.length)) (dw 0 mNil))))) (dRet (mOp gIx (fj 0 (di 1)))) dNx) (dRet (M.v (ret (.int 0)))))
def f__law_cell:Fd:=fnD 2 2 abg
def ae2:Sd :=
 (dSeq (dSet 1 (jc (g2 (gInt fun i j=>some (if j > i then j else i))) (dw 0 (bc (M.d (mOp (gInt fSub) (gn (ret (.int 0)) (di 0)))) mNil)))) (dRet (mLst (bc (mVar 1) (bc (M.d (jc (g1 ao0) (bc (M.d (mOp (gCmp fun i j=>decide (j<=i)) (fj 1 (M.d (mOp (gInt fPow) (gn (ret (.int 10)) (ret (.int 18)))))))) mNil))) mNil)))))
def f__law_pen:Fd:=fnD 2 1 ae2
def abf:Sd :=
 (dSeq (dIf (um (gEq false) (gn (M.d (mOp gIx (fj 0 (ret (.int 1))))) (ret (.int 1)))) (dSeq (dAsg (M.d (jc (g2 af9) (bc (M.d (mOp gIx (fj 0 (ret (.int 0))))) (dw 1 mNil)))) (bTup 2 (qp (ir 2) (qp (ir 3) bNil)))) (dSeq (dSub 0 (ret (.int 0)) (mVar 2)) (dRet (akk 3)))) dNx) (dSeq (dSet 4 (mOp (gInt fMod) (gn (M.d (mOp gMul (gn (M.d (mOp gAdd (gn (M.d (mOp (gInt fMod) (gn (M.d (mOp gIx (fj 0 (ret (.int 0))))) (ret (.int 2147483647))))) (ret (.int 40503))))) (ret (.int 69621))))) (ret (.int 2147483629))))) (dSeq (dSet 4 (mOp (gInt fMod) (gn (M.d (mOp gAdd (gn (M.d (mOp gMul (fj 4 (di 4)))) (ret (.int 7817))))) (ret (.int 2147483587))))) (dSeq (dSub 0 (ret (.int 0)) (M.d (mOp (gInt fMod) (gn (M.d (mOp gAdd (gn (M.d (mOp gMul (fj 4 (ret (.int 48271))))) (ret (.int 11))))) (ret (.int 2147483629)))))) (dRet (mOp (gInt fMod) (gn (M.d (mOp (gInt fDiv) (gn (M.d (mOp gIx (fj 0 (ret (.int 0))))) (ret (.int 32))))) (di 1))))))))
def f__law_draw:Fd:=fnD 5 2 abf
def ac1:Sd :=
 (dRet (M.v (mAnd (mIsi .int (di 0)) (mUn gNot (mIsi .bool (di 0))))))
def jo:Fd:=fnD 1 1 ac1
def ae3:Sd :=
 (dSeq (dSet 1 (mLst (bc (ret .non) (bc (ret (.bl true)) (bc (ret (.bl false)) (bc (mUn gNeg (ret (.int 1))) (bc (ret (.str "1")) (bc (ret (.str "")) (bc (mTup mNil) (bc (M.d (mLst mNil)) (bc (mTup (bc (ret (.int 0)) mNil)) (bc (M.d (mLst (bc (ret (.int 0)) mNil))) (bc (ret (.dct [(Sum.inr "a", .int 1)])) (bc (mTup (bc (ret (.int 0)) (bc (ret (.int 1)) mNil))) (bc (M.d (mOp (gInt fPow) (gn (ret (.int 10)) (ret (.int 30))))) (bc (mTup (bc (mTup (bc (ret (.int 0)) mNil)) mNil)) (bc (ret (.str "ab")) mNil))))))))))))))))) (dRet (mOp gIx (gn (M.d (mOp gAdd (fj 1 (M.d (mLst (bc (mTup (bc (mTup (bc (mUn gNeg (ret (.int 1))) mNil)) (bc (mTup (bc (ret (.int 0)) (bc (ret (.int 1)) mNil))) mNil))) mNil)))))) (M.d (mFn f__law_draw [some 0,none] (cg 0 (bw (ret (.int 16)) ie))))))))
def f__law_odd:Fd:=fnD 2 1 ae3
def yo:M D :=
 (M.d (mOp (gInt fSub) (gn (M.d (mFn f__law_draw [some 1,none] (cg 1 (bw (M.d (mOp gAdd (fj 2 (di 3)))) ie)))) (di 3))))
def yh:Sd :=
 (dSeq (dSet 7 (mOp gAdd (gn (ret (.int 1)) (M.d (mFn f__law_draw [some 0,some 2] (cg 0 (cg 2 ie))))))) (acr (M.v (mMut 5 aea (bc (M.d (jc (g1 fun d=>(bz d).map fun l=>.v (.tup l)) (bc (M.d (ac7 [none,some 0,some 3,some 4] (mGet yj (bc (mVar 7) mNil)) (ir 0) (ret true) yo)) mNil))) mNil)))))
def ac4:Sd :=
 (dSeq (dSet 3 (mOp gAdd (gn (ret (.int 1)) (M.d (mFn f__law_draw [some 0,some 1] (cg 0 (cg 1 ie))))))) (dSeq (dSet 4 (mOp gIx (gn (M.d (mLst (bc (ret (.int 0)) (bc (ret (.int 1)) (bc (ret (.int 3)) (bc (ret (.int 3)) mNil)))))) (M.d (mFn f__law_draw [some 0,none] (cg 0 (bw (ret (.int 4)) ie))))))) (dSeq (dSet 5 (mLst mNil)) (dSeq (dFor (mGet yj (bc (mVar 3) mNil)) (ir 6) yh) (dRet (jc (g1 fun d=>(bz d).map fun l=>.v (.tup l)) (dw 5 mNil)))))))
def f__law_house:Fd:=fnD 8 3 ac4
def yp:M D :=
 (M.d (mFn f__law_draw [some 1,none] (cg 1 (bw (M.d (jc (g1 fun d=>(bz d).map fun l=>.v (.int l.length)) (dw 0 mNil))) ie))))
def ac5:Sd :=
 (dRet (jc (g1 fun d=>(bz d).map fun l=>.v (.tup l)) (bc (M.d (ac7 [none,some 0] (ab2 (mVar 1)) (ir 0) (ret true) yp)) mNil)))
def f__law_drawn:Fd:=fnD 2 2 ac5
def aim:Sd :=
 (dSeq (dSet 1 (mLst (bc (mIsC NS "NoArrows" (di 0)) (bc (mIsC NS "NoRoom" (di 0)) (bc (mIsC NS "NoWalkers" (di 0)) (bc (mIsC NS "NotShut" (di 0)) mNil)))))) (dSeq (dSet 1 (mOp gAdd (fj 1 (M.d (mLst (bc (mIsC NS "NeverBack" (di 0)) (bc (mIsC NS "NoTour" (di 0)) (bc (mIsC NS "NoRow" (di 0)) (bc (mIsC NS "NoHouse" (di 0)) mNil))))))))) (dSeq (dSet 1 (mOp gAdd (fj 1 (M.d (mLst (bc (mIsC NS "NotOpen" (di 0)) (bc (mIsC NS "Nobody" (di 0)) (bc (mIsC NS "NoText" (di 0)) (bc (mIsC NS "TooGreat" (di 0)) mNil))))))))) (dSeq (dIf (mOrB (yc (uo (mIsC NS "ValueError" (di 0)))) (um (gEq true) (gn (al3 1 (bc (ret (.bl true)) mNil)) (ret (.int 1))))) (dRet (M.v (ret (.str "other")))) dNx) (dSeq (dSet 2 (mLst (bc (ret (.str "arrows")) (bc (ret (.str "room")) (bc (ret (.str "walkers")) (bc (ret (.str "shut")) (bc (ret (.str "never")) (bc (ret (.str "tour")) (bc (ret (.str "row")) (bc (ret (.str "house")) (bc (ret (.str "open")) (bc (ret (.str "nobody")) mNil)))))))))))) (dRet (mOp gIx (gn (M.d (mOp gAdd (fj 2 (M.d (mLst (bc (ret (.str "text")) (bc (ret (.str "great")) mNil))))))) (ar7 1 amh (bc (ret (.bl true)) mNil))))))))))
def uw:Fd:=fnD 3 1 aim
def ux:M D :=
 (M.d (jc (g2 (gInt fun i j=>some (if j > i then j else i))) (bc (ret (.int 0)) (bc (M.d (mOp (gInt fSub) (gn (M.d (mFn f__law_draw [some 1,none] (cg 1 (bw (M.d (mOp gAdd (fj 2 (ret (.int 3))))) ie)))) (ret (.int 2))))) mNil))))
def aaz:Sd :=
 (dRet (jc (g1 fun d=>(bz d).map fun l=>.v (.tup l)) (bc (M.d (ac7 [none,some 0,some 2] (ab2 (mVar 1)) (ir 0) (ret true) ux)) mNil)))
def ph:Fd:=fnD 3 3 aaz
def abe:Sd :=
 (dSeq (dSet 5 (mOp gIx (gn (M.d (mOp gIx (fj 0 (di 4)))) (M.d (mOp gIx (fj 1 (di 4))))))) (dSeq (dSub 1 (mVar 4) (M.d (mOp (gInt fMod) (gn (M.d (mOp gAdd (gn (M.d (mOp gIx (fj 1 (di 4)))) (ret (.int 1))))) (M.d (jc (g1 fun d=>(bz d).map fun l=>.v (.int l.length)) (bc (M.d (mOp gIx (fj 0 (di 4)))) mNil))))))) (dSeq (dSub 2 (mVar 4) (M.d (mOp (gInt fSub) (gn (M.d (mOp gIx (fj 2 (di 4)))) (ret (.int 1)))))) (dIf (um (gCmp fun i j=>decide (j<=i)) (fj 5 (ret (.int 0)))) (dSub 2 (mVar 5) (M.d (mOp gAdd (gn (M.d (mOp gIx (fj 2 (di 5)))) (ret (.int 1)))))) (dSub 3 (M.d (mOp (gInt fSub) (gn (M.d (mOp (gInt fSub) (gn (ret (.int 0)) (di 5)))) (ret (.int 1))))) (M.d (mOp gAdd (gn (M.d (mOp gIx (fj 3 (M.d (mOp (gInt fSub) (gn (M.d (mOp (gInt fSub) (gn (ret (.int 0)) (di 5)))) (ret (.int 1)))))))) (ret (.int 1))))))))))
def pq:Fd:=fnD 6 5 abe
def vp:M D :=
 (mAnd (M.d (mFn jo [some 0] (cg 0 ie))) (M.d (mOp (gCmp fun i j=>decide (j<=i)) (fj 0 (ret (.int 0))))))
def ab3:Sd :=
 (dSeq (dIf (mOrB (yc (uo (mIsi .tuple (di 0)))) (um (gEq true) (gn (M.d (jc (g1 fun d=>(bz d).map fun l=>.v (.int l.length)) (dw 0 mNil))) (di 1)))) (dRet (M.v (ret (.bl false)))) dNx) (dRet (jc (g1 gAll) (bc (M.d (ac7 [none] (ab2 (mVar 0)) (ir 0) (ret true) vp)) mNil))))
def j0:Fd:=fnD 2 2 ab3
def je:Sd :=
 (dSeq (dIf (mOrB (yc (uo (M.d (mFn jo [some 6] (cg 6 ie))))) (mOrB (yc (uo (ad0 (fun i j=>decide (i<=j)) (fun i j=>decide (i < j)) (ret (.int 0)) (mVar 6) (M.d (jc (g1 fun d=>(bz d).map fun l=>.v (.int l.length)) (dw 0 mNil)))))) (um (gEq false) (gn (M.d (mOp gIx (fj 2 (di 6)))) (ret (.int 0)))))) (dRet (M.v (mTup (bc (ret (.str "nobody")) (bc (mVar 5) mNil))))) dNx) (acr (mFn pq [some 0,some 1,some 2,some 4,none] (cg 0 (cg 1 (cg 2 (cg 4 (bw (mVar 6) ie))))))))
def acl:Sd :=
 (dSeq (amw 1 2 4 (jc (g1 fun d=>(bz d).map fun l=>.fr l) (dw 1 mNil)) (jc (g1 fun d=>(bz d).map fun l=>.fr l) (dw 2 mNil)) (mLst (bc (ret (.int 0)) (bc (ret (.int 0)) (bc (ret (.int 0)) mNil))))) (dSeq (dFor (mGet ami (bc (mVar 3) mNil)) (bTup 2 (qp (ir 5) (qp (ir 6) bNil))) je) (dRet (M.v (mTup (bc (ret (.str "told")) (bc (mTup (bc (M.d (jc (g1 fun d=>(bz d).map fun l=>.v (.tup l)) (dw 1 mNil))) (bc (M.d (jc (g1 fun d=>(bz d).map fun l=>.v (.tup l)) (dw 2 mNil))) (bc (M.d (jc (g1 fun d=>(bz d).map fun l=>.v (.tup l)) (dw 4 mNil))) mNil)))) mNil)))))))
def f__law_due:Fd:=fnD 7 4 acl
def acz:Sd :=
 (dSeq (dIf (mOrB (um (gEq true) (gn (M.d (mFn uw [some 5] (cg 5 ie))) (ret (.str "nobody")))) (yc (uo (M.d (mFn jo [none] (bw (mFld ["NoHouse","Nobody","NoText"] "at" (mVar 5)) ie)))))) (dRet (M.v (mTup (bc (ret (.str "other")) (bc (ret .non) mNil))))) dNx) (dRet (M.v (mTup (bc (ret (.str "nobody")) (bc (mFld ["NoHouse","Nobody","NoText"] "at" (mVar 5)) mNil))))))
def abd:Sd :=
 (dSeq (dTry NS (dSet 4 (mFn sy [none,none,none,none] (bw (okS (mVar 0)) (bw (okS (mVar 1)) (bw (okS (mVar 2)) (bw (okS (mVar 3)) ie)))))) 5 acz) (dSeq (dIf (mOrB (yc (uo (mIsi .tuple (di 4)))) (mOrB (um (gEq true) (gn (M.d (jc (g1 fun d=>(bz d).map fun l=>.v (.int l.length)) (dw 4 mNil))) (ret (.int 3)))) (yc (uo (M.d (mFn j0 [none,none] (bw (M.d (mOp gIx (fj 4 (ret (.int 2))))) (bw (ret (.int 3)) ie)))))))) (dRet (M.v (mTup (bc (ret (.str "other")) (bc (ret .non) mNil))))) dNx) (dSeq (dIf (mOrB (yc (uo (M.d (mFn j0 [none,none] (bw (M.d (mOp gIx (fj 4 (ret (.int 0))))) (bw (M.d (jc (g1 fun d=>(bz d).map fun l=>.v (.int l.length)) (dw 0 mNil))) ie)))))) (yc (uo (M.d (mFn j0 [none,none] (bw (M.d (mOp gIx (fj 4 (ret (.int 1))))) (bw (M.d (jc (g1 fun d=>(bz d).map fun l=>.v (.int l.length)) (dw 0 mNil))) ie))))))) (dRet (M.v (mTup (bc (ret (.str "other")) (bc (ret .non) mNil))))) dNx) (dRet (M.v (mTup (bc (ret (.str "told")) (bc (mVar 4) mNil))))))))
def qz:Fd:=fnD 6 4 abd
def yr:M Bool :=
 (um (gCmp fun i j=>decide (j < i)) (gn (M.d (mOp gIx (fj 1 (di 0)))) (ret (.int 0))))
def ym:M D :=
 (mVar 0)
def ni:Sd :=
 (dSeq (dSet 7 (ac7 [none,some 3] (mGet yj (bc (M.d (jc (g1 fun d=>(bz d).map fun l=>.v (.int l.length)) (dw 1 mNil))) mNil)) (ir 0) yr ym)) (dIf (um (gEq true) (fj 7 (M.d (mLst mNil)))) (dSeq (acr (M.v (mMut 5 aea (bc (M.d (mOp gIx (fj 7 (M.d (mFn f__law_draw [some 0,none] (cg 0 (bw (M.d (jc (g1 fun d=>(bz d).map fun l=>.v (.int l.length)) (dw 7 mNil))) ie))))))) mNil)))) (acr (mFn pq [some 1,some 2,some 3,some 4,none] (cg 1 (cg 2 (cg 3 (cg 4 (bw (M.d (mOp gIx (fj 5 (mUn gNeg (ret (.int 1)))))) ie)))))))) dNx))
def ac2:Sd :=
 (dSeq (amw 2 3 4 (jc (g1 fun d=>(bz d).map fun l=>.fr l) (dw 2 mNil)) (jc (g1 fun d=>(bz d).map fun l=>.fr l) (dw 3 mNil)) (mLst (bc (ret (.int 0)) (bc (ret (.int 0)) (bc (ret (.int 0)) mNil))))) (dSeq (dSet 5 (mLst mNil)) (dSeq (dFor (mGet yj (bc (M.d (mFn f__law_draw [some 0,none] (cg 0 (bw (ret (.int 15)) ie)))) mNil)) (ir 6) ni) (dRet (akk 5)))))
def uc:Fd:=fnD 8 4 ac2
def yg:Sd :=
 (dIf (um (gEq true) (gn (M.d (mFn qz [none,none,none,none] (bw (mVar 0) (bw (mVar 1) (bw (mVar 2) (bw (mVar 4) ie)))))) (M.d (mFn f__law_due [some 0,some 1,some 2,none] (cg 0 (cg 1 (cg 2 (bw (mVar 3) ie)))))))) (dRet (M.v (ret (.bl false)))) dNx)
def ac3:Sd :=
 (dSeq (dSet 4 (jc (g1 fun d=>(bz d).map fun l=>.fr l) (dw 3 mNil))) (dSeq (dFor (mGet yj (bc (ret (.int 2)) mNil)) (ir 5) yg) (dRet (mOp gEqL (fj 4 (di 3))))))
def jq:Fd:=fnD 6 4 ac3
def ajc:Sd :=
 (dIf (mOrB (yc (uo (M.d (mFn jq [none,none,none,none] (bw (mVar 1) (bw (mTup (bc (ret (.int 0)) mNil)) (bw (mTup (bc (ret (.int 1)) mNil)) (bw (mVar 2) ie)))))))) (yc (uo (M.d (mFn jq [none,none,none,none] (bw (mVar 1) (bw (mTup (bc (ret (.int 1)) mNil)) (bw (mTup (bc (ret (.int 0)) mNil)) (bw (mVar 2) ie))))))))) (dRet (M.v (ret (.bl false)))) dNx)
def ajb:Sd :=
 (dIf (yc (uo (M.d (mFn jq [none,some 6,some 7,none] (bw (mVar 5) (cg 6 (cg 7 (bw (mVar 10) ie)))))))) (dRet (M.v (ret (.bl false)))) dNx)
def l3_law:Sd :=
 (dSeq (dSet 4 (mFn f__law_pen [some 3] (cg 3 ie))) (dSeq (dSet 5 (mFn f__law_house [some 4,none,none] (cg 4 (bw (ret (.int 5)) (bw (ret (.int 4)) ie))))) (dSeq (dPar 6 7 (bc (M.d (mFn f__law_drawn [some 4,none] (cg 4 (bw (mVar 5) ie)))) (bc (M.d (mFn ph [some 4,none,none] (cg 4 (bw (mVar 5) (bw (ret (.int 4)) ie))))) mNil))) (dSeq (dSet 2 (mFn uc [some 4,some 5,some 6,some 7] (cg 4 (cg 5 (cg 6 (cg 7 ie)))))) (dSeq (dSet 8 (mFn f__law_draw [some 4,none] (cg 4 (bw (M.d (mOp gAdd (gn (M.d (jc (g1 fun d=>(bz d).map fun l=>.v (.int l.length)) (dw 2 mNil))) (ret (.int 1))))) ie)))) (dSeq (dSet 9 (mOp gIx (gn (M.d (mLst (bc (M.d (jc (g1 fun d=>(bz d).map fun l=>.v (.int l.length)) (dw 5 mNil))) (bc (mUn gNeg (ret (.int 1))) (bc (ret (.bl true)) (bc (ret .non) (bc (M.d (mFn f__law_odd [some 4] (cg 4 ie))) (bc (M.d (mFn f__law_draw [some 4,none] (cg 4 (bw (M.d (jc (g1 fun d=>(bz d).map fun l=>.v (.int l.length)) (dw 5 mNil))) ie)))) mNil)))))))) (M.d (mFn f__law_draw [some 4,none] (cg 4 (bw (ret (.int 6)) ie))))))) (dFor (ab2 (M.d (mLst (bc (mVar 2) (bc (M.d (mOp gAdd (gn (M.d (mOp gAdd (gn (M.d (agz 2 (ret none) (af2 (mVar 8)))) (M.d (mLst (bc (mVar 9) mNil)))))) (M.d (agz 2 (af2 (mVar 8)) (ret none)))))) (bc (M.d (mOp gAdd (gn (M.d (agz 2 (af2 (mVar 8)) (ret none))) (M.d (agz 2 (ret none) (af2 (mVar 8))))))) (bc (M.d (agz 2 (ret none) (af2 (mVar 8)))) mNil))))))) (ir 10) ajb)))))))
def avs:Sd :=
 (dSeq (dSet 1 (M.v (mTup (bc (mTup (bc (ret (.int 0)) (bc (mUn gNeg (ret (.int 2))) mNil))) mNil)))) (dSeq (dFor (ab2 (M.d (mLst (bc (M.d (mLst mNil)) (bc (M.d (mLst (bc (ret (.int 0)) mNil))) (bc (M.d (mLst (bc (ret (.int 0)) (bc (ret (.int 0)) mNil)))) (bc (M.d (mLst (bc (ret (.int 0)) (bc (ret (.int 0)) (bc (ret (.int 0)) mNil))))) (bc (M.d (mLst (bc (ret (.int 1)) mNil))) (bc (M.d (mLst (bc (mUn gNeg (ret (.int 1))) mNil))) (bc (M.d (mLst (bc (ret .non) mNil))) (bc (M.d (mLst (bc (ret (.bl true)) mNil))) (bc (M.d (mLst (bc (ret (.bl false)) mNil))) mNil)))))))))))) (ir 2) ajc) (dSeq (dFor (ab2 (M.d (mOp gAdd (gn (M.d (mLst (bc (M.d (mFn f__law_cell [some 0,none] (cg 0 (bw (ret (.int 0)) ie)))) mNil))) (M.d (agz 0 (af2 (ret (.int 1))) (af2 (ret (.int 4))))))))) (ir 3) l3_law) (dRet (M.v (ret (.bl true)))))))
def amn:Fd:=fnD 11 1 avs
def yu:D->Bool
 | .int _=>true
 | _=>false
def za(a b:Int):D->Bool
 | .int i=>decide (a<=i)&&decide (i<=b)
 | _=>false
@[simp] theorem ase(d:D):wz [.val d]=some (.ok (.v (.bl (yu d))),[.val d]):=by
 cases d <;> simp[wz,ae1,isTy,yu]
@[simp] theorem ajf(d:D)(a b:Int):jb [.val d,.val (.int a),.val (.int b)]=some (.ok (.v (.bl (za a b d))),[.val d,.val (.int a),.val (.int b)]):=by
 cases d <;> simp[jb,wy,yu,za]
theorem am3(ns:List Int)(k:Int)(h:0<=k):∃n,f__law_cell [.val (.kst (ns.map D.int)),.val (.int k)]=some (.ok (.v (.int n)),[.val (.kst (ns.map D.int)),.val (.int k)]):=by
 by_cases hk:k < (ns.length:Int)
 ·have e:atI (ns.map D.int) k=some (.int (ns[k.toNat]'(by omega))):=by
   have h2:atI (ns.map D.int) ((k.toNat:Nat):Int)=some (.int (ns[k.toNat]'(by omega))):=ait (by simp[List.getElem?_map,List.getElem?_eq_getElem (show k.toNat < ns.length by omega)])
   rw[show((k.toNat:Nat):Int)=k by omega] at h2
   exact h2
  exact⟨ns[k.toNat]'(by omega),by simp[f__law_cell,abg,hk,e]⟩
 ·exact⟨0,by simp[f__law_cell,abg,hk]⟩
def pen(P:Int×Int):List D:=[.int P.1,.int P.2]
theorem an3(n:Int):∃P,f__law_pen [.val (.int n)]=some (.ok (.fr (pen P)),[.val (.int n)]):=by
 refine⟨(if 0 - n > n then 0 - n else n,if 10 ^ 18<=(if 0 - n > n then 0 - n else n) then 1 else 0),?_⟩
 simp[f__law_pen,ae2,pen,fPow]
theorem j5(P:Int×Int)(m:Int)(h0:0 < m)(h1:m < 1000000000000000000000000000000000000000000000000000000000000):∃r P',f__law_draw [.own (some 0) (pen P),.val (.int m)]=some (.ok (.v (.int r)),[.own (some 0) (pen P'),.val (.int m)])/\0<=r/\r < m:=by
 obtain⟨a,b⟩:=P
 by_cases hb:b=1
 ·refine⟨a % m,(a / m,b),?_,Int.emod_nonneg _ (by omega),Int.emod_lt_of_pos _ h0⟩
  simp[f__law_draw,abf,pen,hb,h0,h1,atI,ixN]
 ·have z0:0<=(a % 2147483647+40503)*69621 % 2147483629:=Int.emod_nonneg _ (by decide)
  have z1:(a % 2147483647+40503)*69621 % 2147483629 < 2147483629:=Int.emod_lt_of_pos _ (by decide)
  generalize hz:(a % 2147483647+40503)*69621 % 2147483629=z at z0 z1;have hm:fMul z z=some (z*z):=by
   unfold fMul;rw[if_pos (.inl ⟨by omega,by omega⟩)]
  refine⟨((z*z+7817) % 2147483587*48271+11) % 2147483629 / 32 % m,(((z*z+7817) % 2147483587*48271+11) % 2147483629,b),?_,Int.emod_nonneg _ (by omega),Int.emod_lt_of_pos _ h0⟩
  have h69:∀x:Int,fMul x 69621=some (x*69621):=fun x=>by unfold fMul;rw[if_pos (.inr (by decide))]
  have h48:∀x:Int,fMul x 48271=some (x*48271):=fun x=>by unfold fMul;rw[if_pos (.inr (by decide))]
  simp[f__law_draw,abf,pen,hb,h0,h1,atI,ixN,h69,h48,hm,fMod,fDiv,hz]
structure HouseOk (m w:Int) (qv:LL9):Prop where
 one:1<=qv.length
 most:(qv.length:Int)<=m
 room:∀r∈qv,1<=r.length/\(r.length:Int)<=w/\∀x∈r,-3<=x/\x < (qv.length:Int)
def hDs(qv:LL9):List D:=qv.map fun r=>D.tup (r.map D.int)
def hD(qv:LL9):D:=.tup (hDs qv)
theorem akn(P:Int×Int)(m w:Int)(m1:1<=m)(m2:m<=10)(w1:1<=w)(w2:w<=6):∃qv P',f__law_house [.own (some 0) (pen P),.val (.int m),.val (.int w)]=some (.ok (.v (hD qv)),[.own (some 0) (pen P'),.val (.int m),.val (.int w)])/\HouseOk m w qv:=by
 obtain⟨r1,P1,e1,r1a,r1b⟩:=j5 P m (by omega) (by omega)
 obtain⟨r2,P2,e2,r2a,r2b⟩:=j5 P1 4 (by decide) (by decide)
 have hg:∃g:Int,atI [D.int 0,D.int 1,D.int 3,D.int 3] r2=some (.int g)/\0<=g/\g<=3:=by
  have:r2=0∨r2=1∨r2=2∨r2=3:=by omega
  rcases this with rfl | rfl | rfl | rfl
  ·exact⟨0,rfl,by decide,by decide⟩
  ·exact⟨1,rfl,by decide,by decide⟩
  ·exact⟨3,rfl,by decide,by decide⟩
  ·exact⟨3,rfl,by decide,by decide⟩
 obtain⟨g,eg,g0,g3⟩:=hg;have loop:=agb (b:=ir 6) (g:=yh) (fun i ρ=>∃qv P o1 o2,ρ=[.own (some 0) (pen P),.val (.int m),.val (.int w),.val (.int (1+r1)),.val (.int g),.own none (hDs qv),o1,o2]/\qv.length=i/\∀r∈qv,1<=r.length/\(r.length:Int)<=w/\∀x∈r,-3<=x/\x < 1+r1)
  (l:=km 0 (1+r1).toNat) (ρ:=[.own (some 0) (pen P2),.val (.int m),.val (.int w),.val (.int (1+r1)),.val (.int g),.own none [],.emp,.emp]) 0 ⟨[],P2,.emp,.emp,rfl,rfl,by simp⟩ ?_
 ·obtain⟨ρ',e3,qv,P3,o1,o2,rfl,hl,hr⟩:=loop;have hl:qv.length=(1+r1).toNat:=by simpa[km] using hl
  refine⟨qv,P3,?_,by omega,by omega,fun r h =>?_⟩
  ·have hb:(1+r1).natAbs < 4611686018427387904:=by omega
   simp[f__law_house,ac4,e1,e2,eg,hb,e3,hD]
  ·obtain⟨a,b,c⟩:=hr r h;exact⟨a,b,fun x hx=>by have:=c x hx;omega⟩
 ·rintro i d ρ hd ⟨qv,P4,o1,o2,rfl,hl,hr⟩
  obtain⟨r5,P5,e5,r5a,r5b⟩:=j5 P4 w (by omega) (by omega)
  have comp:=aal (b:=ir 0) (mc:=ret true) (me:=yo) (fun j ys ρ=>∃ns P o,ρ=[o,.own (some 1) (pen P),.val (.int (1+r1)),.val (.int g)]/\ys=ns.map D.int/\ns.length=j/\∀x∈ns,-3<=x/\x < 1+r1)
   (l:=km 0 (1+r5).toNat) (ys:=[]) (ρ:=[.emp,.own (some 1) (pen P5),.val (.int (1+r1)),.val (.int g)]) 0 ⟨[],P5,.emp,rfl,rfl,rfl,by simp⟩ ?_
  ·obtain⟨ys,ρ',e6,ns,P6,o,rfl,rfl,hn,hx⟩:=comp;have hn:ns.length=(1+r5).toNat:=by simpa[km] using hn
   have hb:(1+r5).natAbs < 4611686018427387904:=by omega
   have hc1:ns.length<=capS:=dz (by omega)
   have hi:i < (1+r1).toNat:=by
    have:=(List.getElem?_eq_some_iff.mp hd).1
    simpa[km] using this
   have hc2:(hDs qv).length < capS:=by simp[hDs,capS];omega
   refine⟨_,[.own (some 0) (pen P6),.val (.int m),.val (.int w),.val (.int (1+r1)),.val (.int g),.own none (hDs (qv++[ns])),.val d,.val (.int (1+r5))],rfl,.inl (by simp[yh,e5,hb,e6,hc1,hc2];simp[hDs]),qv++[ns],P6,_,_,rfl,by simp[hl],fun r h =>?_⟩
   rcases List.mem_append.mp h with h | h
   ·exact hr r h
   ·obtain rfl:r=ns:=by simpa using h
    exact⟨by omega,by omega,hx⟩
  ·rintro j d ys ρ hd ⟨ns,P6,o,rfl,rfl,hn,hx⟩
   obtain⟨r7,P7,e7,r7a,r7b⟩:=j5 P6 (1+r1+g) (by omega) (by omega)
   refine⟨_,_,true,rfl,rfl,.inr ⟨rfl,.int (r7 - g),_,by simp[yo,e7];rfl,ns++[r7 - g],P7,_,rfl,by simp,by simp[hn],fun x h =>?_⟩⟩
   rcases List.mem_append.mp h with h | h
   ·exact hx x h
   ·obtain rfl:x=r7 - g:=by simpa using h
    omega
@[simp] theorem ap1(d:D):jo [.val d]=some (.ok (.v (.bl (yu d))),[.val d]):=by
 cases d <;> simp[jo,ac1,isTy,yu]
structure Hs (qv:LL9):Prop where
 one:1<=qv.length
 most:qv.length<=10
 room:∀r∈qv,1<=r.length/\r.length<=6/\∀x∈r,-3<=x/\x < (qv.length:Int)
def dr(qv:LL9)(x:Int):List Int:=qv.getD x.toNat []
theorem anf{qv:LL9}{x:Int}(h0:0<=x)(h1:x < (qv.length:Int)):atI (hDs qv) x=some (.tup ((dr qv x).map D.int)):=by
 have hk:x.toNat < qv.length:=by omega
 have q:atI (hDs qv) ((x.toNat:Nat):Int)=some (.tup ((dr qv x).map D.int)):=ait (by simp[hDs,dr,List.getElem?_eq_getElem hk])
 rw[show((x.toNat:Nat):Int)=x by omega] at q
 exact q
theorem Hs.dr{qv:LL9}(h:Hs qv){x:Int}(h0:0<=x)(h1:x < (qv.length:Int)):1<=(dr qv x).length/\(My.dr qv x).length<=6/\∀y∈My.dr qv x,-3<=y/\y < (qv.length:Int):=by
 have hk:x.toNat < qv.length:=by omega
 have e:My.dr qv x=qv[x.toNat]:=by simp[My.dr,hk]
 rw[e];exact h.room _ (List.getElem_mem hk)
theorem HouseOk.hs{m w:Int}{qv:LL9}(h:HouseOk m w qv)(hm:m<=10)(hw:w<=6):Hs qv :=
 ⟨h.one,by have:=h.most;omega,fun r hr=>by obtain⟨a,b,c⟩:=h.room r hr;exact⟨a,by omega,c⟩⟩
def upto(n:Nat):List Int:=(List.range n).map fun i=>((i:Nat):Int)
theorem ah7(n:Nat):km 0 n=(upto n).map D.int:=by
 unfold km upto;rw[List.map_map];apply List.map_congr_left;intro i _;simp
theorem ai6{n:Nat}{x:Int}(h:x∈upto n):0<=x/\x < (n:Int):=by
 obtain⟨i,hi,rfl⟩:=List.mem_map.mp h;have:=List.mem_range.mp hi;omega
theorem ur(qv:LL9):(hDs qv).length=qv.length:=by simp[hDs]
theorem amg{qv:LL9}{i:Nat}{d:D}(h:(hDs qv)[i]? = some d):∃r,qv[i]? = some r/\d=.tup (r.map D.int):=by
 unfold hDs at h;rw[List.getElem?_map] at h;obtain⟨r,e,rfl⟩:=Option.map_eq_some_iff.mp h;exact⟨r,e,rfl⟩
structure Arr (qv:LL9) (as:List Int):Prop where
 len:as.length=qv.length
 ok:∀(i:Nat) (a:Int) (r:List Int),as[i]? = some a->qv[i]? = some r->0<=a/\a < (r.length:Int)
def ar(as:List Int)(x:Int):Int:=as.getD x.toNat 0
theorem Arr.at{qv:LL9}{as:List Int}(h:Arr qv as){x:Int}(h0:0<=x)(h1:x < (qv.length:Int)):0<=ar as x/\ar as x < ((dr qv x).length:Int):=by
 have hk:x.toNat < qv.length:=by omega
 have hk2:x.toNat < as.length:=by rw[h.len];exact hk
 have:=h.ok x.toNat as[x.toNat] qv[x.toNat] (List.getElem?_eq_getElem hk2) (List.getElem?_eq_getElem hk)
 simpa[ar,dr,hk,hk2] using this
theorem aiv(P:Int×Int){qv:LL9}(h:Hs qv):∃as P',f__law_drawn [.own (some 0) (pen P),.val (hD qv)]=some (.ok (.v (.tup (as.map D.int))),[.own (some 0) (pen P'),.val (hD qv)])/\Arr qv as:=by
 have comp:=aal (b:=ir 0) (mc:=ret true) (me:=yp) (fun j ys ρ=>∃ns P o,ρ=[o,.own (some 1) (pen P)]/\ys=ns.map D.int/\ns.length=j/\∀(i:Nat) (a:Int) (r:List Int),ns[i]? = some a->qv[i]? = some r->0<=a/\a < (r.length:Int))
  (l:=hDs qv) (ys:=[]) (ρ:=[.emp,.own (some 1) (pen P)]) 0 ⟨[],P,.emp,rfl,rfl,rfl,by simp⟩ ?_
 ·obtain⟨ys,ρ',e6,ns,P6,o,rfl,rfl,hn,hx⟩:=comp;rw[ur,Nat.zero_add] at hn;have hc:ns.length<=capS:=dz (by have:=h.most;omega)
  exact⟨ns,P6,by simp[f__law_drawn,ac5,hD,e6,hc],hn,hx⟩
 ·rintro j d ys ρ hd ⟨ns,P6,o,rfl,rfl,hn,hx⟩
  obtain⟨r,hr,rfl⟩:=amg hd;obtain⟨k1,k2,k3⟩:=h.room r (List.mem_of_getElem? hr);obtain⟨r7,P7,e7,r7a,r7b⟩:=j5 P6 (r.length:Int) (by omega) (by omega)
  refine⟨_,_,true,rfl,rfl,.inr ⟨rfl,.int r7,[.val (.tup (r.map D.int)),.own (some 1) (pen P7)],by simp[yp,e7],ns++[r7],P7,_,rfl,by simp,by simp[hn],fun i a q ha hq =>?_⟩⟩
  rcases Nat.lt_or_ge i ns.length with z | z
  ·rw[List.getElem?_append_left z] at ha;exact hx i a q ha hq
  ·have hi:i=ns.length:=by
    have:=(List.getElem?_eq_some_iff.mp ha).1;simp at this;omega
   subst hi;simp at ha;subst ha;have:ns.length=j:=by omega
   rw[this,hr] at hq;cases hq;exact⟨r7a,r7b⟩
def gone(qv:LL9)(as:List Int)(k:Int):List Int:=as.set k.toNat ((ar as k+1) % ((dr qv k).length:Int))
def led(qv:LL9)(as:List Int)(k:Int):Int:=(dr qv k).getD (ar as k).toNat 0
section
variable{qv:LL9}(h:Hs qv){as:List Int}(ha:Arr qv as){k:Int}(h0:0<=k)(h1:k < (qv.length:Int))
include h ha h0 h1
theorem ajy:atI (as.map D.int) k=some (.int (ar as k)):=sr h0 (by rw[ha.len];exact h1)
theorem as8:atI ((dr qv k).map D.int) (ar as k)=some (.int (led qv as k)):=sr (ha.at h0 h1).1 (ha.at h0 h1).2
theorem ahd(x:Int):fMod x ((dr qv k).length:Int)=some (x % ((dr qv k).length:Int)):=by
 have:=(h.dr h0 h1).1;unfold fMod;rw[if_pos (by omega)]
end
section
variable{qv:LL9}(h:Hs qv){as:List Int}(ha:Arr qv as){k:Int}(h0:0<=k)(h1:k < (qv.length:Int))
include h ha h0 h1
theorem af8:Arr qv (gone qv as k):=by
 have hd:=(h.dr h0 h1).1;refine⟨by unfold gone;rw[List.length_set];exact ha.len,fun i a r g1 g2 =>?_⟩
 unfold gone at g1;rw[List.getElem?_set] at g1;split at g1
 ·rename_i hi;subst hi;split at g1
  ·cases g1;have:dr qv k=r:=by simp[dr,g2]
   rw[this] at hd ⊢
   exact⟨Int.emod_nonneg _ (by omega),Int.emod_lt_of_pos _ (by omega)⟩
  ·cases g1
 ·exact ha.ok i a r g1 g2
end
theorem ap0{qv:LL9}(h:Hs qv){as:List Int}(ha:Arr qv as){k:Int}(h0:0<=k)(h1:k < (qv.length:Int)) : -3<=led qv as k/\led qv as k < (qv.length:Int):=by
 obtain⟨a1,a2⟩:=ha.at h0 h1;have hk:(ar as k).toNat < (dr qv k).length:=by omega
 have:led qv as k∈dr qv k:=by
  unfold led;simp[hk]
 exact(h.dr h0 h1).2.2 _ this
theorem ag7{qv:LL9}(h:Hs qv){as:List Int}(ha:Arr qv as):uv [.val (hD qv),.val (.tup (as.map D.int))]=some (.ok (.v (.bl true)),[.val (hD qv),.val (.tup (as.map D.int))]):=by
 have hl:=ha.len;have hle:(as.map D.int).length<=(hDs qv).length:=by rw[ur,List.length_map];omega
 have comp:=aal (b:=bTup 2 (qp (ir 0) (qp (ir 1) bNil))) (mc:=ret true) (me:=aah) (fun j ys ρ=>∃o1 o2,ρ=[o1,o2]/\ys=(List.replicate j true).map D.bl)
  (l:=abm (as.map D.int) (hDs qv)) (ys:=[]) (ρ:=[.emp,.emp]) 0 ⟨.emp,.emp,rfl,rfl⟩ ?_
 ·obtain⟨ys,ρ',e6,o1,o2,rfl,rfl⟩:=comp;rw[aku hle,List.length_map,Nat.zero_add] at e6;have hc:as.length<=capS:=dz (by have:=h.most;omega)
  have e1:gj [.val (.tup (as.map D.int)),.val (.int (qv.length:Int)),.val (.int (qv.length:Int))]=some (.ok (.v (.bl true)),[.val (.tup (as.map D.int)),.val (.int (qv.length:Int)),.val (.int (qv.length:Int))]):=by
   have:(as.length:Int)=qv.length:=by omega
   simp[gj,qy,isTy,this]
  have hle2:as.length<=(hDs qv).length:=by simpa using hle
  have hl3:=ur qv;have hl4:qv.length<=capS:=hl▸hc;have hbl:vg (List.replicate qv.length (D.bl true))=some (List.replicate qv.length true):=by
   have:=acs (List.replicate qv.length true);rwa[List.map_replicate] at this
  simp only[hD];simp[uv,ad9,hl3,e1,e6,hl,hl4,hbl]
 ·rintro j d ys ρ hd ⟨o1,o2,rfl,rfl⟩
  obtain⟨d1,d2,g1,g2,rfl⟩:=agf hd;obtain⟨r,hr,rfl⟩:=amg g2;rw[List.getElem?_map] at g1;obtain⟨a,ga,rfl⟩:=Option.map_eq_some_iff.mp g1;obtain⟨b0,b1⟩:=ha.ok j a r ga hr;have b2:a<=(r.length:Int) - 1:=by omega
  refine⟨[.val (.int a),.val (.tup (r.map D.int))],_,true,by simp,rfl,.inr ⟨rfl,.bl true,[.val (.int a),.val (.tup (r.map D.int))],by simp[aah,za,b0,b2],_,_,rfl,?_⟩⟩
  rw[List.replicate_succ',List.map_append];rfl
theorem ac6{qv:LL9}{bs:List Int}{p:Int}(hp:p.toNat < bs.length):ar (gone qv bs p) p=(ar bs p+1) % ((dr qv p).length:Int):=by
 unfold gone;generalize (ar bs p+1) % ((dr qv p).length:Int)=z;unfold ar;simp[hp]
theorem akr{qv:LL9}{bs:List Int}{p x:Int}(hx:0<=x)(hp:0<=p)(hne:x≠p):ar (gone qv bs p) x=ar bs x:=by
 have:p.toNat≠x.toNat:=by omega
 unfold gone;generalize (ar bs p+1) % ((dr qv p).length:Int)=z;unfold ar;simp[List.getD_eq_getElem?_getD,List.getElem?_set,this]
def go(qv:LL9):List Int->List Int->List Int
 | as,[]=>as
 | as,x::s=>go qv (gone qv as x) s
def arv(qv:LL9)(d:Int):List Int->List Int->Nat
 | _,[]=>0
 | as,x::s=>(if led qv as x=d then 1 else 0)+arv qv d (gone qv as x) s
def us(qv:LL9)(as:List Int)(y d:Int):Nat->Nat
 | 0=>0
 | n+1=>us qv as y d n+if (dr qv y).getD ((ar as y+(n:Int)) % ((dr qv y).length:Int)).toNat 0=d then 1 else 0
def InR(qv:LL9)(s:List Int):Prop:=∀x∈s,0<=x/\x < (qv.length:Int)
theorem ag9(qv:LL9):∀(s t as:List Int),go qv as (s++t)=go qv (go qv as s) t
 | [],t,as=>rfl
 | x::s,t,as=>ag9 qv s t (gone qv as x)
theorem nq(qv:LL9)(d:Int):∀(s t as:List Int),arv qv d as (s++t)=arv qv d as s+arv qv d (go qv as s) t
 | [],t,as=>by simp[arv,go]
 | x::s,t,as=>by
  show(if led qv as x=d then 1 else 0)+arv qv d (gone qv as x) (s++t)=(if led qv as x=d then 1 else 0)+arv qv d (gone qv as x) s+arv qv d (go qv (gone qv as x) s) t
  rw[nq qv d s t];omega
theorem aaj(x y:Int)(s:List Int):(x::s).count y=s.count y+if x=y then 1 else 0:=by
 rw[List.count_cons];simp
theorem agy{a c w:Int}(hw:0 < w):((a+1) % w+c) % w=(a+(c+1)) % w:=by
 rw[Int.emod_add_emod]
 congr 1
 omega
section
variable{qv:LL9}(h:Hs qv)
include h
theorem aay:∀(s:List Int) {as:List Int},Arr qv as->InR qv s->Arr qv (go qv as s)
 | [],_,ha,_=>ha
 | x::s,as,ha,hs=>aay s (af8 h ha (hs x (List.mem_cons_self ..)).1 (hs x (List.mem_cons_self ..)).2) fun y hy=>hs y (List.mem_cons_of_mem _ hy)
theorem apj{y:Int}(y0:0<=y)(y1:y < (qv.length:Int)):∀(s:List Int) {as:List Int},Arr qv as->InR qv s->ar (go qv as s) y=(ar as y+(s.count y:Int)) % ((dr qv y).length:Int)
 | [],as,ha,_=>by
  have a:=ha.at y0 y1;show ar as y=(ar as y+0) % _;rw[Int.add_zero,Int.emod_eq_of_lt a.1 a.2]
 | x::s,as,ha,hs=>by
  have hx:=hs x (List.mem_cons_self ..);have hd:=(h.dr y0 y1).1;have hal:=ha.len;have ih:=apj y0 y1 s (af8 h ha hx.1 hx.2) fun z hz=>hs z (List.mem_cons_of_mem _ hz)
  show ar (go qv (gone qv as x) s) y=_;rw[ih,aaj]
  by_cases e:x=y
  ·subst e;rw[ac6 (by omega),if_pos rfl,agy (by omega),Int.natCast_add]
   rfl
  ·rw[akr y0 hx.1 (Ne.symm e),if_neg e];rfl
theorem ak2{as:List Int}(ha:Arr qv as){x d:Int}(x0:0<=x)(x1:x < (qv.length:Int)):∀n,us qv as x d (n+1)=(if led qv as x=d then 1 else 0)+us qv (gone qv as x) x d n
 | 0=>by
  have a:=ha.at x0 x1;show 0+(if (dr qv x).getD ((ar as x+0) % ((dr qv x).length:Int)).toNat 0=d then 1 else 0)=_+0
  rw[Int.add_zero,Int.emod_eq_of_lt a.1 a.2];unfold led;omega
 | n+1=>by
  have ih:=ak2 ha (d:=d) x0 x1 n;have hd:=(h.dr x0 x1).1;have hal:=ha.len;have e1:us qv as x d (n+2)=us qv as x d (n+1)+if (dr qv x).getD ((ar as x+((n+1:Nat):Int)) % ((dr qv x).length:Int)).toNat 0=d then 1 else 0:=rfl
  have e2:us qv (gone qv as x) x d (n+1)=us qv (gone qv as x) x d n+if (dr qv x).getD ((ar (gone qv as x) x+(n:Int)) % ((dr qv x).length:Int)).toNat 0=d then 1 else 0:=rfl
  rw[e1,e2,ih,ac6 (by omega),agy (by omega),Int.natCast_add]
  show _+_+(if (dr qv x).getD ((ar as x+((n:Int)+1)) % ((dr qv x).length:Int)).toNat 0=d then 1 else 0)=_
  omega
end
def Lg(qv:LL9)(as:List Int)(w:Int->Nat)(s:List Int):Prop:=∀p x q,s=p++x::q->(0<=x/\x < (qv.length:Int))/\p.count x < w x+arv qv x as p
def Stb(qv:LL9)(as:List Int)(w:Int->Nat)(s:List Int):Prop:=∀x,0<=x->x < (qv.length:Int)->s.count x=w x+arv qv x as s
theorem InR.append{qv:LL9}{s t:List Int}(hs:InR qv s)(ht:InR qv t):InR qv (s++t):=fun x hx=>(List.mem_append.mp hx).elim (hs x) (ht x)
section
variable{qv:LL9}(h:Hs qv){as:List Int}(ha:Arr qv as){w:Int->Nat}
include h ha
theorem Lg.append{w2:Int->Nat}{s t:List Int}(hs:Lg qv as w s)(ss:Stb qv as w s)(ht:Lg qv (go qv as s) w2 t):Lg qv as (fun x=>w x+w2 x) (s++t):=fun p x q e=>by
 rcases List.append_eq_append_iff.mp e with⟨r,e1,e2⟩ | ⟨r,e1,e2⟩
 ·-- the beginning is longer than s
  obtain⟨b,l⟩:=ht r x q e2;have z:=ss x b.1 b.2;refine⟨b,?_⟩;rw[e1,List.count_append,nq];show s.count x+r.count x < w x+w2 x+_;omega
 ·cases r with
  | nil =>
   rw[List.nil_append] at e2;obtain⟨b,l⟩:=ht [] x q (by rw[List.nil_append];exact e2.symm)
   rw[List.append_nil] at e1;have z:=ss x b.1 b.2;refine⟨b,?_⟩;rw[<-e1];have l:([]:List Int).count x < w2 x+0:=l;simp at l;show s.count x < w x+w2 x+arv qv x as s;omega
  | cons y r =>
   rw[List.cons_append,List.cons.injEq] at e2;obtain⟨rfl,e2⟩:=e2;obtain⟨b,l⟩:=hs p x r e1;refine⟨b,?_⟩;show p.count x < w x+w2 x+_;omega
omit h ha in
theorem Stb.append{w2:Int->Nat}{s t:List Int}(ss:Stb qv as w s)(st:Stb qv (go qv as s) w2 t):Stb qv as (fun x=>w x+w2 x) (s++t):=fun x x0 x1=>by
 have a:=ss x x0 x1;have b:=st x x0 x1;rw[List.count_append,nq];show _=w x+w2 x+_;omega
end
def tal(n:Nat)(s:List Int):List Int:=(List.range n).map fun i=>((s.count ((i:Nat):Int):Nat):Int)
theorem ab9(n:Nat)(s:List Int):(tal n s).length=n:=by simp[tal]
theorem aqp(n:Nat):tal n []=List.replicate n 0:=by
 apply List.ext_getElem?;intro i
 by_cases hi:i < n
 ·simp[tal,hi]
 ·simp[tal,hi]
theorem aqq{n:Nat}(s:List Int){i:Nat}(hi:i < n):(tal n s)[i]? = some ((s.count ((i:Nat):Int):Nat):Int):=by
 unfold tal;rw[List.getElem?_map,List.getElem?_range hi];rfl
theorem Lg.nil{qv:LL9}{as:List Int}{w:Int->Nat}:Lg qv as w []:=fun p x q e=>by simp at e
theorem Lg.snoc{qv:LL9}{as:List Int}{w:Int->Nat}{s:List Int}(l:Lg qv as w s){x:Int}(x0:0<=x)(x1:x < (qv.length:Int))(h:s.count x < w x+arv qv x as s):Lg qv as w (s++[x]):=fun p y q e=>by
 rcases List.append_eq_append_iff.mp e with⟨r,e1,e2⟩ | ⟨r,e1,e2⟩
 ·cases r with
  | nil =>
   rw[List.nil_append,List.cons.injEq] at e2;rw[List.append_nil] at e1;subst e1;rw[<-e2.1];exact⟨⟨x0,x1⟩,h⟩
  | cons z r=>simp at e2
 ·cases r with
  | nil =>
   rw[List.nil_append] at e2;rw[List.append_nil] at e1;subst e1;have e3:=(List.cons.injEq ..).mp e2;rw[e3.1];exact⟨⟨x0,x1⟩,h⟩
  | cons z r =>
   rw[List.cons_append,List.cons.injEq] at e2;obtain⟨rfl,e2⟩:=e2;exact l p y r e1
def wf(ws:List Int):Int->Nat:=fun x=>(ws.getD x.toNat 0).toNat
def stn(qv:LL9)(as ws s:List Int):List Int:=(List.range qv.length).map fun i=>((wf ws ((i:Nat):Int)+arv qv ((i:Nat):Int) as s:Nat):Int) - ((s.count ((i:Nat):Int):Nat):Int)
def gts(qv:LL9)(as s:List Int):List Int:=[(arv qv (-1) as s:Int),(arv qv (-2) as s:Int),(arv qv (-3) as s:Int)]
theorem jl(qv:LL9)(as ws s:List Int):(stn qv as ws s).length=qv.length:=by simp[stn]
theorem aa2{qv:LL9}(as ws s:List Int){x:Int}(x0:0<=x)(x1:x < (qv.length:Int)):(stn qv as ws s).getD x.toNat 0=((wf ws x+arv qv x as s:Nat):Int) - ((s.count x:Nat):Int):=by
 have hk:x.toNat < qv.length:=by omega
 unfold stn;rw[List.getD_eq_getElem?_getD,List.getElem?_map,List.getElem?_range hk];show((wf ws ((x.toNat:Nat):Int)+arv qv ((x.toNat:Nat):Int) as s:Nat):Int) - ((s.count ((x.toNat:Nat):Int):Nat):Int)=_;rw[show((x.toNat:Nat):Int)=x by omega]
theorem ah2{qv:LL9}{as ws:List Int}(hl:ws.length=qv.length)(h0:∀w∈ws,0<=w):stn qv as ws []=ws:=by
 apply List.ext_getElem?;intro i
 by_cases hi:i < qv.length
 ·have hk:i < ws.length:=by omega
  unfold stn;rw[List.getElem?_map,List.getElem?_range hi,List.getElem?_eq_getElem hk];show some ((((ws.getD ((i:Nat):Int).toNat 0).toNat+0:Nat):Int) - ((0:Nat):Int))=some ws[i];rw[Int.toNat_natCast,List.getD_eq_getElem?_getD,List.getElem?_eq_getElem hk];have:=h0 ws[i] (List.getElem_mem hk);show some (((ws[i].toNat+0:Nat):Int) - ((0:Nat):Int))=_
  congr 1
  omega
 ·rw[List.getElem?_eq_none (by rw[jl];omega),List.getElem?_eq_none (by omega)]
def U(n a L d:Int):Int:=(L+n - 1 - (d - a) % n) / n
theorem apc{x n:Int}(hn:0 < n):(x+1) / n=x / n+if x % n=n - 1 then 1 else 0:=by
 have h1:=Int.emod_nonneg x (by omega:n≠0)
 have h2:=Int.emod_lt_of_pos x hn;have h3:=Int.emod_add_mul_ediv x n;split
 ·rename_i h;exact((Int.ediv_emod_unique hn (r:=0) (q:=x / n+1)).mpr ⟨by rw[Int.mul_add,Int.mul_one];omega,by omega,hn⟩).1
 ·rename_i h;rw[Int.add_zero];exact((Int.ediv_emod_unique hn (r:=x % n+1) (q:=x / n)).mpr ⟨by omega,by omega,by omega⟩).1
theorem al1{n a L d:Int}(hn:0 < n)(d0:0<=d)(d1:d < n):(L+n - 1 - (d - a) % n) % n=n - 1↔d=(a+L) % n:=by
 have s0:=Int.emod_nonneg (a+L) (by omega:n≠0)
 have s1:=Int.emod_lt_of_pos (a+L) hn;have e1:=Int.emod_add_mul_ediv (a+L) n;have e2:=Int.emod_add_mul_ediv (d - a) n;have ex:L+n - 1 - (d - a) % n=((a+L) % n - d - 1)+n*((a+L) / n+(d - a) / n+1):=by
  rw[Int.mul_add,Int.mul_add,Int.mul_one];omega
 rw[ex,Int.add_mul_emod_self_left];generalize (a+L) % n=s at s0 s1;constructor
 ·intro h;rcases Int.lt_trichotomy s d with q | q | q
  ·have:(s - d - 1) % n=s - d - 1+n:=by
    rw[<-Int.add_emod_right];exact Int.emod_eq_of_lt (by omega) (by omega)
   omega
  ·exact q.symm
  ·have:(s - d - 1) % n=s - d - 1:=Int.emod_eq_of_lt (by omega) (by omega)
   omega
 ·intro h;subst h;have:(d - d - 1) % n=d - d - 1+n:=by
   rw[<-Int.add_emod_right];exact Int.emod_eq_of_lt (by omega) (by omega)
  omega
theorem awc{n a L d:Int}(hn:0 < n)(d0:0<=d)(d1:d < n):U n a (L+1) d=U n a L d+if d=(a+L) % n then 1 else 0:=by
 unfold U;rw[show L+1+n - 1 - (d - a) % n=(L+n - 1 - (d - a) % n)+1 by omega,apc hn]
 by_cases h:d=(a+L) % n
 ·rw[if_pos ((al1 hn d0 d1).mpr h),if_pos h]
 ·rw[if_neg (fun z=>h ((al1 hn d0 d1).mp z)),if_neg h]
def afa(n:Nat)(a L:Int):List Int:=(List.range n).map fun d=>U n a L (d:Nat)
theorem ak1(n:Nat)(a L:Int):(afa n a L).length=n:=by simp[afa]
theorem aj1{n:Nat}{a L:Int}(h1:1<=n)(h6:n<=6):aag [.val (.int (n:Nat)),.val (.int a),.val (.int L)]=some (.ok (.fr ((afa n a L).map D.int)),[.val (.int (n:Nat)),.val (.int a),.val (.int L)]):=by
 have hb:n < 4611686018427387904:=by omega
 have loop:=agb (b:=ir 4) (g:=aci) (fun i ρ=>∃o1 o2,ρ=[.val (.int (n:Nat)),.val (.int a),.val (.int L),.own none (((List.range i).map fun d=>U n a L (d:Nat)).map D.int),o1,o2])
  (l:=km 0 n) (ρ:=[.val (.int (n:Nat)),.val (.int a),.val (.int L),.own none [],.emp,.emp]) 0 ⟨.emp,.emp,rfl⟩ ?_
 ·obtain⟨ρ',e,o1,o2,rfl⟩:=loop;have hl:(km 0 n).length=n:=by simp[km]
  rw[hl,Nat.zero_add] at e;simp[-List.map_map,aag,aha,hb,e,afa]
 ·rintro i d ρ hd ⟨o1,o2,rfl⟩
  rw[Nat.zero_add] at *;unfold km at hd;rw[List.getElem?_map] at hd;have hi:i < n:=by
   rcases Nat.lt_or_ge i n with q | q
   ·exact q
   ·rw[List.getElem?_eq_none (by simpa using q)] at hd
    cases hd
  rw[List.getElem?_range hi] at hd;cases hd;have hn':(0:Int) < (n:Nat):=by omega
  have f1:∀x:Int,fMod x (n:Nat)=some (x % (n:Nat)):=fun x=>by unfold fMod;rw[if_pos hn']
  have f2:∀x:Int,fDiv x (n:Nat)=some (x / (n:Nat)):=fun x=>by unfold fDiv;rw[if_pos ⟨hn',by omega⟩]
  have hc:((List.range i).map fun d=>U n a L (d:Nat)).length < capS:=by rw[List.length_map,List.length_range];unfold capS;omega
  have es:((List.range (i+1)).map fun d=>U n a L (d:Nat))=((List.range i).map fun d=>U n a L (d:Nat))++[U n a L (i:Nat)]:=by rw[List.range_succ,List.map_append];rfl
  have e0:(0:Int)+(i:Nat)=(i:Nat):=by omega
  refine⟨_,[.val (.int (n:Nat)),.val (.int a),.val (.int L),.own none (((List.range (i+1)).map fun d=>U n a L (d:Nat)).map D.int),.val (.int (0+(i:Nat))),.val (.int ((((i:Nat):Int) - a) % (n:Nat)))],rfl,.inl ?_,_,_,rfl⟩
  rw[es,e0];generalize ((List.range i).map fun d=>U n a L (d:Nat))=Z at hc
  have hc':Z.length < capS:=hc;simp[aci,f1,f2,hc',U]
theorem ang{qv:LL9}(h:Hs qv){x:Int}(x0:0<=x)(x1:x < (qv.length:Int))(d:Int):∀(m:Nat) {as:List Int},Arr qv as->arv qv d as (List.replicate m x)=us qv as x d m
 | 0,as,_=>rfl
 | m+1,as,ha=>by
  rw[List.replicate_succ,ak2 h ha x0 x1];show(if led qv as x=d then 1 else 0)+arv qv d (gone qv as x) (List.replicate m x)=_
  rw[ang h x0 x1 d m (af8 h ha x0 x1)]
def prs(r:List Int)(a L:Int):List (Int×Int):=(List.range r.length).map fun k=>(r.getD k 0,U r.length a L (k:Nat))
theorem anr(f g:Nat->Int)(k0:Nat)(c:Int):∀n,(∀k,k < n->f k=g k+if k=k0 then c else 0)->k0 < n->((List.range n).map f).sum=((List.range n).map g).sum+c:=fun n=>by
 have aux:∀n,(∀k,k < n->f k=g k+if k=k0 then c else 0)->((List.range n).map f).sum=((List.range n).map g).sum+if k0 < n then c else 0:=fun n=>by
  induction n with
  | zero=>intro _;rfl
  | succ n ih =>
   intro hk;rw[List.range_succ,List.map_append,List.map_append,List.sum_append,List.sum_append,ih fun k hk'=>hk k (by omega)]
   have:=hk n (by omega)
   simp only[List.map_cons,List.map_nil,List.sum_cons,List.sum_nil];rw[this]
   by_cases q:n=k0
   ·subst q;rw[if_pos rfl,if_neg (by omega),if_pos (by omega)]
    omega
   ·rw[if_neg q]
    by_cases q2:k0 < n
    ·rw[if_pos q2,if_pos (by omega)];omega
    ·rw[if_neg q2,if_neg (by omega)];omega
 intro hk h0;rw[aux n hk,if_pos h0]
theorem ak3{qv:LL9}(h:Hs qv){as:List Int}(ha:Arr qv as){x:Int}(x0:0<=x)(x1:x < (qv.length:Int))(d:Int):∀m:Nat,((us qv as x d m:Nat):Int)=((prs (dr qv x) (ar as x) (m:Int)).map fun p=>if p.1=d then p.2 else 0).sum
 | 0=>by
  have hw:=(h.dr x0 x1).1;show(0:Int)=_;unfold prs;rw[List.map_map]
  symm
  have z:∀k∈List.range (dr qv x).length,((fun p:Int×Int=>if p.1=d then p.2 else 0)∘fun k:Nat=>((dr qv x).getD k 0,U (dr qv x).length (ar as x) ((0:Nat):Int) (k:Nat))) k=0:=fun k hk=>by
   have hk:=List.mem_range.mp hk;show(if (dr qv x).getD k 0=d then U (dr qv x).length (ar as x) 0 (k:Nat) else 0)=0
   have b0:=Int.emod_nonneg ((k:Int) - ar as x) (show((dr qv x).length:Int)≠0 by omega)
   have b1:=Int.emod_lt_of_pos ((k:Int) - ar as x) (show(0:Int) < ((dr qv x).length:Int) by omega)
   have:U (dr qv x).length (ar as x) 0 (k:Nat)=0:=Int.ediv_eq_zero_of_lt (by omega) (by omega)
   rw[this];split <;> rfl
  rw[List.map_congr_left z];generalize List.range (dr qv x).length=l
  induction l with
  | nil=>rfl
  | cons y l ih=>rw[List.map_cons,List.sum_cons,ih];rfl
 | m+1=>by
  have ih:=ak3 h ha x0 x1 d m;have hw:=(h.dr x0 x1).1;have b0:=Int.emod_nonneg (ar as x+(m:Int)) (show((dr qv x).length:Int)≠0 by omega)
  have b1:=Int.emod_lt_of_pos (ar as x+(m:Int)) (show(0:Int) < ((dr qv x).length:Int) by omega)
  show((us qv as x d m+(if (dr qv x).getD ((ar as x+(m:Int)) % ((dr qv x).length:Int)).toNat 0=d then 1 else 0):Nat):Int)=_
  rw[Int.natCast_add,ih];unfold prs;rw[List.map_map,List.map_map]
  symm
  rw[anr _ ((fun p:Int×Int=>if p.1=d then p.2 else 0)∘fun k:Nat=>((dr qv x).getD k 0,U (dr qv x).length (ar as x) ((m:Nat):Int) (k:Nat))) ((ar as x+(m:Int)) % ((dr qv x).length:Int)).toNat (if (dr qv x).getD ((ar as x+(m:Int)) % ((dr qv x).length:Int)).toNat 0=d then 1 else 0)]
  ·split <;> rfl
  ·intro k hk;show(if (dr qv x).getD k 0=d then U (dr qv x).length (ar as x) ((m+1:Nat):Int) (k:Nat) else 0)=(if (dr qv x).getD k 0=d then U (dr qv x).length (ar as x) ((m:Nat):Int) (k:Nat) else 0)+_
   have us:=awc (n:=((dr qv x).length:Int)) (a:=ar as x) (L:=(m:Int)) (d:=(k:Int)) (by omega) (by omega) (by omega)
   rw[Int.natCast_add];show(if (dr qv x).getD k 0=d then U (dr qv x).length (ar as x) ((m:Int)+1) (k:Nat) else 0)=_
   rw[us]
   by_cases q:k=((ar as x+(m:Int)) % ((dr qv x).length:Int)).toNat
   ·have q':(k:Int)=(ar as x+(m:Int)) % ((dr qv x).length:Int):=by omega
    rw[if_pos q,if_pos q',<-q];split <;> omega
   ·have q':¬(k:Int)=(ar as x+(m:Int)) % ((dr qv x).length:Int):=by omega
    rw[if_neg q,if_neg q'];split <;> omega
  ·omega
def stp(p:List Int×List Int)(q:Int×Int):List Int×List Int:=if 0<=q.1 then (p.1.set q.1.toNat (p.1.getD q.1.toNat 0+q.2),p.2) else (p.1,p.2.set (-q.1 - 1).toNat (p.2.getD (-q.1 - 1).toNat 0+q.2))
theorem wk(l:List Int)(i j:Nat)(v:Int)(hi:i < l.length):(l.set i v).getD j 0=if i=j then v else l.getD j 0:=by
 rw[List.getD_eq_getElem?_getD,List.getElem?_set]
 by_cases e:i=j
 ·subst e;rw[if_pos rfl,if_pos hi,if_pos rfl];rfl
 ·rw[if_neg e,if_neg e,<-List.getD_eq_getElem?_getD]
theorem afc{n:Nat}:∀(ps:List (Int×Int)) (st gt:List Int),(∀p∈ps,-3<=p.1/\p.1 < (n:Int))->st.length=n->gt.length=3 ->
  (ps.foldl stp (st,gt)).1.length=n/\(ps.foldl stp (st,gt)).2.length=3/\(∀i,i < n->(ps.foldl stp (st,gt)).1.getD i 0=st.getD i 0+(ps.map fun p=>if p.1=(i:Int) then p.2 else 0).sum) /\
  ∀i,i < 3->(ps.foldl stp (st,gt)).2.getD i 0=gt.getD i 0+(ps.map fun p=>if p.1 = -1 - (i:Int) then p.2 else 0).sum
 | [],st,gt,_,h1,h2=>⟨h1,h2,fun i _=>by simp,fun i _=>by simp⟩
 | (d,t)::ps,st,gt,hp,h1,h2=>by
  have hd:=hp (d,t) (List.mem_cons_self ..);have hd1 : -3<=d:=hd.1;have hd2:d < (n:Int):=hd.2;rw[List.foldl_cons]
  by_cases q:0<=d
  ·have e:stp (st,gt) (d,t)=(st.set d.toNat (st.getD d.toNat 0+t),gt):=if_pos q;rw[e];obtain⟨i1,i2,i3,i4⟩:=afc (n:=n) ps (st.set d.toNat (st.getD d.toNat 0+t)) gt (fun p hp'=>hp p (List.mem_cons_of_mem _ hp')) (by rw[List.length_set];exact h1) h2
   refine⟨i1,i2,fun i hi =>?_,fun i hi =>?_⟩
   ·rw[i3 i hi,wk _ _ _ _ (by omega),List.map_cons,List.sum_cons]
    by_cases z:d.toNat=i
    ·rw[if_pos z,if_pos (show d=(i:Int) by omega),z];omega
    ·rw[if_neg z,if_neg (show ¬d=(i:Int) by omega)];omega
   ·rw[i4 i hi,List.map_cons,List.sum_cons,if_neg (show ¬d = -1 - (i:Int) by omega)];omega
  ·have e:stp (st,gt) (d,t)=(st,gt.set (-d - 1).toNat (gt.getD (-d - 1).toNat 0+t)):=if_neg q;rw[e];obtain⟨i1,i2,i3,i4⟩:=afc (n:=n) ps st (gt.set (-d - 1).toNat (gt.getD (-d - 1).toNat 0+t)) (fun p hp'=>hp p (List.mem_cons_of_mem _ hp')) h1 (by rw[List.length_set];exact h2)
   refine⟨i1,i2,fun i hi =>?_,fun i hi =>?_⟩
   ·rw[i3 i hi,List.map_cons,List.sum_cons,if_neg (show ¬d=(i:Int) by omega)];omega
   ·rw[i4 i hi,wk _ _ _ _ (by omega),List.map_cons,List.sum_cons]
    by_cases z:(-d - 1).toNat=i
    ·rw[if_pos z,if_pos (show d = -1 - (i:Int) by omega),z];omega
    ·rw[if_neg z,if_neg (show ¬d = -1 - (i:Int) by omega)];omega
theorem ade{a b:List Int}(hl:a.length=b.length)(h:∀i,i < a.length->a.getD i 0=b.getD i 0):a=b:=by
 apply List.ext_getElem?;intro i
 by_cases hi:i < a.length
 ·have:=h i hi;rw[List.getD_eq_getElem?_getD,List.getD_eq_getElem?_getD,List.getElem?_eq_getElem hi,List.getElem?_eq_getElem (by omega)] at this
  rw[List.getElem?_eq_getElem hi,List.getElem?_eq_getElem (by omega)]
  exact congrArg some this
 ·rw[List.getElem?_eq_none (by omega),List.getElem?_eq_none (by omega)]
section
variable{qv:LL9}(h:Hs qv){as:List Int}(ha:Arr qv as){ws s:List Int}(hs:InR qv s){x:Int}(x0:0<=x)(x1:x < (qv.length:Int))(m:Nat)
include h ha hs x0 x1
theorem atw:InR qv (s++List.replicate m x):=hs.append fun y hy=>by rw[(List.mem_replicate.mp hy).2];exact⟨x0,x1⟩
theorem aei(y:Int):(s++List.replicate m x).count y=s.count y+if x=y then m else 0:=by
 rw[List.count_append,List.count_replicate]
 by_cases e:x=y
 ·subst e;simp
 ·have:(x==y)=false:=beq_eq_false_iff_ne.mpr e;rw[this,if_neg e];rfl
theorem avq:(go qv as s).set x.toNat ((ar (go qv as s) x+(m:Int)) % ((dr qv x).length:Int))=go qv as (s++List.replicate m x):=by
 have hga:=aay h s ha hs;have hin:=atw h ha hs x0 x1 m;have hg2:=aay h _ ha hin;have hl:=hga.len;apply ade
 ·rw[List.length_set,hl,hg2.len]
 ·intro i hi;rw[List.length_set] at hi;rw[wk _ _ _ _ (by omega)]
  have e2:=apj h (y:=(i:Int)) (by omega) (by omega) _ ha hin
  have e1:=apj h (y:=(i:Int)) (by omega) (by omega) s ha hs
  rw[aei h ha hs x0 x1] at e2;unfold ar at e1 e2;rw[Int.toNat_natCast] at e1 e2;rw[e2]
  by_cases z:x.toNat=i
  ·have zx:x=(i:Int):=by omega
   rw[if_pos z,if_pos zx];have e3:=apj h x0 x1 s ha hs;rw[e3,Int.emod_add_emod];unfold ar;rw[zx,Int.toNat_natCast,Int.natCast_add]
   congr 1
   omega
  ·rw[if_neg z,if_neg (show ¬x=(i:Int) by omega),e1]
   rfl
theorem aqo:(tal qv.length s).set x.toNat ((tal qv.length s).getD x.toNat 0+(m:Int))=tal qv.length (s++List.replicate m x):=by
 apply ade
 ·rw[List.length_set,ab9,ab9]
 ·intro i hi;rw[List.length_set,ab9] at hi;rw[wk _ _ _ _ (by rw[ab9];omega)]
  have g:∀t:List Int,(tal qv.length t).getD i 0=((t.count (i:Int):Nat):Int):=fun t=>by rw[List.getD_eq_getElem?_getD,aqq _ hi];rfl
  rw[g,g,aei h ha hs x0 x1]
  by_cases z:x.toNat=i
  ·rw[if_pos z,if_pos (show x=(i:Int) by omega),z,g];omega
  ·rw[if_neg z,if_neg (show ¬x=(i:Int) by omega)];rfl
theorem ao2:(prs (dr qv x) (ar (go qv as s) x) (m:Int)).foldl stp ((stn qv as ws s).set x.toNat ((stn qv as ws s).getD x.toNat 0 - (m:Int)),gts qv as s)=(stn qv as ws (s++List.replicate m x),gts qv as (s++List.replicate m x)):=by
 have hga:=aay h s ha hs;obtain⟨i1,i2,i3,i4⟩:=afc (n:=qv.length) (prs (dr qv x) (ar (go qv as s) x) (m:Int)) ((stn qv as ws s).set x.toNat ((stn qv as ws s).getD x.toNat 0 - (m:Int))) (gts qv as s) (fun p hp=>by
  obtain⟨k,hk,rfl⟩:=List.mem_map.mp hp;have hk:=List.mem_range.mp hk;refine(h.dr x0 x1).2.2 _ ?_;show(dr qv x).getD k 0∈_;rw[List.getD_eq_getElem?_getD,List.getElem?_eq_getElem hk];exact List.getElem_mem hk) (by rw[List.length_set,jl]) rfl
 have ea:∀d,arv qv d as (s++List.replicate m x)=arv qv d as s+us qv (go qv as s) x d m:=fun d=>by rw[nq,ang h x0 x1 d m hga]
 refine Prod.ext ?_ ?_
 ·refine ade (by rw[i1,jl]) fun i hi =>?_
  rw[i1] at hi;have g:=aa2 (qv:=qv) as ws s (x:=(i:Int)) (by omega) (by omega)
  have g2:=aa2 (qv:=qv) as ws (s++List.replicate m x) (x:=(i:Int)) (by omega) (by omega)
  rw[Int.toNat_natCast] at g g2;show(List.foldl stp _ _).1.getD i 0=(stn qv as ws (s++List.replicate m x)).getD i 0;rw[i3 i hi,wk _ _ _ _ (by rw[jl];omega),<-ak3 h hga x0 x1,g2,ea,aei h ha hs x0 x1]
  by_cases z:x.toNat=i
  ·rw[if_pos z,if_pos (show x=(i:Int) by omega),z,g];omega
  ·rw[if_neg z,if_neg (show ¬x=(i:Int) by omega),g];omega
 ·refine ade (by rw[i2];rfl) fun i hi =>?_
  rw[i2] at hi;show(List.foldl stp _ _).2.getD i 0=(gts qv as (s++List.replicate m x)).getD i 0;rw[i4 i hi,<-ak3 h hga x0 x1];have:i=0∨i=1∨i=2:=by omega
  unfold gts;rw[ea,ea,ea];rcases this with rfl | rfl | rfl
  ·show(arv qv (-1) as s:Int)+((us qv (go qv as s) x (-1) m:Nat):Int)=((arv qv (-1) as s+us qv (go qv as s) x (-1) m:Nat):Int);omega
  ·show(arv qv (-2) as s:Int)+((us qv (go qv as s) x (-2) m:Nat):Int)=((arv qv (-2) as s+us qv (go qv as s) x (-2) m:Nat):Int);omega
  ·show(arv qv (-3) as s:Int)+((us qv (go qv as s) x (-3) m:Nat):Int)=((arv qv (-3) as s+us qv (go qv as s) x (-3) m:Nat):Int);omega
end
def fsM(d:D):List (Str×(Nat ⊕ D)):=[("turning", .inl 3),("standing", .inl 4),("gone", .inl 5),("left", .inl 6),("house", .inr d)]
theorem fv_h(d:D)(r:Ro):mFV "Crowd" 0 "house" (.box "Crowd" (fsM d)::r)=some (.ok d,.box "Crowd" (fsM d)::r):=by rfl
theorem lk_t(d:D)(a b:Sl)(l:List D)(r:Ro):mLnk "Crowd" 0 "turning" 3 (.box "Crowd" (fsM d)::a::b::.own (some 3) l::r)=some (.ok (),.box "Crowd" (fsM d)::a::b::.own (some 3) l::r):=by rfl
theorem lk_s(d:D)(a b c:Sl)(l:List D)(r:Ro):mLnk "Crowd" 0 "standing" 4 (.box "Crowd" (fsM d)::a::b::c::.own (some 4) l::r)=some (.ok (),.box "Crowd" (fsM d)::a::b::c::.own (some 4) l::r):=by rfl
theorem lk_g(d:D)(a b c e:Sl)(l:List D)(r:Ro):mLnk "Crowd" 0 "gone" 5 (.box "Crowd" (fsM d)::a::b::c::e::.own (some 5) l::r)=some (.ok (),.box "Crowd" (fsM d)::a::b::c::e::.own (some 5) l::r):=by rfl
theorem lk_l(d:D)(a b c e f:Sl)(l:List D)(r:Ro):mLnk "Crowd" 0 "left" 6 (.box "Crowd" (fsM d)::a::b::c::e::f::.own (some 6) l::r)=some (.ok (),.box "Crowd" (fsM d)::a::b::c::e::f::.own (some 6) l::r):=by rfl
theorem akl{n:Nat}{d t:Int}(hd1 : -3<=d)(hd2:d < (n:Int)){st gt:List Int}(h1:st.length=n)(h2:gt.length=3)(hd:D)(a b c f g u:Sl) :
  jn [.box "Crowd" (fsM hd),a,b,c,.own (some 4) (st.map D.int),.own (some 5) (gt.map D.int),f,g,u,.val (.int d),.val (.int t)]=some (.nx,[.box "Crowd" (fsM hd),a,b,c,.own (some 4) ((stp (st,gt) (d,t)).1.map D.int),.own (some 5) ((stp (st,gt) (d,t)).2.map D.int),f,g,u,.val (.int d),.val (.int t)]):=by
 by_cases q:0<=d
 ·have e:stp (st,gt) (d,t)=(st.set d.toNat (st.getD d.toNat 0+t),gt):=if_pos q;rw[e];have ix:ixN st.length d=some d.toNat:=vm q (by omega)
  have hlt:d.toNat < st.length:=by omega
  have hg:st[d.toNat]? = some (st.getD d.toNat 0):=by rw[List.getD_eq_getElem?_getD,List.getElem?_eq_getElem hlt];rfl
  have m3:(st.map D.int).set d.toNat (.int (st.getD d.toNat 0+t))=(st.set d.toNat (st.getD d.toNat 0+t)).map D.int:=by rw[List.map_set]
  show _=some (Fl.nx,[Sl.box "Crowd" (fsM hd),a,b,c,.own (some 4) ((st.set d.toNat (st.getD d.toNat 0+t)).map D.int),.own (some 5) (gt.map D.int),f,g,u,.val (.int d),.val (.int t)]);rw[<-m3];generalize st.getD d.toNat 0=v at *;have hg2:(st.map D.int)[d.toNat]? = some (.int v):=by rw[List.getElem?_map,hg];rfl
  have ix2:ixN (st.map D.int).length d=some d.toNat:=by rw[List.length_map];exact ix
  generalize st.map D.int=sm at *;simp[jn,q,dSubAugF,lk_s,ix2,hg2]
 ·have e:stp (st,gt) (d,t)=(st,gt.set (-d - 1).toNat (gt.getD (-d - 1).toNat 0+t)):=if_neg q;rw[e];have ix:ixN gt.length (-d - 1)=some (-d - 1).toNat:=vm (by omega) (by omega)
  have hlt:(-d - 1).toNat < gt.length:=by omega
  have hg:gt[(-d - 1).toNat]? = some (gt.getD (-d - 1).toNat 0):=by rw[List.getD_eq_getElem?_getD,List.getElem?_eq_getElem hlt];rfl
  have m3:(gt.map D.int).set (-d - 1).toNat (.int (gt.getD (-d - 1).toNat 0+t))=(gt.set (-d - 1).toNat (gt.getD (-d - 1).toNat 0+t)).map D.int:=by rw[List.map_set]
  show _=some (Fl.nx,[Sl.box "Crowd" (fsM hd),a,b,c,.own (some 4) (st.map D.int),.own (some 5) ((gt.set (-d - 1).toNat (gt.getD (-d - 1).toNat 0+t)).map D.int),f,g,u,.val (.int d),.val (.int t)]);rw[<-m3];generalize gt.getD (-d - 1).toNat 0=v at *;have hg2:(gt.map D.int)[(-d - 1).toNat]? = some (.int v):=by rw[List.getElem?_map,hg];rfl
  have ix2:ixN (gt.map D.int).length (-d - 1)=some (-d - 1).toNat:=by rw[List.length_map];exact ix
  generalize gt.map D.int=gm at *;generalize hkk : -d - 1=kk at *;simp[jn,q,dSubAugF,lk_g,ix2,hg2,hkk]
theorem ag5{n:Nat}(hd:D)(a b c f g u:Sl):∀(ps:List (Int×Int)) (st gt:List Int) (o1 o2:Sl),(∀p∈ps,-3<=p.1/\p.1 < (n:Int))->st.length=n->gt.length=3 ->
  ∃q1 q2,forD (bTup 2 (qp (ir 9) (qp (ir 10) bNil))) jn (ps.map fun p=>.tup [.int p.1,.int p.2]) [.box "Crowd" (fsM hd),a,b,c,.own (some 4) (st.map D.int),.own (some 5) (gt.map D.int),f,g,u,o1,o2]=some (.nx,[.box "Crowd" (fsM hd),a,b,c,.own (some 4) ((ps.foldl stp (st,gt)).1.map D.int),.own (some 5) ((ps.foldl stp (st,gt)).2.map D.int),f,g,u,q1,q2])
 | [],st,gt,o1,o2,_,_,_=>⟨o1,o2,rfl⟩
 | (d,t)::ps,st,gt,o1,o2,hp,h1,h2=>by
  have hd':=hp (d,t) (List.mem_cons_self ..);have e:=akl (n:=n) (d:=d) (t:=t) hd'.1 hd'.2 h1 h2 hd a b c f g u;obtain⟨l1,l2,_⟩:=afc (n:=n) [(d,t)] st gt (fun p hp'=>hp p (by rw[List.mem_singleton] at hp';rw[hp'];exact List.mem_cons_self ..)) h1 h2
  have l1:(stp (st,gt) (d,t)).1.length=n:=l1;have l2:(stp (st,gt) (d,t)).2.length=3:=l2;obtain⟨q1,q2,e2⟩:=ag5 (n:=n) hd a b c f g u ps (stp (st,gt) (d,t)).1 (stp (st,gt) (d,t)).2 (.val (.int d)) (.val (.int t)) (fun p hp'=>hp p (List.mem_cons_of_mem _ hp')) l1 l2
  refine⟨q1,q2,?_⟩;rw[List.foldl_cons,List.map_cons,qm];have ez:((stp (st,gt) (d,t)).1,(stp (st,gt) (d,t)).2)=stp (st,gt) (d,t):=rfl;rw[ez] at e2;generalize stp (st,gt) (d,t)=Z at *;generalize (ps.foldl stp Z).1.map D.int=F1 at *;generalize (ps.foldl stp Z).2.map D.int=F2 at *;generalize Z.1.map D.int=z1 at *;generalize Z.2.map D.int=z2 at *;generalize st.map D.int=sm at *;generalize gt.map D.int=gm at *;simp[e,e2]
theorem aqe(r:List Int)(a L:Int):abm (r.map D.int) ((afa r.length a L).map D.int)=(prs r a L).map fun p=>.tup [.int p.1,.int p.2]:=by
 unfold abm prs afa;apply List.ext_getElem?;intro i;rw[List.getElem?_zipWith]
 by_cases hi:i < r.length
 ·simp[hi]
 ·simp[hi]
section
variable{qv:LL9}(h:Hs qv){as:List Int}(ha:Arr qv as){ws s:List Int}(hs:InR qv s){x:Int}(x0:0<=x)(x1:x < (qv.length:Int))(m:Nat)
include h ha hs x0 x1
theorem ag2:dh [.box "Crowd" (fsM (hD qv)),.val (.int x),.val (.int (m:Int)),.own (some 3) ((go qv as s).map D.int),.own (some 4) ((stn qv as ws s).map D.int),.own (some 5) ((gts qv as s).map D.int),.own (some 6) ((tal qv.length s).map D.int)] =
  some (.ok (.v .non),[.box "Crowd" (fsM (hD qv)),.val (.int x),.val (.int (m:Int)),.own (some 3) ((go qv as (s++List.replicate m x)).map D.int),.own (some 4) ((stn qv as ws (s++List.replicate m x)).map D.int),.own (some 5) ((gts qv as (s++List.replicate m x)).map D.int),.own (some 6) ((tal qv.length (s++List.replicate m x)).map D.int)]):=by
 have hga:=aay h s ha hs;obtain⟨w1,w2,w3⟩:=h.dr x0 x1;have e1:=anf x0 x1;have e2:=ajy h hga x0 x1;have e3:=aj1 (n:=(dr qv x).length) (a:=ar (go qv as s) x) (L:=(m:Int)) w1 w2;have e4:=ahd h hga x0 x1 (ar (go qv as s) x+(m:Int));have i3:ixN ((go qv as s).map D.int).length x=some x.toNat:=by rw[List.length_map];exact vm x0 (by rw[hga.len];exact x1)
 have i4:ixN ((stn qv as ws s).map D.int).length x=some x.toNat:=by rw[List.length_map];exact vm x0 (by rw[jl];exact x1)
 have i6:ixN ((tal qv.length s).map D.int).length x=some x.toNat:=by rw[List.length_map];exact vm x0 (by rw[ab9];exact x1)
 have g4:((stn qv as ws s).map D.int)[x.toNat]? = some (.int ((stn qv as ws s).getD x.toNat 0)):=by rw[List.getElem?_map,List.getD_eq_getElem?_getD,List.getElem?_eq_getElem (by rw[jl];omega)];rfl
 have g6:((tal qv.length s).map D.int)[x.toNat]? = some (.int ((tal qv.length s).getD x.toNat 0)):=by rw[List.getElem?_map,List.getD_eq_getElem?_getD,List.getElem?_eq_getElem (by rw[ab9];omega)];rfl
 have m3:((go qv as s).map D.int).set x.toNat (.int ((ar (go qv as s) x+(m:Int)) % ((dr qv x).length:Int)))=(go qv as (s++List.replicate m x)).map D.int:=by rw[<-avq h ha hs x0 x1 m,List.map_set]
 have m6:((tal qv.length s).map D.int).set x.toNat (.int ((tal qv.length s).getD x.toNat 0+(m:Int)))=(tal qv.length (s++List.replicate m x)).map D.int:=by rw[<-aqo h ha hs x0 x1 m,List.map_set]
 have m4:((stn qv as ws s).map D.int).set x.toNat (.int ((stn qv as ws s).getD x.toNat 0 - (m:Int)))=((stn qv as ws s).set x.toNat ((stn qv as ws s).getD x.toNat 0 - (m:Int))).map D.int:=by rw[List.map_set]
 have hf:=ao2 (ws:=ws) h ha hs x0 x1 m;obtain⟨q1,q2,e5⟩:=ag5 (n:=qv.length) (hD qv) (.val (.int x)) (.val (.int (m:Int))) (.own (some 3) ((go qv as (s++List.replicate m x)).map D.int)) (.own (some 6) ((tal qv.length (s++List.replicate m x)).map D.int)) (.val (.tup ((dr qv x).map D.int))) (.val (.lst ((afa (dr qv x).length (ar (go qv as s) x) (m:Int)).map D.int))) (prs (dr qv x) (ar (go qv as s) x) (m:Int)) ((stn qv as ws s).set x.toNat ((stn qv as ws s).getD x.toNat 0 - (m:Int))) (gts qv as s) .emp .emp (fun p hp=>by
  obtain⟨k,hk,rfl⟩:=List.mem_map.mp hp;have hk:=List.mem_range.mp hk;refine w3 _ ?_;show(dr qv x).getD k 0∈_;rw[List.getD_eq_getElem?_getD,List.getElem?_eq_getElem hk];exact List.getElem_mem hk) (by rw[List.length_set,jl]) rfl
 rw[hf,<-aqe] at e5;have hzl:(dr qv x).length<=((afa (dr qv x).length (ar (go qv as s) x) (m:Int)).map D.int).length:=by rw[List.length_map,ak1];exact Nat.le_refl _
 have hdm:((dr qv x).map D.int).length=(dr qv x).length:=List.length_map ..
 rw[<-m4,<-m3,<-m6] at e5;rw[<-m3,<-m6];generalize (afa (dr qv x).length (ar (go qv as s) x) (m:Int)).map D.int=uu at *;generalize (dr qv x).map D.int=dm at *;generalize (stn qv as ws s).getD x.toNat 0=sv at *;generalize (tal qv.length s).getD x.toNat 0=tv at *;generalize (stn qv as ws (s++List.replicate m x)).map D.int=sm2 at *;generalize (stn qv as ws s).map D.int=sm at *;generalize (gts qv as (s++List.replicate m x)).map D.int=gm2 at *;generalize (gts qv as s).map D.int=gm at *;generalize (tal qv.length s).map D.int=tm at *;generalize (go qv as s).map D.int=am at *;generalize ar (go qv as s) x=aa at *;simp only[hD] at *;simp[dh,g_Crowd_let_leave,fv_h,e1,hdm,lk_t,e2,e3,e4,dSubF,i3,dSubAugF,lk_l,lk_s,i6,g6,i4,g4,hzl,e5]
end
theorem aj0(n:Nat):(List.replicate n [D.int 0]).flatten=(List.replicate n (0:Int)).map D.int:=by
 rw[List.map_replicate]
 induction n with
 | zero=>rfl
 | succ n ih=>rw[List.replicate_succ,List.flatten_cons,ih,List.replicate_succ];rfl
structure Wk (n:Nat) (ws:List Int):Prop where
 len:ws.length=n
 ok:∀w∈ws,0<=w/\w<=100
theorem af4{qv:LL9}(h:Hs qv){ws:List Int}(hw:Wk qv.length ws):tu [.val (hD qv),.val (.tup (ws.map D.int)),.val (.int 100)]=some (.ok (.v (.bl true)),[.val (hD qv),.val (.tup (ws.map D.int)),.val (.int 100)]):=by
 have hm:=h.most;have hl:=hw.len;have hl3:=ur qv;have e1:gj [.val (.tup (ws.map D.int)),.val (.int (qv.length:Int)),.val (.int (qv.length:Int))]=some (.ok (.v (.bl true)),[.val (.tup (ws.map D.int)),.val (.int (qv.length:Int)),.val (.int (qv.length:Int))]):=by
  have:(ws.length:Int)=qv.length:=by omega
  simp[gj,qy,isTy,this]
 have e2:compD (ir 0) (ret true) yl (ws.map D.int) [] [.emp,.val (.int 100)]=some (.ok (ws.map fun _=>.bl true),ad4 .emp (ws.map D.int)::[.val (.int 100)]):=by
  rw[aej (f:=fun _=>.bl true)]
  ·simp
  ·intro d hd;obtain⟨w,hwm,rfl⟩:=List.mem_map.mp hd;have:=hw.ok w hwm;simp[yl,za,this.1,this.2]
 have e3:vg (ws.map fun _=>D.bl true)=some (ws.map fun _=>true):=by
  have:=acs (ws.map fun _=>true)
  rwa[List.map_map] at this
 have e4:(ws.map fun _=>true).all id=true:=by
  rw[List.all_map,List.all_eq_true];intro x _;rfl
 have hc:ws.length<=capS:=dz (by omega)
 generalize hB:(ws.map fun _=>true)=bs at *
 have hc2:(ws.map fun _=>D.bl true).length<=capS:=by rw[List.length_map];exact hc
 generalize (ws.map fun _=>D.bl true)=BB at *
 generalize ws.map D.int=ww at *;simp only[hD] at *;simp[tu,ac0,hl3,e1,e2,e3,e4,hc2]
theorem apd{qv:LL9}(h:Hs qv){as:List Int}(ha:Arr qv as){ws:List Int}(hw:Wk qv.length ws):gf [.val (hD qv),.val (.tup (as.map D.int)),.val (.tup (ws.map D.int))]=some (.ok (.v .non),[.val (hD qv),.val (.tup (as.map D.int)),.val (.tup (ws.map D.int))]):=by
 have e1:=ag7 h ha;have e2:=af4 h hw;generalize as.map D.int=aa at *;generalize ws.map D.int=ww at *;generalize hD qv=hh at *;have e3:gq [.val hh,.val (.tup aa)]=some (.ok (.v .non),[.val hh,.val (.tup aa)]):=by simp[gq,vd,e1]
 have e4:f9 [.val hh,.val (.tup ww)]=some (.ok (.v .non),[.val hh,.val (.tup ww)]):=by simp[f9,ut,e2]
 simp[gf,wu,e3,e4]
@[simp] theorem wj(qv:LL9)(d:D):j4 [.val (hD qv),.val d]=some (.ok (.v (.bl (za 0 ((qv.length:Int) - 1) d))),[.val (hD qv),.val d]):=by
 simp[j4,yz,hD,hDs]
section
variable{qv:LL9}(h:Hs qv){as:List Int}(ha:Arr qv as){ws:List Int}
include h ha
theorem ant{s:List Int}(hs:InR qv s){x:Int}(x0:0<=x)(x1:x < (qv.length:Int)) :
  stn qv as ws (s++[x])=(let l1:=(stn qv as ws s).set x.toNat ((stn qv as ws s).getD x.toNat 0 - 1)
   let d:=led qv (go qv as s) x
   if 0<=d then l1.set d.toNat (l1.getD d.toNat 0+1) else l1):=by
 have hl:=jl qv as ws s;have hga:=aay h s ha hs;have hd:=ap0 h hga x0 x1;have key:∀i:Nat,i < qv.length->(stn qv as ws (s++[x]))[i]? = some ((stn qv as ws s).getD i 0 - (if x=(i:Int) then 1 else 0)+(if led qv (go qv as s) x=(i:Int) then 1 else 0)):=fun i hi=>by
  have e1:=aa2 (qv:=qv) as ws (s++[x]) (x:=(i:Int)) (by omega) (by omega)
  have e2:=aa2 (qv:=qv) as ws s (x:=(i:Int)) (by omega) (by omega)
  rw[Int.toNat_natCast] at e1 e2;have hlt:i < (stn qv as ws (s++[x])).length:=by rw[jl];exact hi
  rw[List.getD_eq_getElem?_getD,List.getElem?_eq_getElem hlt] at e1;rw[List.getElem?_eq_getElem hlt]
  congr 1
  have e1:(stn qv as ws (s++[x]))[i]=_:=e1;rw[e1,e2,List.count_append,aaj,nq];have z:([]:List Int).count (i:Int)=0:=rfl;show(((wf ws (i:Int))+(arv qv (i:Int) as s+((if led qv (go qv as s) x=(i:Int) then 1 else 0)+0)):Nat):Int) - ((s.count (i:Int)+(([]:List Int).count (i:Int)+(if x=(i:Int) then 1 else 0)):Nat):Int)=_
  rw[z];split <;> split <;> omega
 apply List.ext_getElem?;intro i
 by_cases hi:i < qv.length
 ·rw[key i hi];show _=(if 0<=led qv (go qv as s) x then ((stn qv as ws s).set x.toNat ((stn qv as ws s).getD x.toNat 0 - 1)).set (led qv (go qv as s) x).toNat (((stn qv as ws s).set x.toNat ((stn qv as ws s).getD x.toNat 0 - 1)).getD (led qv (go qv as s) x).toNat 0+1) else (stn qv as ws s).set x.toNat ((stn qv as ws s).getD x.toNat 0 - 1))[i]?
  have base:((stn qv as ws s).set x.toNat ((stn qv as ws s).getD x.toNat 0 - 1))[i]? = some ((stn qv as ws s).getD i 0 - (if x=(i:Int) then 1 else 0)):=by
   rw[List.getElem?_set]
   by_cases q:x.toNat=i
   ·rw[if_pos q,if_pos (by omega),if_pos (by omega),q]
   ·rw[if_neg q,if_neg (by omega),List.getElem?_eq_getElem (by omega),List.getD_eq_getElem?_getD,List.getElem?_eq_getElem (by omega)]
    simp
  by_cases hd0:0<=led qv (go qv as s) x
  ·rw[if_pos hd0,List.getElem?_set]
   by_cases q:(led qv (go qv as s) x).toNat=i
   ·have hlt:i < ((stn qv as ws s).set x.toNat ((stn qv as ws s).getD x.toNat 0 - 1)).length:=by rw[List.length_set];omega
    have e9:((stn qv as ws s).set x.toNat ((stn qv as ws s).getD x.toNat 0 - 1)).getD i 0=(stn qv as ws s).getD i 0 - (if x=(i:Int) then 1 else 0):=by rw[List.getD_eq_getElem?_getD,base];rfl
    rw[if_pos q,q,if_pos hlt,e9,if_pos (show led qv (go qv as s) x=(i:Int) by omega)]
   ·rw[if_neg q,base,if_neg (show ¬led qv (go qv as s) x=(i:Int) by omega),Int.add_zero]
  ·rw[if_neg hd0,base,if_neg (show ¬led qv (go qv as s) x=(i:Int) by omega),Int.add_zero]
 ·rw[List.getElem?_eq_none (by rw[jl];omega)]
  symm
  apply List.getElem?_eq_none;show(if 0<=led qv (go qv as s) x then ((stn qv as ws s).set x.toNat ((stn qv as ws s).getD x.toNat 0 - 1)).set (led qv (go qv as s) x).toNat (((stn qv as ws s).set x.toNat ((stn qv as ws s).getD x.toNat 0 - 1)).getD (led qv (go qv as s) x).toNat 0+1) else (stn qv as ws s).set x.toNat ((stn qv as ws s).getD x.toNat 0 - 1)).length<=i
  split
  ·rw[List.length_set,List.length_set];omega
  ·rw[List.length_set];omega
omit h ha in
theorem aow(s:List Int)(x:Int)(hd : -3<=led qv (go qv as s) x):gts qv as (s++[x])=if 0<=led qv (go qv as s) x then gts qv as s else (gts qv as s).set (0 - led qv (go qv as s) x - 1).toNat ((gts qv as s).getD (0 - led qv (go qv as s) x - 1).toNat 0+1):=by
 unfold gts;rw[nq,nq,nq];have e:∀d,arv qv d (go qv as s) [x]=if led qv (go qv as s) x=d then 1 else 0:=fun d=>by
  show(if led qv (go qv as s) x=d then 1 else 0)+0=_
  omega
 rw[e,e,e];generalize led qv (go qv as s) x=d at *
 by_cases q:0<=d
 ·rw[if_pos q,if_neg (by omega),if_neg (by omega),if_neg (by omega)]
  simp
 ·have:d = -1∨d = -2∨d = -3:=by omega
  rcases this with rfl | rfl | rfl <;> simp
theorem ag4{s:List Int}(hs:InR qv s){x:Int}(x0:0<=x)(x1:x < (qv.length:Int)):pq [.val (hD qv),.own (some 1) ((go qv as s).map D.int),.own (some 2) ((stn qv as ws s).map D.int),.own (some 3) ((gts qv as s).map D.int),.val (.int x)] =
  some (.ok (.v .non),[.val (hD qv),.own (some 1) ((go qv as (s++[x])).map D.int),.own (some 2) ((stn qv as ws (s++[x])).map D.int),.own (some 3) ((gts qv as (s++[x])).map D.int),.val (.int x)]):=by
 have hga:=aay h s ha hs;have e1:=anf x0 x1;have e2:=ajy h hga x0 x1;have e3:=as8 h hga x0 x1;have e4:=ahd h hga x0 x1 (ar (go qv as s) x+1);have e5:ixN (go qv as s).length x=some x.toNat:=vm x0 (by rw[hga.len];exact x1)
 have e6:ixN (stn qv as ws s).length x=some x.toNat:=vm x0 (by rw[jl];exact x1)
 have e7:=sr (ns:=stn qv as ws s) x0 (by rw[jl];exact x1)
 have hd:=ap0 h hga x0 x1;have eg:go qv as (s++[x])=gone qv (go qv as s) x:=by rw[ag9];rfl
 rw[eg,ant h ha hs x0 x1,aow s x hd.1];generalize hDd:led qv (go qv as s) x=d at *;show _=some (Out.ok (Rv.v .non),[Sl.val (hD qv),.own (some 1) ((gone qv (go qv as s) x).map D.int),.own (some 2) ((if 0<=d then ((stn qv as ws s).set x.toNat ((stn qv as ws s).getD x.toNat 0 - 1)).set d.toNat (((stn qv as ws s).set x.toNat ((stn qv as ws s).getD x.toNat 0 - 1)).getD d.toNat 0+1) else (stn qv as ws s).set x.toNat ((stn qv as ws s).getD x.toNat 0 - 1)).map D.int),.own (some 3) ((if 0<=d then gts qv as s else (gts qv as s).set (0 - d - 1).toNat ((gts qv as s).getD (0 - d - 1).toNat 0+1)).map D.int),.val (.int x)])
 have hgl:(gts qv as s).length=3:=rfl;have hsl:((stn qv as ws s).set x.toNat ((stn qv as ws s).getD x.toNat 0 - 1)).length=qv.length:=by rw[List.length_set,jl]
 have m1:((stn qv as ws s).map D.int).set x.toNat (.int ((stn qv as ws s).getD x.toNat 0 - 1))=((stn qv as ws s).set x.toNat ((stn qv as ws s).getD x.toNat 0 - 1)).map D.int:=by rw[List.map_set]
 have m2:((go qv as s).map D.int).set x.toNat (.int ((ar (go qv as s) x+1) % ((dr qv x).length:Int)))=(gone qv (go qv as s) x).map D.int:=by unfold gone;rw[List.map_set]
 generalize (stn qv as ws s).set x.toNat ((stn qv as ws s).getD x.toNat 0 - 1)=l1 at *;generalize hgt:gts qv as s=gt at *
 by_cases q:0<=d
 ·have e8:=sr (ns:=l1) q (by rw[hsl];exact hd.2)
  have e9:ixN l1.length d=some d.toNat:=vm q (by rw[hsl];exact hd.2)
  rw[if_pos q,if_pos q];have m3:(l1.map D.int).set d.toNat (.int (l1.getD d.toNat 0+1))=(l1.set d.toNat (l1.getD d.toNat 0+1)).map D.int:=by rw[List.map_set]
  have e9':ixN (l1.map D.int).length d=some d.toNat:=by rw[List.length_map];exact e9
  have e5':ixN ((go qv as s).map D.int).length x=some x.toNat:=by rw[List.length_map];exact e5
  have e6':ixN ((stn qv as ws s).map D.int).length x=some x.toNat:=by rw[List.length_map];exact e6
  rw[<-m3,<-m2];rw[<-m1] at e8 e9' m3 ⊢
  generalize (stn qv as ws s).getD x.toNat 0=sv at *;generalize l1.getD d.toNat 0=lv at *;generalize (stn qv as ws s).map D.int=sm at *;generalize (go qv as s).map D.int=gm at *;have hdm:((dr qv x).map D.int).length=(dr qv x).length:=List.length_map ..
  generalize (dr qv x).map D.int=dm at *;simp only[hD] at *;simp[pq,abe,e1,e2,e3,e4,e5',e6',e7,q,hdm,e8,e9',-List.length_set,-List.length_map]
 ·have hd':d = -1∨d = -2∨d = -3:=by omega
  have k0:0<=0 - d - 1:=by omega
  have k1:0 - d - 1 < (gt.length:Int):=by rw[hgl];omega
  have e8:=sr (ns:=gt) k0 k1;have e9:ixN gt.length (0 - d - 1)=some (0 - d - 1).toNat:=vm k0 k1;rw[if_neg q,if_neg q];have m3:(gt.map D.int).set (0 - d - 1).toNat (.int (gt.getD (0 - d - 1).toNat 0+1))=(gt.set (0 - d - 1).toNat (gt.getD (0 - d - 1).toNat 0+1)).map D.int:=by rw[List.map_set]
  have e9':ixN (gt.map D.int).length (0 - d - 1)=some (0 - d - 1).toNat:=by rw[List.length_map];exact e9
  have e5':ixN ((go qv as s).map D.int).length x=some x.toNat:=by rw[List.length_map];exact e5
  have e6':ixN ((stn qv as ws s).map D.int).length x=some x.toNat:=by rw[List.length_map];exact e6
  have s1:fSub 0 d=some (0 - d):=by simp
  rw[<-m3,<-m2,<-m1];generalize (stn qv as ws s).getD x.toNat 0=sv at *;generalize gt.getD (0 - d - 1).toNat 0=lv at *;generalize hkk:0 - d - 1=kk at *;generalize gt.map D.int=gg at *;generalize (stn qv as ws s).map D.int=sm at *;generalize (go qv as s).map D.int=gm at *;have hkk' : -d - 1=kk:=by omega
  have hdm:((dr qv x).map D.int).length=(dr qv x).length:=List.length_map ..
  generalize (dr qv x).map D.int=dm at *;simp only[hD] at *;simp[pq,abe,e1,e2,e3,e4,e5',e6',e7,q,hkk',hdm,e8,e9',-List.length_set,-List.length_map]
end
def NN(qv:LL9)(as:List Int)(w:Int->Nat)(s:List Int):Prop:=∀x,0<=x->x < (qv.length:Int)->s.count x<=w x+arv qv x as s
theorem NN.nil{qv:LL9}{as:List Int}{w:Int->Nat}:NN qv as w []:=fun x _ _=>Nat.zero_le _
theorem NN.snoc{qv:LL9}{as:List Int}{w:Int->Nat}{s:List Int}(l:NN qv as w s){x:Int}(h:s.count x < w x+arv qv x as s):NN qv as w (s++[x]):=fun y y0 y1=>by
 have:=l y y0 y1;rw[List.count_append,aaj,nq]
 by_cases e:x=y
 ·subst e;rw[if_pos rfl];have z:([]:List Int).count x=0:=rfl;omega
 ·rw[if_neg e];have z:([]:List Int).count y=0:=rfl;omega
def fsC(d:D):List (Str×(Nat ⊕ D)):=[("house", .inr d),("turning", .inl 1000),("standing", .inl 1001),("gone", .inl 1002),("left", .inl 1003)]
def rsC(d:D)(la lw zz:List D):List (Str×Rv):=[("house", .v d),("turning", .fr la),("standing", .fr lw),("gone", .fr [.int 0,.int 0,.int 0]),("left", .fr zz)]
theorem avp(d:D){hh la lw:List D}{n:Nat}(hn:bz d=some hh)(hl:hh.length=n)(c1:la.length<=capS)(c2:lw.length<=capS)(c3:n<=1000) :
  iniD vo [.emp,.val d,.val (.tup la),.val (.tup lw)]=some (rsC d la lw ((List.replicate n (0:Int)).map D.int),[.emp,.val d,.val (.tup la),.val (.tup lw)]):=by
 have z:=aj0 n;have hc:capS≥1000:=dz (Nat.le_refl _);have c4:n<=capS:=by omega
 subst hl;have c5:hh.length < 9223372036854775808:=by omega
 simp[rsC,iniD,vo,aly,hn,c1,c2,c4,c5,z]
def fr11(h A W R o5 o6:Sl)(d:D)(l1 l2 l3 l4:List D):Ro:=[h,A,W,R,.box "Crowd" (fsC d),o5,o6,.own (some 1000) l1,.own (some 1001) l2,.own (some 1002) l3,.own (some 1003) l4]
theorem aof{h A W R o:Sl}{d:D}{x m:Int}{l1 l2 l3 l4 r1 r2 r3 r4:List D}{ms:M (List (Option D))}(hm:ms (fr11 h A W R o (.val (.int x)) d l1 l2 l3 l4)=some (.ok [none,some (.int m)],fr11 h A W R o (.val (.int x)) d l1 l2 l3 l4))
  (e:dh [.box "Crowd" (fsM d),.val (.int x),.val (.int m),.own (some 3) l1,.own (some 4) l2,.own (some 5) l3,.own (some 6) l4]=some (.ok (.v .non),[.box "Crowd" (fsM d),.val (.int x),.val (.int m),.own (some 3) r1,.own (some 4) r2,.own (some 5) r3,.own (some 6) r4])) :
  ai7 "Crowd" 4 "let_leave" ["turning","standing","gone","left"] ["house"] [7,8,9,10] dh [some 6,none] ms (fr11 h A W R o (.val (.int x)) d l1 l2 l3 l4)=some (.ok (.v .non),fr11 h A W R o (.val (.int x)) d r1 r2 r3 r4):=by
 have e0:mIsB "Crowd" 4 "let_leave" (fr11 h A W R o (.val (.int x)) d l1 l2 l3 l4)=some (.ok (fsC d),fr11 h A W R o (.val (.int x)) d l1 l2 l3 l4):=rfl;unfold ai7 M.bind;rw[e0];dsimp only;rw[hm];dsimp only;rw[e0];dsimp only;rw[if_pos ⟨rfl,rfl,rfl⟩];show(match dh [.box "Crowd" (fsM d),.val (.int x),.val (.int m),.own (some 3) l1,.own (some 4) l2,.own (some 5) l3,.own (some 6) l4] with
  | some (Out.ok r,ps)=>some (Out.ok r,putB (fr11 h A W R o (.val (.int x)) d l1 l2 l3 l4) [none,some 6,none,some 7,some 8,some 9,some 10] ps)
  | _=>none)=_
 rw[e];rfl
theorem ar9(h A W R o p:Sl)(d:D)(l1 l2 l3 l4:List D):mLnk "Crowd" 4 "standing" 8 (fr11 h A W R o p d l1 l2 l3 l4)=some (.ok (),fr11 h A W R o p d l1 l2 l3 l4):=by rfl
theorem ayc(h A W R o p:Sl)(d:D)(l1 l2 l3 l4:List D):mLnk "Crowd" 4 "turning" 7 (fr11 h A W R o p d l1 l2 l3 l4)=some (.ok (),fr11 h A W R o p d l1 l2 l3 l4):=by rfl
theorem ayd(h A W R o p:Sl)(d:D)(l1 l2 l3 l4:List D):mLnk "Crowd" 4 "gone" 9 (fr11 h A W R o p d l1 l2 l3 l4)=some (.ok (),fr11 h A W R o p d l1 l2 l3 l4):=by rfl
theorem avz(h A W R o p:Sl)(d:D)(l1 l2 l3 l4:List D):(fr11 h A W R o p d l1 l2 l3 l4:List Sl)[3]? = some R:=rfl
theorem ay2(h A W R o p:Sl)(d:D)(l1 l2 l3 l4:List D):(fr11 h A W R o p d l1 l2 l3 l4:List Sl)[6]? = some p:=rfl
theorem ay1(h A W R o p:Sl)(d:D)(l1 l2 l3 l4:List D):(fr11 h A W R o p d l1 l2 l3 l4:List Sl)[7]? = some (.own (some 1000) l1):=rfl
theorem ay0(h A W R o p:Sl)(d:D)(l1 l2 l3 l4:List D):(fr11 h A W R o p d l1 l2 l3 l4:List Sl)[8]? = some (.own (some 1001) l2):=rfl
theorem ayz(h A W R o p:Sl)(d:D)(l1 l2 l3 l4:List D):(fr11 h A W R o p d l1 l2 l3 l4:List Sl)[9]? = some (.own (some 1002) l3):=rfl
section
variable{qv:LL9}(h:Hs qv){as:List Int}(ha:Arr qv as){ws:List Int}
include h ha
theorem al5{s:List Int}(hs:InR qv s){x:Int}(x0:0<=x)(x1:x < (qv.length:Int))(hx:s.count x < wf ws x+arv qv x as s)(A W R o:Sl) :
  mz (fr11 (.val (hD qv)) A W R o (.val (.int x)) (hD qv) ((go qv as s).map D.int) ((stn qv as ws s).map D.int) ((gts qv as s).map D.int) ((tal qv.length s).map D.int)) =
  some (.nx,fr11 (.val (hD qv)) A W R o (.val (.int x)) (hD qv) ((go qv as (s++[x])).map D.int) ((stn qv as ws (s++[x])).map D.int) ((gts qv as (s++[x])).map D.int) ((tal qv.length (s++[x])).map D.int)):=by
 have e1:=sr (ns:=stn qv as ws s) x0 (by rw[jl];exact x1)
 have eL:_=_:=ag2 (ws:=ws) h ha hs x0 x1 1;have eL:dh [.box "Crowd" (fsM (hD qv)),.val (.int x),.val (.int 1),.own (some 3) ((go qv as s).map D.int),.own (some 4) ((stn qv as ws s).map D.int),.own (some 5) ((gts qv as s).map D.int),.own (some 6) ((tal qv.length s).map D.int)] =
  some (.ok (.v .non),[.box "Crowd" (fsM (hD qv)),.val (.int x),.val (.int 1),.own (some 3) ((go qv as (s++[x])).map D.int),.own (some 4) ((stn qv as ws (s++[x])).map D.int),.own (some 5) ((gts qv as (s++[x])).map D.int),.own (some 6) ((tal qv.length (s++[x])).map D.int)]):=eL
 have q:(stn qv as ws s).getD x.toNat 0≠0:=by
  rw[aa2 as ws s x0 x1];omega
 have eM:=aof (h:=.val (hD qv)) (A:=A) (W:=W) (R:=R) (o:=o) (ms:=cg 6 (bw (ret (.int 1)) ie)) (by simp[ay2]) eL
 have er:=wj qv (.int x);have hin:za 0 ((qv.length:Int) - 1) (.int x)=true:=by
  show(decide (0<=x)&&decide (x<=(qv.length:Int) - 1))=true;rw[decide_eq_true x0,decide_eq_true (by omega)]
  rfl
 rw[hin] at er;generalize s++[x]=s2 at *;generalize (stn qv as ws s).getD x.toNat 0=v at *;generalize (stn qv as ws s).map D.int=sm at *;generalize (go qv as s).map D.int=am at *;generalize (gts qv as s).map D.int=gm at *;generalize (tal qv.length s).map D.int=tm at *;generalize (stn qv as ws s2).map D.int=sm2 at *;generalize (go qv as s2).map D.int=am2 at *;generalize (gts qv as s2).map D.int=gm2 at *;generalize (tal qv.length s2).map D.int=tm2 at *;generalize hD qv=hh at *;have l8:=ar9 (.val hh) A W R o (.val (.int x)) hh am sm gm tm;simp only[fr11] at eM l8 ⊢
 simp[mz,er,l8,e1,q,eM]
end
def enA(i:Nat)(l:List D):List D:=l.mapIdx fun j d=>.tup [.int ((i+j:Nat):Int),d]
theorem ajq(i:Nat)(d:D)(l:List D):enA i (d::l)=.tup [.int (i:Int),d]::enA (i+1) l:=by
 unfold enA;rw[List.mapIdx_cons]
 congr 1
 congr 1
 funext j d
 rw[show i+(j+1)=i+1+j by omega]
theorem ajp(l:List D):ac8 l=enA 0 l:=by
 unfold ac8 enA
 congr 1
 funext j d
 rw[Nat.zero_add]
def mayB(qv:LL9)(as ws s:List Int):D->Bool
 | .int x=>decide (0<=x)&&decide (x<=(qv.length:Int) - 1) && !decide ((stn qv as ws s).getD x.toNat 0=0)
 | _=>false
def numD:D->Int
 | .int x=>x
 | _=>0
def jw(qv:LL9)(as ws:List Int):List Int->Nat->List D->Option Nat×List Int
 | s,_,[]=>(none,s)
 | s,i,d::l=>if mayB qv as ws s d=true then jw qv as ws (s++[numD d]) (i+1) l else (some i,s)
theorem al2{qv:LL9}{as ws s:List Int}{d:D}(h:mayB qv as ws s d=true):∃x,d=.int x/\0<=x/\x < (qv.length:Int)/\(stn qv as ws s).getD x.toNat 0≠0:=by
 cases d with
 | int x =>
  have h:(decide (0<=x)&&decide (x<=(qv.length:Int) - 1) && !decide ((stn qv as ws s).getD x.toNat 0=0))=true:=h;rw[Bool.and_eq_true,Bool.and_eq_true,decide_eq_true_eq,decide_eq_true_eq,Bool.not_eq_true',decide_eq_false_iff_not] at h;exact⟨x,rfl,h.1.1,by omega,h.2⟩
 | _=>cases h
theorem apy{qv:LL9}{as ws s:List Int}{d:D}(h:mayB qv as ws s d=false):za 0 ((qv.length:Int) - 1) d=false∨∃x,d=.int x/\0<=x/\x < (qv.length:Int)/\(stn qv as ws s).getD x.toNat 0=0:=by
 cases d with
 | int x =>
  by_cases h1:0<=x/\x<=(qv.length:Int) - 1
  ·right
   refine⟨x,rfl,h1.1,by omega,?_⟩
   have h:(decide (0<=x)&&decide (x<=(qv.length:Int) - 1) && !decide ((stn qv as ws s).getD x.toNat 0=0))=false:=h;rw[decide_eq_true h1.1,decide_eq_true h1.2] at h
   simpa using h
  ·left
   show(decide (0<=x)&&decide (x<=(qv.length:Int) - 1))=false;rw[<-Bool.decide_and];exact decide_eq_false h1
 | _=>exact .inl rfl
def kLB:Sd:=(dSeq (dFor (okS (mGet ami (bc (mVar 3) mNil))) (bTup 2 (qp (ir 5) (qp (ir 6) bNil))) mz) (dOk (dRet (M.v (mTup (bc (M.d (jc (g1 fun d=>(bz d).map fun l=>.v (.tup l)) ((mLnk "Crowd" 4 "turning" 7).bind fun _=>dw 7 mNil))) (bc (M.d (jc (g1 fun d=>(bz d).map fun l=>.v (.tup l)) ((mLnk "Crowd" 4 "standing" 8).bind fun _=>dw 8 mNil))) (bc (M.d (jc (g1 fun d=>(bz d).map fun l=>.v (.tup l)) ((mLnk "Crowd" 4 "gone" 9).bind fun _=>dw 9 mNil))) mNil))))))))
theorem apx{R:Fl}{hh:D}{la lw lS am sm gm tm zz:List D}{o5 o6:Sl}(t5:tagB o5=true)(t6:tagB o6=true)(z:iniD vo [.emp,.val hh,.val (.tup la),.val (.tup lw)]=some (rsC hh la lw zz,[.emp,.val hh,.val (.tup la),.val (.tup lw)]))(eK:kLB (fr11 (.val hh) (.val (.tup la)) (.val (.tup lw)) (.val (.lst lS)) .emp .emp hh la lw [.int 0,.int 0,.int 0] zz)=some (R,fr11 (.val hh) (.val (.tup la)) (.val (.tup lw)) (.val (.lst lS)) o5 o6 hh am sm gm tm)) :
  dNew "Crowd" 4 [7,8,9,10] 4 4 vo [some 0,some 1,some 2] (okS (cg 0 (cg 1 (cg 2 ie)))) kLB [.val hh,.val (.tup la),.val (.tup lw),.val (.lst lS),.emp,.emp,.emp,.emp,.emp,.emp,.emp]=some (R,[.val hh,.val (.tup la),.val (.tup lw),.val (.lst lS),.emp,o5,o6,.emp,.emp,.emp,.emp]):=by
 unfold dNew dM;have em:okS (cg 0 (cg 1 (cg 2 ie))) [Sl.val hh,.val (.tup la),.val (.tup lw),.val (.lst lS),.emp,.emp,.emp,.emp,.emp,.emp,.emp]=some (.ok [none,none,none],[.val hh,.val (.tup la),.val (.tup lw),.val (.lst lS),.emp,.emp,.emp,.emp,.emp,.emp,.emp]):=by rfl
 rw[em];dsimp only;rw[if_pos (show okJs [Sl.val hh,.val (.tup la),.val (.tup lw),.val (.lst lS),.emp,.emp,.emp,.emp,.emp,.emp,.emp] [none,some 0,some 1,some 2]=true from rfl)]
 have el:lend [Sl.val hh,.val (.tup la),.val (.tup lw),.val (.lst lS),.emp,.emp,.emp,.emp,.emp,.emp,.emp] [none,some 0,some 1,some 2] [none,none,none,none]++List.replicate (4 - 4) Sl.emp=[.emp,.val hh,.val (.tup la),.val (.tup lw)]:=rfl;rw[el,z];dsimp only;rw[if_pos (show(putB [Sl.val hh,.val (.tup la),.val (.tup lw),.val (.lst lS),.emp,.emp,.emp,.emp,.emp,.emp,.emp] [none,some 0,some 1,some 2] (List.take 4 [.emp,.val hh,.val (.tup la),.val (.tup lw)]):List Sl).all tagB=true/\[7,8,9,10].contains 4=false from⟨rfl,rfl⟩)]
 have eS:setG (rsC hh la lw zz) [7,8,9,10] 0 (List.set (putB [Sl.val hh,.val (.tup la),.val (.tup lw),.val (.lst lS),.emp,.emp,.emp,.emp,.emp,.emp,.emp] [none,some 0,some 1,some 2] (List.take 4 [.emp,.val hh,.val (.tup la),.val (.tup lw)])) 4 (.box "Crowd" (mkFs (rsC hh la lw zz) 0)))=some (fr11 (.val hh) (.val (.tup la)) (.val (.tup lw)) (.val (.lst lS)) .emp .emp hh la lw [.int 0,.int 0,.int 0] zz):=rfl;rw[eS];dsimp only;rw[eK];dsimp only;have eO:offs (fr11 (.val hh) (.val (.tup la)) (.val (.tup lw)) (.val (.lst lS)) o5 o6 hh am sm gm tm) [4,7,8,9,10]=[.val hh,.val (.tup la),.val (.tup lw),.val (.lst lS),.emp,o5,o6,.emp,.emp,.emp,.emp]:=rfl;rw[eO,if_pos (show([Sl.val hh,.val (.tup la),.val (.tup lw),.val (.lst lS),.emp,o5,o6,.emp,.emp,.emp,.emp]:List Sl).all tagB=true by simp only[List.all_cons,List.all_nil,t5,t6];rfl)]
section
variable{qv:LL9}(h:Hs qv){as:List Int}(ha:Arr qv as){ws:List Int}
include h ha
theorem asa{s:List Int}{d:D}(hd:mayB qv as ws s d=false)(A W R:Sl)(i:Int)(l1 l3 l4:List D) :
  mz (fr11 (.val (hD qv)) A W R (.val (.int i)) (.val d) (hD qv) l1 ((stn qv as ws s).map D.int) l3 l4)=some (.exc ⟨"Nobody", [("at", i)]⟩,fr11 (.val (hD qv)) A W R (.val (.int i)) (.val d) (hD qv) l1 ((stn qv as ws s).map D.int) l3 l4):=by
 have er:=wj qv d;rcases apy hd with hn | ⟨x,rfl,x0,x1,hz⟩
 ·rw[hn] at er;generalize (stn qv as ws s).map D.int=sm at *;generalize hD qv=hh at *;simp only[fr11];simp[mz,er,aai]
 ·have e1:=sr (ns:=stn qv as ws s) x0 (by rw[jl];exact x1)
  have hin:za 0 ((qv.length:Int) - 1) (.int x)=true:=by
   show(decide (0<=x)&&decide (x<=(qv.length:Int) - 1))=true;rw[decide_eq_true x0,decide_eq_true (by omega)]
   rfl
  rw[hin] at er;rw[hz] at e1;generalize (stn qv as ws s).map D.int=sm at *;generalize hD qv=hh at *;have l8:=ar9 (.val hh) A W R (.val (.int i)) (.val (.int x)) hh l1 sm l3 l4;simp only[fr11] at l8 ⊢
  simp[mz,er,l8,e1,aai]
theorem al6(A W R:Sl):∀(l:List D) (s:List Int) (i:Nat) (o5 o6:Sl),tagB o5=true->tagB o6=true->InR qv s->NN qv as (wf ws) s->∃b5 b6,tagB b5=true/\tagB b6=true/\InR qv (jw qv as ws s i l).2/\forD (bTup 2 (qp (ir 5) (qp (ir 6) bNil))) mz (enA i l) (fr11 (.val (hD qv)) A W R o5 o6 (hD qv) ((go qv as s).map D.int) ((stn qv as ws s).map D.int) ((gts qv as s).map D.int) ((tal qv.length s).map D.int)) =
  some (match (jw qv as ws s i l).1 with | none=>.nx | some k=>.exc ⟨"Nobody", [("at", (k:Int))]⟩,fr11 (.val (hD qv)) A W R b5 b6 (hD qv) ((go qv as (jw qv as ws s i l).2).map D.int) ((stn qv as ws (jw qv as ws s i l).2).map D.int) ((gts qv as (jw qv as ws s i l).2).map D.int) ((tal qv.length (jw qv as ws s i l).2).map D.int))
 | [],s,i,o5,o6,t5,t6,hs,hn=>⟨o5,o6,t5,t6,hs,rfl⟩
 | d::l,s,i,o5,o6,t5,t6,hs,hn=>by
  have hb:∀(l1 l2 l3 l4:List D),bTup 2 (qp (ir 5) (qp (ir 6) bNil)) (.tup [.int (i:Int),d]) (fr11 (.val (hD qv)) A W R o5 o6 (hD qv) l1 l2 l3 l4)=some (fr11 (.val (hD qv)) A W R (.val (.int (i:Int))) (.val d) (hD qv) l1 l2 l3 l4):=fun _ _ _ _=>rfl
  rw[ajq,qm,hb];unfold jw;cases hm:mayB qv as ws s d with
  | false =>
   have e:=asa h ha hm A W R (i:Int) ((go qv as s).map D.int) ((gts qv as s).map D.int) ((tal qv.length s).map D.int);refine⟨.val (.int (i:Int)),.val d,rfl,rfl,hs,?_⟩;dsimp only;rw[e];rfl
  | true =>
   obtain⟨x,rfl,x0,x1,hz⟩:=al2 hm;have hx:s.count x < wf ws x+arv qv x as s:=by
    have a:=hn x x0 x1;rw[aa2 as ws s x0 x1] at hz;omega
   have e:=al5 (ws:=ws) h ha hs x0 x1 hx A W R (.val (.int (i:Int)));obtain⟨b5,b6,u5,u6,hi,e2⟩:=al6 A W R l (s++[x]) (i+1) (.val (.int (i:Int))) (.val (.int x)) rfl rfl (hs.append fun y hy=>by rw[List.mem_singleton] at hy;rw[hy];exact⟨x0,x1⟩) (hn.snoc hx)
   refine⟨b5,b6,u5,u6,hi,?_⟩;dsimp only;rw[e];exact e2
theorem aok(hW:Wk qv.length ws)(lS:List D):sy [.val (hD qv),.val (.tup (as.map D.int)),.val (.tup (ws.map D.int)),.val (.lst lS)]=some (match (jw qv as ws [] 0 lS).1 with | none=>.ok (.v (.tup [.tup ((go qv as (jw qv as ws [] 0 lS).2).map D.int),.tup ((stn qv as ws (jw qv as ws [] 0 lS).2).map D.int),.tup ((gts qv as (jw qv as ws [] 0 lS).2).map D.int)])) | some k=>.exc ⟨"Nobody", [("at", (k:Int))]⟩,[.val (hD qv),.val (.tup (as.map D.int)),.val (.tup (ws.map D.int)),.val (.lst lS)]):=by
 obtain⟨o5,o6,t5,t6,hi,e⟩:=al6 h ha (.val (.tup (as.map D.int))) (.val (.tup (ws.map D.int))) (.val (.lst lS)) lS [] 0 .emp .emp rfl rfl (fun _ z=>by cases z) NN.nil
 rw[<-ajp,ah2 hW.len fun w hw'=>(hW.ok w hw').1,aqp] at e
 have hm:=h.most;have hal:=ha.len;have hwl:=hW.len;generalize (jw qv as ws [] 0 lS).2=S at *;generalize (jw qv as ws [] 0 lS).1=K at *;have c1:(as.map D.int).length<=capS:=by rw[List.length_map];exact dz (by omega)
 have c2:(ws.map D.int).length<=capS:=by rw[List.length_map];exact dz (by omega)
 have c4:((gts qv as S).map D.int).length<=capS:=dz (show 3<=1000 by decide)
 have c5:((stn qv as ws S).map D.int).length<=capS:=by rw[List.length_map,jl];exact dz (by omega)
 have c6:((go qv as S).map D.int).length<=capS:=by rw[List.length_map,(aay h S ha hi).len];exact dz (by omega)
 have z:=avp (hD qv) (hh:=hDs qv) (n:=qv.length) rfl (ur qv) c1 c2 (by omega)
 have s0:=apd h ha hW;have e:forD (bTup 2 (qp (ir 5) (qp (ir 6) bNil))) mz (ac8 lS) (fr11 (.val (hD qv)) (.val (.tup (as.map D.int))) (.val (.tup (ws.map D.int))) (.val (.lst lS)) .emp .emp (hD qv) (as.map D.int) (ws.map D.int) [.int 0,.int 0,.int 0] ((List.replicate qv.length (0:Int)).map D.int))=_:=e;have eg:ahb=dSeq (acr (mFn gf [none,none,none] (bw (okS (mVar 0)) (bw (okS (mVar 1)) (bw (okS (mVar 2)) ie))))) (dNew "Crowd" 4 [7,8,9,10] 4 4 vo [some 0,some 1,some 2] (okS (cg 0 (cg 1 (cg 2 ie)))) kLB):=rfl;generalize (List.replicate qv.length (0:Int)).map D.int=zz at *;generalize (tal qv.length S).map D.int=tm at *;generalize (stn qv as ws S).map D.int=sm at *;generalize (gts qv as S).map D.int=gm at *;generalize (go qv as S).map D.int=am at *;generalize as.map D.int=la at *;generalize ws.map D.int=lw at *;generalize hD qv=hh at *;cases K with
 | none =>
  have eK:kLB (fr11 (.val hh) (.val (.tup la)) (.val (.tup lw)) (.val (.lst lS)) .emp .emp hh la lw [.int 0,.int 0,.int 0] zz)=some (.ret (.v (.tup [.tup am,.tup sm,.tup gm])),fr11 (.val hh) (.val (.tup la)) (.val (.tup lw)) (.val (.lst lS)) o5 o6 hh am sm gm tm):=by
   simp only at e;simp[kLB,avz,e,ayd,ayc,ar9,ay1,ay0,ayz,c4,c5,c6]
  have eN:=apx t5 t6 z eK;simp[sy,eg,s0,eN]
 | some k =>
  have eK:kLB (fr11 (.val hh) (.val (.tup la)) (.val (.tup lw)) (.val (.lst lS)) .emp .emp hh la lw [.int 0,.int 0,.int 0] zz)=some (.exc ⟨"Nobody", [("at", (k:Int))]⟩,fr11 (.val hh) (.val (.tup la)) (.val (.tup lw)) (.val (.lst lS)) o5 o6 hh am sm gm tm):=by
   simp only at e;simp[kLB,avz,e]
  have eN:=apx t5 t6 z eK;simp[sy,eg,s0,eN]
end
theorem ao1{d:D}(hd:okD 30 d=true)(neg:Bool):gEq neg d d=some (.v (.bl (!neg))):=by
 have e:eqD d d=true:=PySem.SeqAt.eqv_refl _ (ul _ _ hd).1;unfold gEq;rw[hd,e];cases neg <;> rfl
def Elt(d:D):Prop:=okD 28 d=true∨∃x n,d=.dct [(.inr x,.int n)]
theorem aj9{d:D}(h:Elt d):agn d d=true:=by
 rcases h with h | ⟨x,n,rfl⟩
 ·unfold agn;split
  ·cases h
  ·rw[h,apa h];rfl
 ·simp[agn]
theorem aet:∀{l:List D},(∀d∈l,Elt d)->ah6 l l=true
 | [],_=>rfl
 | d::l,h=>by
  show(agn d d&&ah6 l l)=true;rw[aj9 (h d (List.mem_cons_self ..)),aet fun x hx=>h x (List.mem_cons_of_mem _ hx)]
  rfl
theorem ak8(s:String):PyData.strOk (Str.ofString s)=true:=by
 rw[Str.ofString_eq_toList];show(List.toArray (s.toList.map Char.toNat)).all (fun x=>decide (x < 0x110000))=true
 rw[Array.all_eq_true];intro i hi;have hi':i < (s.toList.map Char.toNat).length:=hi;have hm:(s.toList.map Char.toNat)[i]∈s.toList.map Char.toNat:=List.getElem_mem _;obtain⟨c,_,e⟩:=List.mem_map.mp hm;have hv:=c.valid;have h2:c.toNat < 0x110000:=by
  rcases hv with z | ⟨_,z⟩
  ·exact Nat.lt_trans z (by decide)
  ·exact z
 have e2:(List.toArray (s.toList.map Char.toNat))[i]=c.toNat:=e.symm;rw[e2];exact decide_eq_true h2
theorem auz(P:Int×Int):∃d P',f__law_odd [.own (some 0) (pen P)]=some (.ok (.v d),[.own (some 0) (pen P')])/\Elt d:=by
 obtain⟨r,P',e,h0,h1⟩:=j5 P 16 (by decide) (by decide)
 have big:fPow 10 30=some 1000000000000000000000000000000:=by decide +kernel
 have hT:∃d,atI [.non,.bl true,.bl false,.int (-1),.str "1", .str "", .tup [],.lst [],.tup [.int 0],.lst [.int 0],.dct [(Sum.inr "a", .int 1)],.tup [.int 0,.int 1],.int 1000000000000000000000000000000,.tup [.tup [.int 0]],.str "ab", .tup [.tup [.int (-1)],.tup [.int 0,.int 1]]] r=some d/\Elt d:=by
  have:r=0∨r=1∨r=2∨r=3∨r=4∨r=5∨r=6∨r=7∨r=8∨r=9∨r=10∨r=11∨r=12∨r=13∨r=14∨r=15:=by omega
  rcases this with rfl | rfl | rfl | rfl | rfl | rfl | rfl | rfl | rfl | rfl | rfl | rfl | rfl | rfl | rfl | rfl
  ·exact⟨_,rfl,.inl rfl⟩
  ·exact⟨_,rfl,.inl rfl⟩
  ·exact⟨_,rfl,.inl rfl⟩
  ·exact⟨_,rfl,.inl rfl⟩
  ·exact⟨_,rfl,.inl (ak8 _)⟩
  ·exact⟨_,rfl,.inl (ak8 _)⟩
  ·exact⟨_,rfl,.inl rfl⟩
  ·exact⟨_,rfl,.inl rfl⟩
  ·exact⟨_,rfl,.inl rfl⟩
  ·exact⟨_,rfl,.inl rfl⟩
  ·exact⟨_,rfl,.inr ⟨_,_,rfl⟩⟩
  ·exact⟨_,rfl,.inl rfl⟩
  ·exact⟨_,rfl,.inl rfl⟩
  ·exact⟨_,rfl,.inl rfl⟩
  ·exact⟨_,rfl,.inl (ak8 _)⟩
  ·exact⟨_,rfl,.inl rfl⟩
 obtain⟨T,eT,t⟩:=hT;have hc:(16:Nat)<=capS:=by decide
 exact⟨T,P',by simp[f__law_odd,ae3,e,big,eT,hc],t⟩
theorem aqd{l:List D}{k:Int}(h0:0<=k)(h1:k < (l.length:Int)):∃d,atI l k=some d/\d∈l:=by
 refine⟨l[k.toNat]'(by omega),?_,List.getElem_mem _⟩
 unfold atI;rw[vm h0 h1];exact List.getElem?_eq_getElem (by omega)
theorem amx{l:List D}{lo hi:Option Int}:∀d∈cutD l lo hi,d∈l:=fun d hd=>List.mem_of_mem_drop (List.mem_of_mem_take hd)
theorem amy(l:List D)(lo hi:Option Int):(cutD l lo hi).length<=l.length:=by
 unfold cutD;rw[List.length_take,List.length_drop];omega
theorem seq2{g1 g2:Sd}{ρ ρ':Ro}(h1:g1 ρ=some (.nx,ρ')):dSeq g1 g2 ρ=g2 ρ':=by simp[h1]
def dueW(qv:LL9)(as ws:List Int)(lS:List D):D:=match (jw qv as ws [] 0 lS).1 with
 | none=>.tup [.str "told", .tup [.tup ((go qv as (jw qv as ws [] 0 lS).2).map D.int),.tup ((stn qv as ws (jw qv as ws [] 0 lS).2).map D.int),.tup ((gts qv as (jw qv as ws [] 0 lS).2).map D.int)]]
 | some k=>.tup [.str "nobody", .int (k:Int)]
theorem asz(qv:LL9)(as ws:List Int)(lS:List D):okD 30 (dueW qv as ws lS)=true:=by
 unfold dueW;split
 ·show([D.str "told", .tup [.tup ((go qv as (jw qv as ws [] 0 lS).2).map D.int),.tup ((stn qv as ws (jw qv as ws [] 0 lS).2).map D.int),.tup ((gts qv as (jw qv as ws [] 0 lS).2).map D.int)]]:List D).all (okD 29)=true;rw[List.all_cons,List.all_cons,show okD 29 (.str "told")=true by kernel_rfl]
  show(true&&(([D.tup ((go qv as (jw qv as ws [] 0 lS).2).map D.int),.tup ((stn qv as ws (jw qv as ws [] 0 lS).2).map D.int),.tup ((gts qv as (jw qv as ws [] 0 lS).2).map D.int)]:List D).all (okD 28)&&true))=true;rw[List.all_cons,List.all_cons,List.all_cons,show okD 28 (.tup ((go qv as (jw qv as ws [] 0 lS).2).map D.int))=true from agv 27 _,show okD 28 (.tup ((stn qv as ws (jw qv as ws [] 0 lS).2).map D.int))=true from agv 27 _,show okD 28 (.tup ((gts qv as (jw qv as ws [] 0 lS).2).map D.int))=true from agv 27 _]
  rfl
 ·rename_i k _;show([D.str "nobody", .int (k:Int)]:List D).all (okD 29)=true;rw[List.all_cons,show okD 29 (.str "nobody")=true by kernel_rfl]
  rfl
theorem aij(i:Int):uw [.val (.exn "Nobody" [("at", i)])]=some (.ok (.v (.str "nobody")),[.val (.exn "Nobody" [("at", i)])]):=by kernel_rfl
theorem alw:("Nobody" : Str)∈NS:=List.contains_iff_mem.mp (by decide +kernel)
theorem ay4:gEq true (.str "nobody") (.str "nobody")=some (.v (.bl false)):=by kernel_rfl
theorem apg{ns:List Int}(h0:∀x∈ns,0<=x):compD (ir 0) (ret true) vp (ns.map D.int) [] [.emp]=some (.ok ((ns.map D.int).map fun _=>.bl true),ad4 .emp (ns.map D.int)::[]):=by
 rw[aej (f:=fun _=>.bl true)]
 ·rfl
 ·intro d hd;obtain⟨x,hx,rfl⟩:=List.mem_map.mp hd;have:=h0 x hx;simp[vp,yu,this]
theorem aeh{ns:List Int}(h0:∀x∈ns,0<=x){m:Int}(hm:(ns.length:Int)=m)(hs:ns.length<=1000):j0 [.val (.tup (ns.map D.int)),.val (.int m)]=some (.ok (.v (.bl true)),[.val (.tup (ns.map D.int)),.val (.int m)]):=by
 have c:=apg h0;have hc:((ns.map D.int).map fun _=>D.bl true).length<=capS:=by rw[List.length_map,List.length_map];exact dz (by omega)
 have b1:vg ((ns.map D.int).map fun _=>D.bl true)=some ((ns.map D.int).map fun _=>true):=air (ns.map D.int) fun _=>true
 have b2:(((ns.map D.int).map fun _=>true).all id)=true:=by rw[List.all_eq_true];intro b hb;obtain⟨_,_,rfl⟩:=List.mem_map.mp hb;rfl
 have hl:((ns.map D.int).length:Int)=m:=by rw[List.length_map];exact hm
 generalize ns.map D.int=nl at *;generalize (nl.map fun _=>D.bl true)=DL at *
 generalize (nl.map fun _=>true)=BL at *
 simp[j0,ab3,isTy,hl,c,hc,gAll,b1,b2]
section
variable{qv:LL9}(h:Hs qv){as:List Int}(ha:Arr qv as){ws:List Int}
include h ha
omit h ha in
theorem ahz:∀(l:List D) (s:List Int) (i:Nat),InR qv s->NN qv as (wf ws) s->InR qv (jw qv as ws s i l).2/\NN qv as (wf ws) (jw qv as ws s i l).2
 | [],s,i,hs,hn=>⟨hs,hn⟩
 | d::l,s,i,hs,hn=>by
  unfold jw;cases hm:mayB qv as ws s d with
  | false=>exact⟨hs,hn⟩
  | true =>
   obtain⟨x,rfl,x0,x1,hz⟩:=al2 hm;have hx:s.count x < wf ws x+arv qv x as s:=by
    have a:=hn x x0 x1;rw[aa2 as ws s x0 x1] at hz;omega
   exact ahz l (s++[x]) (i+1) (hs.append fun y hy=>by rw[List.mem_singleton] at hy;rw[hy];exact⟨x0,x1⟩) (hn.snoc hx)
theorem apb{s:List Int}(hs:InR qv s){x:Int}(x0:0<=x)(x1:x < (qv.length:Int))(hz:(stn qv as ws s).getD x.toNat 0≠0)(R o:Sl):je [.val (hD qv),.own none ((go qv as s).map D.int),.own none ((stn qv as ws s).map D.int),R,.own none ((gts qv as s).map D.int),o,.val (.int x)]=some (.nx,[.val (hD qv),.own none ((go qv as (s++[x])).map D.int),.own none ((stn qv as ws (s++[x])).map D.int),R,.own none ((gts qv as (s++[x])).map D.int),o,.val (.int x)]):=by
 have e1:=sr (ns:=stn qv as ws s) x0 (by rw[jl];exact x1)
 have e2:=ag4 (ws:=ws) h ha hs x0 x1;have hl:=ur qv;generalize (stn qv as ws s).getD x.toNat 0=v at *;generalize (stn qv as ws s).map D.int=sm at *;generalize (go qv as s).map D.int=am at *;generalize (gts qv as s).map D.int=gm at *;generalize (stn qv as ws (s++[x])).map D.int=sm2 at *;generalize (go qv as (s++[x])).map D.int=am2 at *;generalize (gts qv as (s++[x])).map D.int=gm2 at *;simp only[hD] at *;have hlx:x < ((hDs qv).length:Int):=by rw[hl];exact x1
 clear hl
 generalize hDs qv=hh at *;simp[je,yu,x0,hlx,e1,hz,e2]
theorem av1{s:List Int}{d:D}(hd:mayB qv as ws s d=false)(A R G:Sl)(i:Int):je [.val (hD qv),A,.own none ((stn qv as ws s).map D.int),R,G,.val (.int i),.val d]=some (.ret (.v (.tup [.str "nobody", .int i])),[.val (hD qv),A,.own none ((stn qv as ws s).map D.int),R,G,.val (.int i),.val d]):=by
 have hl:=ur qv;cases d with
 | int x =>
  rcases apy hd with hn | ⟨y,e,y0,y1,hz⟩
  ·have hn:(decide (0<=x)&&decide (x<=(qv.length:Int) - 1))=false:=hn;simp only[hD] at *;generalize (stn qv as ws s).map D.int=sm at *
   by_cases h0:0<=x
   ·have h1:¬x < ((hDs qv).length:Int):=fun z=>by
     rw[decide_eq_true h0,decide_eq_true (show x<=(qv.length:Int) - 1 by rw[hl] at z;omega)] at hn
     cases hn
    clear hl
    generalize hDs qv=hh at *;simp[je,yu,h0,h1]
   ·clear hl
    generalize hDs qv=hh at *;simp[je,yu,h0]
  ·cases e;have e1:=sr (ns:=stn qv as ws s) y0 (by rw[jl];exact y1)
   rw[hz] at e1;simp only[hD] at *;have hlx:x < ((hDs qv).length:Int):=by rw[hl];exact y1
   clear hl
   generalize (stn qv as ws s).map D.int=sm at *;generalize hDs qv=hh at *;simp[je,yu,y0,hlx,e1]
 | _ =>
  simp only[hD] at *
  clear hl
  generalize (stn qv as ws s).map D.int=sm at *;generalize hDs qv=hh at *;simp[je,yu]
theorem ajr(R:Sl):∀(l:List D) (s:List Int) (i:Nat) (o5 o6:Sl),InR qv s->∃b5 b6,forD (bTup 2 (qp (ir 5) (qp (ir 6) bNil))) je (enA i l) [.val (hD qv),.own none ((go qv as s).map D.int),.own none ((stn qv as ws s).map D.int),R,.own none ((gts qv as s).map D.int),o5,o6] =
  some (match (jw qv as ws s i l).1 with | none=>.nx | some k=>.ret (.v (.tup [.str "nobody", .int (k:Int)])),[.val (hD qv),.own none ((go qv as (jw qv as ws s i l).2).map D.int),.own none ((stn qv as ws (jw qv as ws s i l).2).map D.int),R,.own none ((gts qv as (jw qv as ws s i l).2).map D.int),b5,b6])
 | [],s,i,o5,o6,hs=>⟨o5,o6,rfl⟩
 | d::l,s,i,o5,o6,hs=>by
  rw[ajq,qm];unfold jw;cases hm:mayB qv as ws s d with
  | false =>
   have e:=av1 h ha hm (.own none ((go qv as s).map D.int)) R (.own none ((gts qv as s).map D.int)) (i:Int);refine⟨.val (.int (i:Int)),.val d,?_⟩;show(match je [.val (hD qv),.own none ((go qv as s).map D.int),.own none ((stn qv as ws s).map D.int),R,.own none ((gts qv as s).map D.int),.val (.int (i:Int)),.val d] with | some (.nx,ρ2)=>_ | some (.cont,ρ2)=>_ | some (.brk,ρ2)=>_ | some (.ret r,ρ2)=>_ | some (.exc x,ρ2)=>_ | none=>_)=_
   rw[e];rfl
  | true =>
   obtain⟨x,rfl,x0,x1,hz⟩:=al2 hm;have e:=apb h ha hs x0 x1 hz R (.val (.int (i:Int)));obtain⟨b5,b6,e2⟩:=ajr R l (s++[x]) (i+1) (.val (.int (i:Int))) (.val (.int x)) (hs.append fun y hy=>by rw[List.mem_singleton] at hy;rw[hy];exact⟨x0,x1⟩)
   refine⟨b5,b6,?_⟩;show(match je [.val (hD qv),.own none ((go qv as s).map D.int),.own none ((stn qv as ws s).map D.int),R,.own none ((gts qv as s).map D.int),.val (.int (i:Int)),.val (.int x)] with | some (.nx,ρ2)=>_ | some (.cont,ρ2)=>_ | some (.brk,ρ2)=>_ | some (.ret r,ρ2)=>_ | some (.exc x,ρ2)=>_ | none=>_)=_
   rw[e];exact e2
theorem av2(hW:Wk qv.length ws)(lS:List D):∃a1 a2,f__law_due [.val (hD qv),.val (.tup (as.map D.int)),.val (.tup (ws.map D.int)),.val (.lst lS)]=some (.ok (.v (dueW qv as ws lS)),[.val (hD qv),a1,a2,.val (.lst lS)]):=by
 obtain⟨o5,o6,e⟩:=ajr h ha (ws:=ws) (.val (.lst lS)) lS [] 0 .emp .emp (fun _ z=>by cases z)
 obtain⟨hi,_⟩:=ahz (qv:=qv) (as:=as) (ws:=ws) lS [] 0 (fun _ z=>by cases z) NN.nil
 rw[<-ajp,ah2 hW.len fun w hw'=>(hW.ok w hw').1] at e
 have hm:=h.most;have hal:=ha.len;have hwl:=hW.len;unfold dueW;generalize (jw qv as ws [] 0 lS).2=S at *;generalize (jw qv as ws [] 0 lS).1=K at *;have c1:(as.map D.int).length<=capS:=by rw[List.length_map];exact dz (by omega)
 have c2:(ws.map D.int).length<=capS:=by rw[List.length_map];exact dz (by omega)
 have c4:((gts qv as S).map D.int).length<=capS:=dz (show 3<=1000 by decide)
 have c5:((stn qv as ws S).map D.int).length<=capS:=by rw[List.length_map,jl];exact dz (by omega)
 have c6:((go qv as S).map D.int).length<=capS:=by rw[List.length_map,(aay h S ha hi).len];exact dz (by omega)
 have e:forD (bTup 2 (qp (ir 5) (qp (ir 6) bNil))) je (ac8 lS) [.val (hD qv),.own none (as.map D.int),.own none (ws.map D.int),.val (.lst lS),.own none [.int 0,.int 0,.int 0],.emp,.emp]=_:=e;generalize (stn qv as ws S).map D.int=sm at *;generalize (gts qv as S).map D.int=gm at *;generalize (go qv as S).map D.int=am at *;generalize as.map D.int=la at *;generalize ws.map D.int=lw at *;generalize hD qv=hh at *;cases K with
 | none =>
  simp only at e;refine⟨.own none am,.own none sm,?_⟩;simp[f__law_due,acl,noTf,e,c1,c2,c4,c5,c6]
 | some k =>
  simp only at e;refine⟨.own none am,.own none sm,?_⟩;simp[f__law_due,acl,noTf,e,c1,c2]
theorem aqm(hW:Wk qv.length ws)(lS:List D):qz [.val (hD qv),.val (.tup (as.map D.int)),.val (.tup (ws.map D.int)),.val (.lst lS)]=some (.ok (.v (dueW qv as ws lS)),[.val (hD qv),.val (.tup (as.map D.int)),.val (.tup (ws.map D.int)),.val (.lst lS)]):=by
 have e:=aok h ha hW lS;obtain⟨hi,hn⟩:=ahz (qv:=qv) (as:=as) (ws:=ws) lS [] 0 (fun _ z=>by cases z) NN.nil
 have hm:=h.most;unfold dueW;generalize (jw qv as ws [] 0 lS).2=S at *;generalize (jw qv as ws [] 0 lS).1=K at *;have hga:=aay h S ha hi;have hl:=ur qv;cases K with
 | some k =>
  have k1:=aij (k:Int);have n1:=alw;have q:=ay4;simp only at e;generalize as.map D.int=la at *;generalize ws.map D.int=lw at *;generalize hD qv=hh at *;simp[qz,abd,acz,dTry,e,k1,n1,q,yu,List.lookup]
 | none =>
  have g1:=aeh (ns:=gts qv as S) (fun x hx=>by
   unfold gts at hx;simp only[List.mem_cons,List.not_mem_nil,or_false] at hx;omega) (m:=3) rfl (show 3<=1000 by decide)
  have g2:=aeh (ns:=go qv as S) (fun x hx=>by
   obtain⟨j,hj,e⟩:=List.mem_iff_getElem.mp hx;have:=hga.ok j x (qv[j]'(by have:=hga.len;omega)) (by rw[List.getElem?_eq_getElem hj,e]) (List.getElem?_eq_getElem _)
   exact this.1) (m:=(qv.length:Int)) (by rw[hga.len]) (by rw[hga.len];omega)
  have g3:=aeh (ns:=stn qv as ws S) (fun x hx=>by
   unfold stn at hx;obtain⟨j,hj,rfl⟩:=List.mem_map.mp hx;have:=hn (j:Int) (by omega) (by have:=List.mem_range.mp hj;omega)
   omega) (m:=(qv.length:Int)) (by rw[jl]) (by rw[jl];omega)
  simp only at e;rw[<-hl] at g2 g3;simp only[hD] at *
  clear hl hga hi hn
  generalize (stn qv as ws S).map D.int=sm at *;generalize (gts qv as S).map D.int=gm at *;generalize (go qv as S).map D.int=am at *;generalize as.map D.int=la at *;generalize ws.map D.int=lw at *;generalize hDs qv=hh at *;have a0:atI [D.tup am,.tup sm,.tup gm] 0=some (.tup am):=rfl;have a1:atI [D.tup am,.tup sm,.tup gm] 1=some (.tup sm):=rfl;have a2:atI [D.tup am,.tup sm,.tup gm] 2=some (.tup gm):=rfl;simp[qz,abd,dTry,e,isTy,a0,a1,a2,g1,g2,g3]
theorem apn(hW:Wk qv.length ws)(l:List D){X:Sl}(hX:X=.own none l∨X=.val (.lst l))(o:Sl):yg [.val (hD qv),.val (.tup (as.map D.int)),.val (.tup (ws.map D.int)),.val (.lst l),X,o]=some (.nx,[.val (hD qv),.val (.tup (as.map D.int)),.val (.tup (ws.map D.int)),.val (.lst l),.val (.lst l),o]):=by
 have e1:=aqm h ha hW l;obtain⟨a1,a2,e2⟩:=av2 h ha hW l;have e3:=ao1 (asz qv as ws l) true;generalize dueW qv as ws l=R at *;generalize as.map D.int=la at *;generalize ws.map D.int=lw at *;generalize hD qv=hh at *;rcases hX with rfl | rfl <;> simp[yg,e1,e2,e3]
theorem afk(hW:Wk qv.length ws){l:List D}(hE:∀d∈l,Elt d):jq [.val (hD qv),.val (.tup (as.map D.int)),.val (.tup (ws.map D.int)),.val (.lst l)]=some (.ok (.v (.bl true)),[.val (hD qv),.val (.tup (as.map D.int)),.val (.tup (ws.map D.int)),.val (.lst l)]):=by
 have e1:=apn h ha hW l (X:=.own none l) (.inl rfl) (.val (.int 0));have e2:=apn h ha hW l (X:=.val (.lst l)) (.inr rfl) (.val (.int 1));have er:km 0 2=[.int 0,.int 1]:=rfl;have e4:gEqL (.lst l) (.lst l)=some (.v (.bl true)):=by
  show(if ah6 l l=true then some (Rv.v (.bl true)) else none)=_
  rw[if_pos (aet hE)]
 generalize as.map D.int=la at *;generalize ws.map D.int=lw at *;generalize hD qv=hh at *;simp[jq,ac3,er,qm,e1,e2,e4]
end
theorem ajj(neg:Bool)(a b:List Int):gEq neg (.lst (a.map D.int)) (.lst (b.map D.int))=some (.v (.bl (if neg then !decide (a=b) else decide (a=b)))):=by
 have h1:okD 30 (.lst (a.map D.int))=true:=agv 29 a;have h2:okD 30 (.lst (b.map D.int))=true:=agv 29 b;have h3:eqD (.lst (a.map D.int)) (.lst (b.map D.int))=decide (a=b):=by
  rw[<-ajo];exact amu _ _
 simp only[gEq,h1,h2,h3];rfl
theorem agh(P:Int×Int){qv:LL9}(h:Hs qv):∃(ws:List Int) (P':Int×Int),ph [.own (some 0) (pen P),.val (hD qv),.val (.int 4)]=some (.ok (.v (.tup (ws.map D.int))),[.own (some 0) (pen P'),.val (hD qv),.val (.int 4)])/\ws.length=qv.length/\∀w∈ws,0<=w/\w<=4:=by
 have comp:=aal (b:=ir 0) (mc:=ret true) (me:=ux) (fun j ys ρ=>∃ns P o,ρ=[o,.own (some 1) (pen P),.val (.int 4)]/\ys=ns.map D.int/\ns.length=j/\∀w∈ns,0<=w/\w<=4)
  (l:=hDs qv) (ys:=[]) (ρ:=[.emp,.own (some 1) (pen P),.val (.int 4)]) 0 ⟨[],P,.emp,rfl,rfl,rfl,by simp⟩ ?_
 ·obtain⟨ys,ρ',e6,ns,P6,o,rfl,rfl,hn,hx⟩:=comp;rw[ur,Nat.zero_add] at hn;have hm:=h.most;have hc:(ns.map D.int).length<=capS:=by rw[List.length_map,hn];exact dz (by omega)
  refine⟨ns,P6,?_,hn,hx⟩;generalize ns.map D.int=nn at *;simp only[hD] at *;simp[ph,aaz,e6,hc]
 ·rintro j d ys ρ hd ⟨ns,P6,o,rfl,rfl,hn,hx⟩
  obtain⟨r7,P7,e7,r7a,r7b⟩:=j5 P6 7 (by decide) (by decide)
  have hv:∃v:Int,(if r7 - 2 > 0 then r7 - 2 else 0)=v/\0<=v/\v<=4:=⟨_,rfl,by split <;> omega,by split <;> omega⟩
  obtain⟨v,hv,v0,v1⟩:=hv;refine⟨[.val d,.own (some 1) (pen P6),.val (.int 4)],_,true,by simp,rfl,.inr ⟨rfl,.int v,[.val d,.own (some 1) (pen P7),.val (.int 4)],by rw[<-hv];simp[ux,e7],ns++[v],P7,_,rfl,by simp,by simp[hn],fun w hw =>?_⟩⟩
  rcases List.mem_append.mp hw with q | q
  ·exact hx w q
  ·rw[List.mem_singleton] at q;omega
theorem asb(l:List D)(x:D):atI (l++[x]) (-1)=some x:=by
 unfold atI ixN;simp;rw[if_pos (by omega),show(-1+((l.length:Int)+1)).toNat=l.length by omega]
 simp
section
variable{qv:LL9}(h:Hs qv){as:List Int}(ha:Arr qv as){ws:List Int}
include h ha
omit h ha in
theorem avw(s:List Int):compD (ir 0) yr ym (km 0 qv.length) [] [.emp,.own (some 1) ((stn qv as ws s).map D.int)]=some (.ok (((upto qv.length).filter fun x=>decide (0 < (stn qv as ws s).getD x.toNat 0)).map D.int),ad4 .emp (km 0 qv.length)::[.own (some 1) ((stn qv as ws s).map D.int)]):=by
 rw[ah7,aam (p:=fun d=>match d with | .int x=>decide (0 < (stn qv as ws s).getD x.toNat 0) | _=>false) (f:=id)]
 ·simp only[List.filter_map,Function.comp_def,List.map_id,List.nil_append]
 ·intro d hd;obtain⟨k,hk,rfl⟩:=List.mem_map.mp hd;have hk:=ai6 hk;have e:=sr (ns:=stn qv as ws s) hk.1 (by rw[jl];exact hk.2)
  generalize (stn qv as ws s).map D.int=sm at *;simp[yr,e]
 ·intro d hd _;simp[ym]
theorem aka{s:List Int}(hs:InR qv s)(ns:List Int)(hn:ns.length<=1000)(P:Int×Int)(o6 o7:Sl):∃(s' ns':List Int) (P':Int×Int) (b7:Sl),ni [.own (some 0) (pen P),.val (hD qv),.own none ((go qv as s).map D.int),.own none ((stn qv as ws s).map D.int),.own none ((gts qv as s).map D.int),.own none (ns.map D.int),o6,o7] =
  some (.nx,[.own (some 0) (pen P'),.val (hD qv),.own none ((go qv as s').map D.int),.own none ((stn qv as ws s').map D.int),.own none ((gts qv as s').map D.int),.own none (ns'.map D.int),o6,b7])/\InR qv s'/\ns'.length<=ns.length+1:=by
 have c:=avw (qv:=qv) (as:=as) (ws:=ws) s;have hm:=h.most;have hl:=ur qv;have hb:qv.length < 4611686018427387904:=by omega
 have hfl:((upto qv.length).filter fun x=>decide (0 < (stn qv as ws s).getD x.toNat 0)).length<=qv.length:=by
  have:=List.length_filter_le (fun x=>decide (0 < (stn qv as ws s).getD x.toNat 0)) (upto qv.length)
  have u:(upto qv.length).length=qv.length:=by simp[upto]
  omega
 have hfi:∀x∈(upto qv.length).filter fun x=>decide (0 < (stn qv as ws s).getD x.toNat 0),0<=x/\x < (qv.length:Int):=fun x hx=>ai6 (List.mem_filter.mp hx).1
 generalize ((upto qv.length).filter fun x=>decide (0 < (stn qv as ws s).getD x.toNat 0))=fl at *
 have hc:(fl.map D.int).length<=capS:=by rw[List.length_map];exact dz (by omega)
 cases fl with
 | nil =>
  refine⟨s,ns,P,.own none [],?_,hs,by omega⟩
  have z:gEq true (.lst []) (.lst [])=some (.v (.bl false)):=ajj true [] [];rw[List.map_nil] at c hc;generalize (stn qv as ws s).map D.int=sm at *;generalize (go qv as s).map D.int=am at *;generalize (gts qv as s).map D.int=gm at *;generalize ns.map D.int=nl at *;simp only[hD] at *;generalize hDs qv=hh at *;simp[ni,hl,hb,c,z]
 | cons y fr =>
  have z:gEq true (.lst ((y::fr).map D.int)) (.lst [])=some (.v (.bl true)):=ajj true (y::fr) [];have hp:0 < ((y::fr).length:Int):=by simp
  obtain⟨k,P1,e1,k0,k1⟩:=j5 P ((y::fr).length:Int) hp (by omega)
  have hlm:((y::fr).map D.int).length=(y::fr).length:=List.length_map ..
  obtain⟨d,ed,hd⟩:=aqd (l:=(y::fr).map D.int) k0 (by rw[hlm];exact k1)
  obtain⟨x,hx,rfl⟩:=List.mem_map.mp hd;obtain⟨x0,x1⟩:=hfi x hx;have e2:=ag4 (ws:=ws) h ha hs x0 x1;have el:=asb (ns.map D.int) (.int x);have em:(ns++[x]).map D.int=ns.map D.int++[.int x]:=by rw[List.map_append];rfl
  have cap:(ns.map D.int).length < capS:=by rw[List.length_map];unfold capS;omega
  refine⟨s++[x],ns++[x],P1,.own none ((y::fr).map D.int),?_,hs.append fun w hw=>by rw[List.mem_singleton] at hw;rw[hw];exact⟨x0,x1⟩,by rw[List.length_append];simp⟩
  rw[em];rw[<-hlm] at e1
  clear hfi hfl hx hd hp k1
  generalize (y::fr).map D.int=L at *;generalize (stn qv as ws s).map D.int=sm at *;generalize (go qv as s).map D.int=am at *;generalize (gts qv as s).map D.int=gm at *;generalize (stn qv as ws (s++[x])).map D.int=sm2 at *;generalize (go qv as (s++[x])).map D.int=am2 at *;generalize (gts qv as (s++[x])).map D.int=gm2 at *;generalize ns.map D.int=nl at *;simp only[hD] at *;generalize hDs qv=hh at *;simp[ni,hl,hb,c,hc,z,e1,ed,cap,el,e2]
theorem aeu:∀(ks:List D) (s ns:List Int) (P:Int×Int) (o6 o7:Sl),InR qv s->ns.length+ks.length<=1000->∃(s' ns':List Int) (P':Int×Int) (b6 b7:Sl),forD (ir 6) ni ks [.own (some 0) (pen P),.val (hD qv),.own none ((go qv as s).map D.int),.own none ((stn qv as ws s).map D.int),.own none ((gts qv as s).map D.int),.own none (ns.map D.int),o6,o7] =
  some (.nx,[.own (some 0) (pen P'),.val (hD qv),.own none ((go qv as s').map D.int),.own none ((stn qv as ws s').map D.int),.own none ((gts qv as s').map D.int),.own none (ns'.map D.int),b6,b7])/\ns'.length<=ns.length+ks.length
 | [],s,ns,P,o6,o7,hs,hn=>⟨s,ns,P,o6,o7,rfl,by simp⟩
 | k::ks,s,ns,P,o6,o7,hs,hn=>by
  rw[List.length_cons] at hn;obtain⟨s1,n1,P1,b7,e1,hs1,hl1⟩:=aka h ha (ws:=ws) hs ns (by omega) P (.val k) o7
  obtain⟨s2,n2,P2,c6,c7,e2,hl2⟩:=aeu ks s1 n1 P1 (.val k) b7 hs1 (by omega)
  exact⟨s2,n2,P2,c6,c7,by rw[qm];simp[e1,e2],by rw[List.length_cons];omega⟩
theorem akb(hW:Wk qv.length ws)(P:Int×Int):∃(ns:List Int) (P':Int×Int) (a2 a3:Sl),uc [.own (some 0) (pen P),.val (hD qv),.val (.tup (as.map D.int)),.val (.tup (ws.map D.int))]=some (.ok (.fr (ns.map D.int)),[.own (some 0) (pen P'),.val (hD qv),a2,a3])/\ns.length<=14:=by
 obtain⟨k,P1,e1,k0,k1⟩:=j5 P 15 (by decide) (by decide)
 have hkl:(km 0 k.toNat).length=k.toNat:=by simp[km]
 obtain⟨s',ns,P2,b6,b7,e,hl⟩:=aeu h ha (ws:=ws) (km 0 k.toNat) [] [] P1 .emp .emp (fun _ z=>by cases z) (by rw[hkl];simp;omega)
 rw[ah2 hW.len fun w hw'=>(hW.ok w hw').1] at e
 have e:forD (ir 6) ni (km 0 k.toNat) [.own (some 0) (pen P1),.val (hD qv),.own none (as.map D.int),.own none (ws.map D.int),.own none [.int 0,.int 0,.int 0],.own none [],.emp,.emp]=_:=e;have hm:=h.most;have c1:(as.map D.int).length<=capS:=by rw[List.length_map,ha.len];exact dz (by omega)
 have c2:(ws.map D.int).length<=capS:=by rw[List.length_map,hW.len];exact dz (by omega)
 have hb:k.natAbs < 4611686018427387904:=by omega
 refine⟨ns,P2,.own none ((go qv as s').map D.int),.own none ((stn qv as ws s').map D.int),?_,by rw[hkl,List.length_nil] at hl;omega⟩
 generalize (stn qv as ws s').map D.int=sm at *;generalize (go qv as s').map D.int=am at *;generalize (gts qv as s').map D.int=gm at *;generalize as.map D.int=la at *;generalize ws.map D.int=lw at *;generalize ns.map D.int=nl at *;generalize hD qv=hh at *;simp[uc,ac2,noTf,c1,c2,e1,hb,e]
theorem ayi(hW:Wk qv.length ws){l:List D}(hE:∀d∈l,Elt d)(a0 a1 a2 a3 a4 a8 a9:Sl):ajb [a0,a1,a2,a3,a4,.val (hD qv),.val (.tup (as.map D.int)),.val (.tup (ws.map D.int)),a8,a9,.val (.lst l)]=some (.nx,[a0,a1,a2,a3,a4,.val (hD qv),.val (.tup (as.map D.int)),.val (.tup (ws.map D.int)),a8,a9,.val (.lst l)]):=by
 have e:=afk h ha hW hE;generalize as.map D.int=la at *;generalize ws.map D.int=lw at *;generalize hD qv=hh at *;simp[ajb,e]
theorem al7(hW:Wk qv.length ws)(a0 a1 a2 a3 a4 a8 a9:Sl):∀(Ts:List D) (o:Sl),(∀T∈Ts,∃l,T=.lst l/\∀d∈l,Elt d)->∃o',forD (ir 10) ajb Ts [a0,a1,a2,a3,a4,.val (hD qv),.val (.tup (as.map D.int)),.val (.tup (ws.map D.int)),a8,a9,o]=some (.nx,[a0,a1,a2,a3,a4,.val (hD qv),.val (.tup (as.map D.int)),.val (.tup (ws.map D.int)),a8,a9,o'])
 | [],o,_=>⟨o,rfl⟩
 | T::Ts,o,hT=>by
  obtain⟨l,rfl,hl⟩:=hT T (List.mem_cons_self ..);have e:=ayi h ha hW hl a0 a1 a2 a3 a4 a8 a9;obtain⟨o',e2⟩:=al7 hW a0 a1 a2 a3 a4 a8 a9 Ts (.val (.lst l)) fun x hx=>hT x (List.mem_cons_of_mem _ hx)
  exact⟨o',by rw[qm];simp[e,e2]⟩
end
theorem aot(ns:List Int):∀d∈ns.map D.int,Elt d:=fun d hd=>by
 obtain⟨i,_,rfl⟩:=List.mem_map.mp hd;exact .inl rfl
theorem aoc(P:Int×Int){qv:LL9}(h:Hs qv):∃d P1 r P2 k P3,f__law_odd [.own (some 0) (pen P)]=some (.ok (.v d),[.own (some 0) (pen P1)])/\f__law_draw [.own (some 0) (pen P1),.val (.int (qv.length:Int))]=some (.ok (.v (.int r)),[.own (some 0) (pen P2),.val (.int (qv.length:Int))])/\f__law_draw [.own (some 0) (pen P2),.val (.int 6)]=some (.ok (.v (.int k)),[.own (some 0) (pen P3),.val (.int 6)])/\∃x,atI [.int (qv.length:Int),.int (-1),.bl true,.non,d,.int r] k=some x/\Elt x:=by
 obtain⟨d,P1,e1,hd⟩:=auz P;have h1:=h.one;have h2:=h.most;obtain⟨r,P2,e2,_,_⟩:=j5 P1 (qv.length:Int) (by omega) (by omega)
 obtain⟨k,P3,e3,k0,k1⟩:=j5 P2 6 (by decide) (by decide)
 obtain⟨x,ex,hx⟩:=aqd (l:=[.int (qv.length:Int),.int (-1),.bl true,.non,d,.int r]) k0 k1;refine⟨d,P1,r,P2,k,P3,e1,e2,e3,x,ex,?_⟩;simp only[List.mem_cons,List.not_mem_nil,or_false] at hx;rcases hx with rfl | rfl | rfl | rfl | rfl | rfl
 ·exact .inl rfl
 ·exact .inl rfl
 ·exact .inl rfl
 ·exact .inl rfl
 ·exact hd
 ·exact .inl rfl
theorem ayh(S O:D)(n:Int)(a2 a4 a5 a6 a7 a8 a9 a10:Sl):∃b2 b4 b5 b6 b7 b8 b9 b10,l3_law [.val S,.val O,a2,.val (.int n),a4,a5,a6,a7,a8,a9,a10]=some (.nx,[.val S,.val O,b2,.val (.int n),b4,b5,b6,b7,b8,b9,b10]):=by
 obtain⟨P,e0⟩:=an3 n;obtain⟨qv,P1,e1,hk⟩:=akn P 5 4 (by decide) (by decide) (by decide) (by decide)
 have h:Hs qv:=⟨hk.one,by have:=hk.most;omega,fun r hr=>by obtain⟨a,b,c⟩:=hk.room r hr;exact⟨a,by omega,c⟩⟩
 obtain⟨as,P2,e2,ha⟩:=aiv P1 h;obtain⟨ws,P3,e3,hwl,hw0⟩:=agh P2 h;have hW:Wk qv.length ws:=⟨hwl,fun w hw'=>by have:=hw0 w hw';omega⟩
 obtain⟨ns,P4,c1,c2,e4,hn⟩:=akb h ha hW P3;obtain⟨a,P5,e5,a0,a1⟩:=j5 P4 ((ns.length:Int)+1) (by omega) (by omega)
 obtain⟨d,P6,r,P7,k,P8,e6,e7,e8,x,ex,hx⟩:=aoc P5 h;have hE:=aot ns;have hlm:(ns.map D.int).length=ns.length:=List.length_map ..
 have k1:=amy (ns.map D.int) none (some a);have k2:=amy (ns.map D.int) (some a) none;have s1:∀d∈cutD (ns.map D.int) none (some a),Elt d:=fun d hd=>hE d (amx d hd)
 have s2:∀d∈cutD (ns.map D.int) (some a) none,Elt d:=fun d hd=>hE d (amx d hd)
 have hhl:=ur qv;rw[<-hhl] at e7 ex;rw[<-hlm] at e5 hn;generalize ns.map D.int=nl at *;generalize hC1:cutD nl none (some a)=C1 at *;generalize hC2:cutD nl (some a) none=C2 at *;have big:(1000:Nat)<=capS:=by decide
 have q1:C1.length+1<=capS:=by omega
 have q2:C1.length+1+C2.length<=capS:=by omega
 have q2':C1.length+(C2.length+1)<=capS:=by omega
 have q3:C2.length+C1.length<=capS:=by omega
 have q6:(6:Nat)<=capS:=by omega
 obtain⟨o',e9⟩:=al7 h ha hW (.val S) (.val O) (.val (.lst nl)) (.val (.int n)) (.own none (pen P8)) (.val (.int a)) (.val x) [.lst nl,.lst (C1++x::C2),.lst (C2++C1),.lst C1] a10 fun T hT=>by
  simp only[List.mem_cons,List.not_mem_nil,or_false] at hT;rcases hT with rfl | rfl | rfl | rfl
  ·exact⟨_,rfl,hE⟩
  ·refine⟨_,rfl,fun y hy =>?_⟩
   rcases List.mem_append.mp hy with z | z
   ·exact s1 y z
   ·rcases List.mem_cons.mp z with rfl | z
    ·exact hx
    ·exact s2 y z
  ·refine⟨_,rfl,fun y hy =>?_⟩
   rcases List.mem_append.mp hy with z | z
   ·exact s2 y z
   ·exact s1 y z
  ·exact⟨_,rfl,s1⟩
 refine⟨.val (.lst nl),.own none (pen P8),.val (hD qv),.val (.tup (as.map D.int)),.val (.tup (ws.map D.int)),.val (.int a),.val x,o',?_⟩;generalize as.map D.int=la at *;generalize ws.map D.int=lw at *;simp only[hD] at *
 clear hhl
 generalize hDs qv=hh at *;unfold l3_law;refine(seq2 (ρ':=[.val S,.val O,a2,.val (.int n),.own none (pen P),a5,a6,a7,a8,a9,a10]) (by simp[e0])).trans ?_
 refine(seq2 (ρ':=[.val S,.val O,a2,.val (.int n),.own none (pen P1),.val (.tup hh),a6,a7,a8,a9,a10]) (by simp[e1])).trans ?_
 refine(seq2 (ρ':=[.val S,.val O,a2,.val (.int n),.own none (pen P3),.val (.tup hh),.val (.tup la),.val (.tup lw),a8,a9,a10]) (by simp[e2,e3])).trans ?_
 refine(seq2 (ρ':=[.val S,.val O,.own none nl,.val (.int n),.own none (pen P4),.val (.tup hh),.val (.tup la),.val (.tup lw),a8,a9,a10]) (by simp[e4])).trans ?_
 refine(seq2 (ρ':=[.val S,.val O,.own none nl,.val (.int n),.own none (pen P5),.val (.tup hh),.val (.tup la),.val (.tup lw),.val (.int a),a9,a10]) (by simp[e5])).trans ?_
 refine(seq2 (ρ':=[.val S,.val O,.own none nl,.val (.int n),.own none (pen P8),.val (.tup hh),.val (.tup la),.val (.tup lw),.val (.int a),.val x,a10]) (by simp[e6,e7,e8,ex,q6])).trans ?_
 simp[hC1,hC2,q1,q2,q2',q3,e9]
theorem ava(S O:D):∀(ns:List Int) (q a2 a4 a5 a6 a7 a8 a9 a10:Sl),∃ρ,forD (ir 3) l3_law (ns.map D.int) [.val S,.val O,a2,q,a4,a5,a6,a7,a8,a9,a10]=some (.nx,.val S::ρ)
 | [],q,a2,a4,a5,a6,a7,a8,a9,a10=>⟨_,rfl⟩
 | n::r,q,a2,a4,a5,a6,a7,a8,a9,a10=>by
  obtain⟨b2,b4,b5,b6,b7,b8,b9,b10,z⟩:=ayh S O n a2 a4 a5 a6 a7 a8 a9 a10;obtain⟨ρ,z2⟩:=ava S O r (.val (.int n)) b2 b4 b5 b6 b7 b8 b9 b10;exact⟨ρ,by rw[List.map_cons,qm];simp[z,z2]⟩
theorem hs_1:Hs [[0,-2]]:=⟨by simp,by simp,fun r hr=>by rw[List.mem_singleton] at hr;rw[hr];decide⟩
theorem av9{a:Int}(h0:0<=a)(h1:a < 2):Arr [[0,-2]] [a]:=⟨rfl,fun i x r hx hr=>by
 cases i with
 | zero =>
  cases hx;cases hr;exact⟨h0,h1⟩
 | succ i=>cases hx⟩
theorem wk_1{a:Int}(h0:0<=a)(h1:a<=100):Wk 1 [a]:=⟨rfl,fun w hw=>by rw[List.mem_singleton] at hw;omega⟩
theorem avb(S a3 a4 a5 a6 a7 a8 a9 a10:Sl):∀(Ts:List D) (o:Sl),(∀T∈Ts,∃l,T=.lst l/\∀d∈l,Elt d)->∃o',forD (ir 2) ajc Ts [S,.val (.tup [.tup [.int 0,.int (-2)]]),o,a3,a4,a5,a6,a7,a8,a9,a10]=some (.nx,[S,.val (.tup [.tup [.int 0,.int (-2)]]),o',a3,a4,a5,a6,a7,a8,a9,a10])
 | [],o,_=>⟨o,rfl⟩
 | T::Ts,o,hT=>by
  obtain⟨l,rfl,hl⟩:=hT T (List.mem_cons_self ..);have e1:jq [.val (.tup [.tup [.int 0,.int (-2)]]),.val (.tup [.int 0]),.val (.tup [.int 1]),.val (.lst l)]=some (.ok (.v (.bl true)),[.val (.tup [.tup [.int 0,.int (-2)]]),.val (.tup [.int 0]),.val (.tup [.int 1]),.val (.lst l)]):=afk (qv:=[[0,-2]]) hs_1 (as:=[0]) (av9 (by decide) (by decide)) (ws:=[1]) (wk_1 (by decide) (by decide)) hl
  have e2:jq [.val (.tup [.tup [.int 0,.int (-2)]]),.val (.tup [.int 1]),.val (.tup [.int 0]),.val (.lst l)]=some (.ok (.v (.bl true)),[.val (.tup [.tup [.int 0,.int (-2)]]),.val (.tup [.int 1]),.val (.tup [.int 0]),.val (.lst l)]):=afk (qv:=[[0,-2]]) hs_1 (as:=[1]) (av9 (by decide) (by decide)) (ws:=[0]) (wk_1 (by decide) (by decide)) hl
  have z:ajc [S,.val (.tup [.tup [.int 0,.int (-2)]]),.val (.lst l),a3,a4,a5,a6,a7,a8,a9,a10]=some (.nx,[S,.val (.tup [.tup [.int 0,.int (-2)]]),.val (.lst l),a3,a4,a5,a6,a7,a8,a9,a10]):=by simp[ajc,e1,e2]
  obtain⟨o',z2⟩:=avb S a3 a4 a5 a6 a7 a8 a9 a10 Ts (.val (.lst l)) fun x hx=>hT x (List.mem_cons_of_mem _ hx)
  exact⟨o',by rw[qm];simp[z,z2]⟩
theorem aol:aiw amn:=fun ns hn=>by
 obtain⟨n0,e0⟩:=am3 ns 0 (by decide)
 obtain⟨ms,em,hm⟩:=am0 ns (some 1) (some 4);have hc:1+ms.length<=capS:=dz (by omega)
 have c9:(9:Nat)<=capS:=by decide
 have nil:∀d∈([]:List D),Elt d:=fun d hd=>by cases hd
 have con:∀{x:D} {l:List D},okD 28 x=true->(∀d∈l,Elt d)->∀d∈x::l,Elt d:=fun hx hl d hd=>by
  rcases List.mem_cons.mp hd with rfl | hd
  ·exact .inl hx
  ·exact hl d hd
 obtain⟨o1,z⟩:=avb (.val (.kst (ns.map D.int))) .emp .emp .emp .emp .emp .emp .emp .emp [.lst [],.lst [.int 0],.lst [.int 0,.int 0],.lst [.int 0,.int 0,.int 0],.lst [.int 1],.lst [.int (-1)],.lst [.non],.lst [.bl true],.lst [.bl false]] .emp fun T hT=>by
  simp only[List.mem_cons,List.not_mem_nil,or_false] at hT;rcases hT with rfl | rfl | rfl | rfl | rfl | rfl | rfl | rfl | rfl
  ·exact⟨_,rfl,nil⟩
  ·exact⟨_,rfl,con rfl nil⟩
  ·exact⟨_,rfl,con rfl (con rfl nil)⟩
  ·exact⟨_,rfl,con rfl (con rfl (con rfl nil))⟩
  ·exact⟨_,rfl,con rfl nil⟩
  ·exact⟨_,rfl,con rfl nil⟩
  ·exact⟨_,rfl,con rfl nil⟩
  ·exact⟨_,rfl,con rfl nil⟩
  ·exact⟨_,rfl,con rfl nil⟩
 obtain⟨ρ,q⟩:=ava (.kst (ns.map D.int)) (.tup [.tup [.int 0,.int (-2)]]) (n0::ms) .emp o1 .emp .emp .emp .emp .emp .emp .emp;simp only[List.map_cons] at q;simp[amn,avs,z,e0,em,hc,q,c9]
end My
set_option maxHeartbeats 0
namespace My
open PySem L2 Mn Dn
def top(i:Nat):Stmt:=PySem.Challenge.pw_turnarrows_k18_rooms_left_one_by_one.main.body.getD i (.Pass ⟨0,0,0,0⟩)
abbrev acb:Stmt:=top 15
theorem ah5:FnScope ["thing"] ["thing"] (ak acb):=mkSc rfl rfl rfl rfl (by decide +kernel)
abbrev qw:Stmt:=top 16
theorem abp:FnScope ["thing","least","most"] ["thing","least","most"] (ak qw):=mkSc rfl rfl rfl rfl (by decide +kernel)
abbrev qx:Stmt:=top 17
theorem abq:FnScope ["thing","least","most"] ["thing","least","most"] (ak qx):=mkSc rfl rfl rfl rfl (by decide +kernel)
abbrev ud:Stmt:=top 20
theorem aca:FnScope ["house","thing"] ["house","thing"] (ak ud):=mkSc rfl rfl rfl rfl (by decide +kernel)
abbrev aa3:Stmt:=top 22
theorem agl:FnScope ["house","thing"] ["house","thing"] (ak aa3):=mkSc rfl rfl rfl rfl (by decide +kernel)
abbrev j9:Stmt:=top 23
theorem uh:FnScope ["house","thing"] ["house","thing"] (ak j9):=mkSc rfl rfl rfl rfl (by decide +kernel)
abbrev zj:Stmt:=top 26
theorem afg:FnScope ["house","thing","most"] ["house","thing","most"] (ak zj):=mkSc rfl rfl rfl rfl (by decide +kernel)
abbrev jx:Stmt:=top 27
theorem ue:FnScope ["house","thing"] ["house","thing"] (ak jx):=mkSc rfl rfl rfl rfl (by decide +kernel)
abbrev adu:Stmt:=top 28
theorem aao:FnScope ["doors_many","arrow","leavings","uses","door","behind"] ["doors_many","arrow","leavings"] (ak adu):=mkSc rfl rfl rfl rfl (by decide +kernel)
abbrev my:Stmt:=top 30
theorem uy:FnScope ["house","arrows","walkers"] ["house","arrows","walkers"] (ak my):=mkSc rfl rfl rfl rfl (by decide +kernel)
abbrev abt:Stmt:=top 31
theorem j6:FnScope ["house","arrows","walkers","rooms","crowd","at","room","crowd.turning","crowd.standing","crowd.gone","crowd.left"] ["house","arrows","walkers","rooms"] (ak abt):=mkSc rfl rfl rfl rfl (by decide +kernel)
abbrev aa7:Stmt:=top 33
theorem agm:FnScope ["script","k"] ["script","k"] (ak aa7):=mkSc rfl rfl rfl rfl (by decide +kernel)
abbrev acd:Stmt:=top 34
theorem adq:FnScope ["cell","left"] ["cell"] (ak acd):=mkSc rfl rfl rfl rfl (by decide +kernel)
abbrev aa6:Stmt:=top 35
theorem su:FnScope ["pen","many","left","found","stir"] ["pen","many"] (ak aa6):=mkSc rfl rfl rfl rfl (by decide +kernel)
abbrev uz:Stmt:=top 36
theorem abr:FnScope ["thing"] ["thing"] (ak uz):=mkSc rfl rfl rfl rfl (by decide +kernel)
abbrev ace:Stmt:=top 37
theorem adt:FnScope ["pen","some"] ["pen"] (ak ace):=mkSc rfl rfl rfl rfl (by decide +kernel)
abbrev zr:Stmt:=top 38
theorem mq:FnScope ["pen","most","doors","many","gates","house","room","wide"] ["pen","most","doors"] (ak zr):=mkSc rfl rfl rfl rfl (by decide +kernel)
abbrev zu:Stmt:=top 39
theorem afh:FnScope ["pen","house"] ["pen","house"] (ak zu):=mkSc rfl rfl rfl rfl (by decide +kernel)
abbrev xq:Stmt:=top 40
theorem ji:FnScope ["e","marks","words"] ["e"] (ak xq):=mkSc rfl rfl rfl rfl (by decide +kernel)
abbrev vh:Stmt:=top 41
theorem adp:FnScope ["pen","house","most"] ["pen","house","most"] (ak vh):=mkSc rfl rfl rfl rfl (by decide +kernel)
abbrev aa5:Stmt:=top 42
theorem acv:FnScope ["house","some","there","gates","room","door"] ["house","some","there","gates","room"] (ak aa5):=mkSc rfl rfl rfl rfl (by decide +kernel)
abbrev xr:Stmt:=top 43
theorem aen:FnScope ["thing","many"] ["thing","many"] (ak xr):=mkSc rfl rfl rfl rfl (by decide +kernel)
abbrev acf:Stmt:=top 44
theorem xn:FnScope ["house","some","there","rooms","gates","at","room"] ["house","some","there","rooms"] (ak acf):=mkSc rfl rfl rfl rfl (by decide +kernel)
abbrev aa4:Stmt:=top 45
theorem zg:FnScope ["house","some","there","rooms","found","e"] ["house","some","there","rooms"] (ak aa4):=mkSc rfl rfl rfl rfl (by decide +kernel)
abbrev zm:Stmt:=top 46
theorem qi:FnScope ["pen","house","some","there","gates","rooms","turn","full"] ["pen","house","some","there"] (ak zm):=mkSc rfl rfl rfl rfl (by decide +kernel)
abbrev zq:Stmt:=top 47
theorem xm:FnScope ["house","some","there","rooms","handed","turn"] ["house","some","there","rooms"] (ak zq):=mkSc rfl rfl rfl rfl (by decide +kernel)
abbrev afj:Stmt:=top 48
theorem zc:FnScope ["script","one","rooms","cell","pen","house","some","there","at","odd","row"] ["script"] (ak afj):=mkSc rfl rfl rfl rfl (by decide +kernel)
abbrev qe:Stmt:=ap9 (top 29) 0
theorem afi:FnScope ["self","house","arrows","walkers"] ["self","house","arrows","walkers"] (ak qe):=mkSc rfl rfl rfl rfl (by decide +kernel)
abbrev jj:Stmt:=ap9 (top 29) 1
theorem jm:FnScope ["self","room","many","self.turning","self.standing","self.gone","self.left","doors","uses","door","times"] ["self","room","many"] (ak jj):=mkSc rfl rfl rfl rfl (by decide +kernel)
theorem lnS{k:Nat}{us:List Value}(h:us.length=k+1):∃a r,us=a::r/\r.length=k:=by
 cases us with
 | nil=>cases h
 | cons a r=>exact⟨a,r,rfl,Nat.succ.inj h⟩
theorem ln1{us:List Value}(h:us.length=1):∃a0,us=[a0]:=by
 obtain⟨a,r,rfl,h'⟩:=lnS h;cases List.eq_nil_of_length_eq_zero h';exact⟨a,rfl⟩
theorem ln2{us:List Value}(h:us.length=2):∃a0 a1,us=[a0,a1]:=by
 obtain⟨a,r,rfl,h'⟩:=lnS h;obtain⟨_,rfl⟩:=ln1 h';exact⟨_,_,rfl⟩
theorem ln3{us:List Value}(h:us.length=3):∃a0 a1 a2,us=[a0,a1,a2]:=by
 obtain⟨a,r,rfl,h'⟩:=lnS h;obtain⟨_,_,rfl⟩:=ln2 h';exact⟨_,_,_,rfl⟩
theorem ln4{us:List Value}(h:us.length=4):∃a0 a1 a2 a3,us=[a0,a1,a2,a3]:=by
 obtain⟨a,r,rfl,h'⟩:=lnS h;obtain⟨_,_,_,rfl⟩:=ln3 h';exact⟨_,_,_,_,rfl⟩
theorem ln5{us:List Value}(h:us.length=5):∃a0 a1 a2 a3 a4,us=[a0,a1,a2,a3,a4]:=by
 obtain⟨a,r,rfl,h'⟩:=lnS h;obtain⟨_,_,_,_,rfl⟩:=ln4 h';exact⟨_,_,_,_,_,rfl⟩
abbrev vq:Stmt:=as5 (top 11)
theorem aj8:FnScope ["self","at"] ["self","at"] (ak vq):=mkSc rfl rfl rfl rfl (by decide +kernel)
structure Txt (K:Fg9) (mg:Str->Option Value):Prop where
 c_GATES_MANY:∃t,mg "GATES_MANY" = some (.int 3 t)
 c_MOST_WALKERS:∃t,mg "MOST_WALKERS" = some (.int 100 t)
 z_ValueError:mg "ValueError" = none
 z_all:mg "all" = none
 z_bool:mg "bool" = none
 z_divmod:mg "divmod" = none
 z_enumerate:mg "enumerate" = none
 z_int:mg "int" = none
 z_isinstance:mg "isinstance" = none
 z_len:mg "len" = none
 z_list:mg "list" = none
 z_max:mg "max" = none
 z_range:mg "range" = none
 z_tuple:mg "tuple" = none
 z_zip:mg "zip" = none
 f_Crowd_house:FldT K "Crowd" "house"
 f_Crowd_turning:FldT K "Crowd" "turning"
 f_Crowd_standing:FldT K "Crowd" "standing"
 f_Crowd_gone:FldT K "Crowd" "gone"
 f_Crowd_left:FldT K "Crowd" "left"
 sub:afb K NS=true
 cat:CatT K mg
 k_ArrowError:ClsT K mg "ArrowError"
 k_NoArrows:ClsT K mg "NoArrows"
 k_NoRoom:ClsT K mg "NoRoom"
 k_NoWalkers:ClsT K mg "NoWalkers"
 k_NotShut:ClsT K mg "NotShut"
 k_NeverBack:ClsT K mg "NeverBack"
 k_NoTour:ClsT K mg "NoTour"
 k_NoRow:ClsT K mg "NoRow"
 k_NoHouse:ClsT K mg "NoHouse"
 k_NotOpen:ClsT K mg "NotOpen"
 k_Nobody:ClsT K mg "Nobody"
 k_NoText:ClsT K mg "NoText"
 k_TooGreat:ClsT K mg "TooGreat"
 r_ArrowError:RaiT K mg "ArrowError"
 r_NoArrows:RaiT K mg "NoArrows"
 r_NoRoom:RaiT K mg "NoRoom"
 r_NoWalkers:RaiT K mg "NoWalkers"
 r_NotShut:RaiT K mg "NotShut"
 r_NeverBack:RaiT K mg "NeverBack"
 r_NoTour:RaiT K mg "NoTour"
 r_NoRow:RaiT K mg "NoRow"
 i_Nobody:IniT K mg "Nobody" "at" "Nobody.__init__" vq
 n_at:asr K ["NoHouse","Nobody","NoText"] "at" = true
section
variable(P:Program)(w:World)(K:Fg9)(mg:Str->Option Value)(base:Heap)
abbrev Dd0:Prop:=Dfn P w K mg base "is_whole" ["thing"] 1 (spOf K 1 wz)
abbrev Dd1:Prop:=Dfn P w K mg base "is_whole_within" ["thing","least","most"] 2 (spOf K 3 jb)
abbrev Dd2:Prop:=Dfn P w K mg base "is_tuple_within" ["thing","least","most"] 1 (spOf K 3 gj)
abbrev Dd4:Prop:=Dfn P w K mg base "is_arrows" ["house","thing"] 3 (spOf K 2 uv)
abbrev Dd6:Prop:=Dfn P w K mg base "is_walkers" ["house","thing","most"] 3 (spOf K 3 tu)
abbrev Dd5:Prop:=Dfn P w K mg base "refuse_no_arrows" ["house","thing"] 4 (spOf K 2 gq)
abbrev Dd7:Prop:=Dfn P w K mg base "refuse_no_walkers" ["house","thing"] 4 (spOf K 2 f9)
abbrev Dx5:Prop:=DfnX P w K mg base "refuse_no_arrows" ["house","thing"] 4 (spX K 2 gq)
abbrev Dx7:Prop:=DfnX P w K mg base "refuse_no_walkers" ["house","thing"] 4 (spX K 2 f9)
abbrev Dd8:Prop:=Dfn P w K mg base "uses_of" ["doors_many","arrow","leavings"] 1 (spOf K 3 aag)
abbrev Dd3:Prop:=Dfn P w K mg base "is_room_number" ["house","thing"] 3 (spOf K 2 j4)
abbrev Dd9:Prop:=Dfn P w K mg base "refuse_no_crowd" ["house","arrows","walkers"] 5 (spOf K 3 gf)
abbrev Dx9:Prop:=DfnX P w K mg base "refuse_no_crowd" ["house","arrows","walkers"] 5 (spX K 3 gf)
abbrev Dd13:Prop:=Dfn P w K mg base "_law_draw" ["pen","many"] 1 (spOf K 2 f__law_draw)
abbrev Dd14:Prop:=Dfn P w K mg base "_law_whole" ["thing"] 1 (spOf K 1 jo)
abbrev Dd20:Prop:=Dfn P w K mg base "_law_left" ["house","some","there","gates","room"] 1 (spOf K 5 pq)
abbrev Dd10:Prop:=Dfn P w K mg base "left_by" ["house","arrows","walkers","rooms"] 6 (spOf K 4 sy)
abbrev Dd21:Prop:=Dfn P w K mg base "_law_counts" ["thing","many"] 2 (spOf K 2 j0)
abbrev Dx10:Prop:=DfnX P w K mg base "left_by" ["house","arrows","walkers","rooms"] 6 (spX K 4 sy)
abbrev Du18:Prop:=DfnU P w K mg base "_law_kind" ["e"] 1 (spOf K 1 uw)
abbrev Du14:Prop:=DfnU P w K mg base "_law_whole" ["thing"] 1 (spOf K 1 jo)
abbrev Dd22:Prop:=Dfn P w K mg base "_law_due" ["house","some","there","rooms"] 2 (spOf K 4 f__law_due)
abbrev Dd23:Prop:=Dfn P w K mg base "_law_told" ["house","some","there","rooms"] 7 (spOf K 4 qz)
abbrev Dd25:Prop:=Dfn P w K mg base "_law_right" ["house","some","there","rooms"] 8 (spOf K 4 jq)
abbrev Dd11:Prop:=Dfn P w K mg base "_law_cell" ["script","k"] 1 (spOf K 2 f__law_cell)
abbrev Dd12:Prop:=Dfn P w K mg base "_law_pen" ["cell"] 1 (spOf K 1 f__law_pen)
abbrev Dd16:Prop:=Dfn P w K mg base "_law_house" ["pen","most","doors"] 2 (spOf K 3 f__law_house)
abbrev Dd17:Prop:=Dfn P w K mg base "_law_drawn" ["pen","house"] 2 (spOf K 2 f__law_drawn)
abbrev Dd19:Prop:=Dfn P w K mg base "_law_walkers" ["pen","house","most"] 2 (spOf K 3 ph)
abbrev Dd24:Prop:=Dfn P w K mg base "_law_rooms" ["pen","house","some","there"] 2 (spOf K 4 uc)
abbrev Dd15:Prop:=Dfn P w K mg base "_law_odd" ["pen"] 2 (spOf K 1 f__law_odd)
end
section
variable{P:Program}{w:World}{K:Fg9}{mg:Str->Option Value}{base:Heap}{f:Addr}{fd:FuncData}
theorem aic(F:Fun K "is_whole" "is_whole" acb f fd)(T:Txt K mg):FnOk P w K mg base CX0 1 f fd ["thing"] (spOf K 1 wz) :=
 ju F ah5 rfl rfl fun cdv A outer s H E hr =>
  (bh (gk (EV.toR (ae6 (ab4 (t:=.int) (aeo (by rfl) T.z_int ajw) (by rfl) T.z_isinstance ao (cj (pv 0))) (ae4 (amo (ab4 (t:=.bool) (aeo (by rfl) T.z_bool aiq) (by rfl) T.z_isinstance ao (cj (pv 0)))))))))
theorem abx(F:Fun K "is_whole_within" "is_whole_within" qw f fd)(T:Txt K mg)(d0:Dd0 P w K mg base):FnOk P w K mg base CX0 2 f fd ["thing","least","most"] (spOf K 3 jb) :=
 ju F abp rfl rfl fun cdv A outer s H E hr =>
  (bh (gk (EV.toR (ae6 (ER.toD (jd d0 (hr.mono (by decide)) (by rfl) (eg_n (pv 0) cu))) (ae4 (ajn alu alu (az (pv 1)) (az (pv 0)) (az (pv 2))))))))
theorem aby(F:Fun K "is_tuple_within" "is_tuple_within" qx f fd)(T:Txt K mg):FnOk P w K mg base CX0 1 f fd ["thing","least","most"] (spOf K 3 gj) :=
 ju F abq rfl rfl fun cdv A outer s H E hr =>
  (bh (gk (EV.toR (ae6 (ab4 (t:=.tuple) (aeo (by rfl) T.z_tuple nj) (by rfl) T.z_isinstance ao (cj (pv 0))) (ae4 (ajn alu alu (az (pv 1)) (ER.toD (dj lu (by rfl) T.z_len mj (ea_n (pv 0) dq))) (az (pv 2))))))))
theorem acg(F:Fun K "is_room_number" "is_room_number" ud f fd)(T:Txt K mg)(d1:Dd1 P w K mg base):FnOk P w K mg base CX0 3 f fd ["house","thing"] (spOf K 2 j4) :=
 ju F aca rfl rfl fun cdv A outer s H E hr =>
  (bh (gk (jd d1 (hr.mono (by decide)) (by rfl) (eg_v (az (pv 1)) (eg_v aq (eg_v (ER.toD (cz ql (e2_v (ER.toD (dj lu (by rfl) T.z_len mj (ea_n (pv 0) dq))) (EV.toB aq)))) cu))))))
theorem agp(F:Fun K "is_arrows" "is_arrows" aa3 f fd)(T:Txt K mg)(d2:Dd2 P w K mg base)(d1:Dd1 P w K mg base):FnOk P w K mg base CX0 3 f fd ["house","thing"] (spOf K 2 uv) :=
 ju F agl rfl rfl fun cdv A outer s H E hr =>
  (au (ug (kj (lr (ER.toD (jd d2 (hr.mono (by decide)) (by rfl) (eg_n (pv 1) (eg_v (ER.toD (dj lu (by rfl) T.z_len mj (ea_n (pv 0) dq))) (eg_v (ER.toD (dj lu (by rfl) T.z_len mj (ea_n (pv 0) dq))) cu))))))) (bh (gk (EV.toR aaw))) jr) (bh (gk (dj (am5 rfl) (by rfl) T.z_all anb (ea_v (ER.toD (aco [] ["arrow","doors"] [none,none] rfl (ama (by rfl) T.z_zip (aj (az (pv 1)) (aj (az (pv 0)) bj))) (fun _ _ _=>(ad8 rfl (kh (iu (i:=0) (show(["arrow","doors"]:List Str).Nodup by decide +kernel) rfl (Or.inl rfl)) (kh (iu (i:=1) (show(["arrow","doors"]:List Str).Nodup by decide +kernel) rfl (Or.inl rfl)) aba)))) (fun _ _ _=>acq) (fun _ _ _=>(ER.toD (jd d1 (hr.mono (by decide)) (by rfl) (eg_n (pv 0) (eg_v aq (eg_v (ER.toD (cz ql (e2_v (ER.toD (dj lu (by rfl) T.z_len mj (ea_n (pv 1) dq))) (EV.toB aq)))) cu)))))))) dq)))))
theorem aa9(F:Fun K "refuse_no_arrows" "refuse_no_arrows" j9 f fd)(T:Txt K mg)(d4:Dd4 P w K mg base):FnOk P w K mg base CX0 4 f fd ["house","thing"] (spOf K 2 gq) :=
 ju F uh rfl rfl fun cdv A outer s H E hr =>
  (bh (ug (ET.s (kj (lr (ER.toD (jd d4 (hr.mono (by decide)) (by rfl) (eg_v (az (pv 0)) (eg_v (az (pv 1)) cu))))))) (bh aiy) jr))
theorem aau(F:Fun K "refuse_no_arrows" "refuse_no_arrows" j9 f fd)(T:Txt K mg)(d4:Dd4 P w K mg base):FnOk P w K mg base (CX1 P w) 4 f fd ["house","thing"] (spX K 2 gq) :=
 fn_x F uh rfl rfl fun cdv A outer s H E hr =>
  (xj (aqg (ET.s (kj (lr (ER.toD (jd d4 (hr.mono (by decide)) (by rfl) (eg_v (az (pv 0)) (eg_v (az (pv 1)) cu))))))) nu (xj (agg rfl rfl (by rfl) T.r_NoArrows)) ahx))
theorem afr(F:Fun K "is_walkers" "is_walkers" zj f fd)(T:Txt K mg)(d2:Dd2 P w K mg base)(d1:Dd1 P w K mg base):FnOk P w K mg base CX0 3 f fd ["house","thing","most"] (spOf K 3 tu) :=
 ju F afg rfl rfl fun cdv A outer s H E hr =>
  (au (ug (kj (lr (ER.toD (jd d2 (hr.mono (by decide)) (by rfl) (eg_n (pv 1) (eg_v (ER.toD (dj lu (by rfl) T.z_len mj (ea_n (pv 0) dq))) (eg_v (ER.toD (dj lu (by rfl) T.z_len mj (ea_n (pv 0) dq))) cu))))))) (bh (gk (EV.toR aaw))) jr) (bh (gk (dj (am5 rfl) (by rfl) T.z_all anb (ea_v (ER.toD (aco ["most"] ["many","most"] [none,some 2] rfl (ad6 (az (pv 1))) (fun _ _ _=>(iu (i:=0) (show(["many","most"]:List Str).Nodup by decide +kernel) rfl (Or.inl rfl))) (fun _ _ _=>acq) (fun _ _ _=>(ER.toD (jd d1 (hr.mono (by decide)) (by rfl) (eg_n (pv 0) (eg_v aq (eg_n (pv 1) cu)))))))) dq)))))
theorem aav(F:Fun K "refuse_no_walkers" "refuse_no_walkers" jx f fd)(T:Txt K mg)(d6:Dd6 P w K mg base):FnOk P w K mg base CX0 4 f fd ["house","thing"] (spOf K 2 f9) :=
 ju F ue rfl rfl fun cdv A outer s H E hr =>
  (bh (ug (ET.s (kj (lr (ER.toD (jd d6 (hr.mono (by decide)) (by rfl) (eg_n (pv 0) (eg_v (az (pv 1)) (eg_v (ev_c (arh (by rfl) T.c_MOST_WALKERS) fun _=>.int _) cu)))))))) (bh aiy) jr))
theorem aad(F:Fun K "refuse_no_walkers" "refuse_no_walkers" jx f fd)(T:Txt K mg)(d6:Dd6 P w K mg base):FnOk P w K mg base (CX1 P w) 4 f fd ["house","thing"] (spX K 2 f9) :=
 fn_x F ue rfl rfl fun cdv A outer s H E hr =>
  (xj (aqg (ET.s (kj (lr (ER.toD (jd d6 (hr.mono (by decide)) (by rfl) (eg_n (pv 0) (eg_v (az (pv 1)) (eg_v (ev_c (arh (by rfl) T.c_MOST_WALKERS) fun _=>.int _) cu)))))))) nu (xj (agg rfl rfl (by rfl) T.r_NoWalkers)) ahx))
theorem akf(F:Fun K "uses_of" "uses_of" adu f fd)(T:Txt K mg):FnOk P w K mg base CX0 1 f fd ["doors_many","arrow","leavings"] (spOf K 3 aag) :=
 ju F aao rfl rfl fun cdv A outer s H E hr =>
  (au (jk (i:=3) aao.nd rfl (Or.inl rfl) (gw bj)) (au (zb PassesOwn.never rfl (wg (by rfl) T.z_range (aj (az (pv 0)) bj)) (iu (i:=4) aao.nd rfl (Or.inl rfl)) (au (jk (i:=5) aao.nd rfl (Or.inl rfl) (cz aac (e2_v (ER.toD (cz ql (e2_n (pv 4) (cj (pv 1))))) (cj (pv 0))))) (bh (qu (EV.toR (amq ach PySem.F.slot_list_append PySem.F.type_list_append ab0 (pv 3) (aj (ER.toD (cz als (e2_v (ER.toD (cz ql (e2_v (ER.toD (cz ql (e2_v (ER.toD (cz jf (e2_n (pv 2) (cj (pv 0))))) (EV.toB aq)))) (cj (pv 5))))) (cj (pv 0))))) bj))))))) (bh (gk (aio (pv 3))))))
theorem abw(F:Fun K "refuse_no_crowd" "refuse_no_crowd" my f fd)(T:Txt K mg)(d5:Dd5 P w K mg base)(d7:Dd7 P w K mg base)(x5:Dx5 P w K mg base)(x7:Dx7 P w K mg base):FnOk P w K mg base CX0 5 f fd ["house","arrows","walkers"] (spOf K 3 gf) :=
 ju F uy rfl rfl fun cdv A outer s H E hr =>
  (au (qu (jd d5 (hr.mono (by decide)) (by rfl) (eg_v (EV.s (az (pv 0))) (eg_v (EV.s (az (pv 1))) cu)))) (bh (qu (jd d7 (hr.mono (by decide)) (by rfl) (eg_n (pv 0) (eg_v (EV.s (az (pv 2))) cu))))))
theorem aa8(F:Fun K "refuse_no_crowd" "refuse_no_crowd" my f fd)(T:Txt K mg)(d5:Dd5 P w K mg base)(d7:Dd7 P w K mg base)(x5:Dx5 P w K mg base)(x7:Dx7 P w K mg base):FnOk P w K mg base (CX1 P w) 5 f fd ["house","arrows","walkers"] (spX K 3 gf) :=
 fn_x F uy rfl rfl fun cdv A outer s H E hr =>
  (ac9 (qu (jd d5 (hr.mono (by decide)) (by rfl) (eg_v (EV.s (az (pv 0))) (eg_v (EV.s (az (pv 1))) cu)))) (ahy (anm x5 (hr.mono (by decide)) (by rfl) (eg_v (EV.s (az (pv 0))) (eg_v (EV.s (az (pv 1))) cu)) (xa_v (js:=[]) (EV.s (az (pv 0))) (XE.no nu) (xa_v (js:=[]) (EV.s (az (pv 1))) (XE.no nu) aix)))) (xj (ahy (anm x7 (hr.mono (by decide)) (by rfl) (eg_n (pv 0) (eg_v (EV.s (az (pv 2))) cu)) (xa_n (pv 0) (xa_v (js:=[]) (EV.s (az (pv 2))) (XE.no nu) aix))))))
theorem abz(F:Fun K "let_leave" "Crowd.let_leave" jj f fd)(T:Txt K mg)(d8:Dd8 P w K mg base):FnOk P w K mg base CX0 2 f fd ["self","room","many"] (spBx K 3 4 dh) :=
 ayw F jm rfl rfl (by decide) (by decide +kernel) fun cdv A outer s H E hr =>
  (au (jk (i:=7) jm.nd rfl (Or.inl rfl) (oh (e2_v (ay3 T.f_Crowd_house (pv 0)) (cj (pv 1))) (fun _ _=>by rfl))) (au (jk (i:=8) jm.nd rfl (Or.inl rfl) (jd d8 (hr.mono (by decide)) (by rfl) (eg_v (ER.toD (dj lu (by rfl) T.z_len mj (ea_n (pv 7) dq))) (eg_v (ER.toD (oh (e2_f T.f_Crowd_turning (pv 0) (cj (pv 1))) (fun _ _=>by rfl))) (eg_n (pv 2) cu))))) (au (aqv T.f_Crowd_turning (ER.toD (cz aac (e2_v (ER.toD (cz jf (e2_v (ER.toD (oh (e2_f T.f_Crowd_turning (pv 0) (cj (pv 1))) (fun _ _=>by rfl))) (cj (pv 2))))) (EV.toB (ER.toD (dj lu (by rfl) T.z_len mj (ea_n (pv 7) dq))))))) (pv 0) (az (pv 1))) (au (aan T.f_Crowd_left (pv 0) (az (pv 1)) (az (pv 2)) amc) (au (aan T.f_Crowd_standing (pv 0) (az (pv 1)) (az (pv 2)) avo) (bh (zb PassesOwn.never rfl (ama (by rfl) T.z_zip (aj (az (pv 7)) (aj (az (pv 8)) bj))) (ad8 rfl (kh (iu (i:=9) jm.nd rfl (Or.inl rfl)) (kh (iu (i:=10) jm.nd rfl (Or.inl rfl)) aba))) (bh (ug (qt ai3 (e2_n (pv 9) (EV.toB aq)) (ou _)) (bh (aan T.f_Crowd_standing (pv 0) (az (pv 9)) (az (pv 10)) amc)) (bh (aan T.f_Crowd_gone (pv 0) (ER.toD (cz ql (e2_v (aed (az (pv 9))) (EV.toB aq)))) (az (pv 10)) amc)))))))))))
theorem afx{C:Addr}(F:Fun K "__init__" "Crowd.__init__" qe f fd)(T:Txt K mg)(hC:nsIn K mainGlobals "Crowd" = some (some (.ref C))):FnOk P w K mg base CX0 1 f fd ["self","house","arrows","walkers"] (afd K 4 4 vo C) :=
 avy F afi rfl rfl (by decide) (by decide) fun cdv A outer s H E hr =>
  (ado (T.f_Crowd_house C hC).1 (T.f_Crowd_house C hC).2 (EV.toR (az (pv 1))) (pv 0) (ado (T.f_Crowd_turning C hC).1 (T.f_Crowd_turning C hC).2 (ik abk (by rfl) T.z_list abl (ea_n (pv 2) dq)) (pv 0) (ado (T.f_Crowd_standing C hC).1 (T.f_Crowd_standing C hC).2 (ik abk (by rfl) T.z_list abl (ea_n (pv 3) dq)) (pv 0) (ado (T.f_Crowd_gone C hC).1 (T.f_Crowd_gone C hC).2 (cz adx (e2_v (ER.toD (gw (aj aq bj))) (EV.toB (ev_c (arh (by rfl) T.c_GATES_MANY) fun _=>.int _)))) (pv 0) (ado (T.f_Crowd_left C hC).1 (T.f_Crowd_left C hC).2 (cz adx (e2_v (ER.toD (gw (aj aq bj))) (EV.toB (ER.toD (dj lu (by rfl) T.z_len mj (ea_n (pv 1) dq)))))) (pv 0) atr)))))
theorem akg(F:Fun K "left_by" "left_by" abt f fd)(T:Txt K mg)(d3:Dd3 P w K mg base)(d9:Dd9 P w K mg base)(x9:Dx9 P w K mg base)(m_Crowd_let_leave:DfnM P w K mg base "Crowd" "let_leave" ["self","room","many"] 2 (spBx K 3 4 dh))(n_Crowd:DfnI P w K mg base "Crowd" ["self","house","arrows","walkers"] 1 (afd K 4 4 vo)):FnOk P w K mg base CX0 6 f fd ["house","arrows","walkers","rooms"] (spOf K 4 sy) :=
 ju F j6 rfl rfl fun cdv A outer s H E hr =>
  (au (qu (jd d9 (hr.mono (by decide)) (by rfl) (eg_v (EV.s (az (pv 0))) (eg_v (EV.s (az (pv 1))) (eg_v (EV.s (az (pv 2))) cu))))) (anp (i:=4) (gs:=[7,8,9,10]) n_Crowd (hr.mono (by decide)) (by rfl) j6.nd rfl (Or.inl rfl) (EG.s (eg_n (pv 0) (eg_n (pv 1) (eg_n (pv 2) cu)))) (au (zb PassesOwn.never rfl (IT.s (af3 (by rfl) T.z_enumerate (aj (az (pv 3)) bj))) (ad8 rfl (kh (iu (i:=5) j6.nd rfl (Or.inl rfl)) (kh (iu (i:=6) j6.nd rfl (Or.inl rfl)) aba))) (au (ug (ET.s (EW.pt (abh (kj (lr (ER.toD (jd d3 (hr.mono (by decide)) (by rfl) (eg_n (pv 0) (eg_v (az (pv 6)) cu)))))) (w6 (qt (ady hr.units) (e2_v (ER.toD (oh (e2_f T.f_Crowd_standing (pv 4) (cj (pv 6))) (fun _ _=>by rfl))) (EV.toB aq)) (ou _)))))) (bh abo) jr) (bh (SV.s (qu (aip m_Crowd_let_leave (hr.mono (by decide)) (pv 4) (eg_n (pv 6) (eg_v aq cu)))))))) (bh (SV.s (gk (EV.toR (lq (aj (ER.toD (ik rz (by rfl) T.z_tuple nj (ea_f T.f_Crowd_turning (pv 4) dq))) (aj (ER.toD (ik rz (by rfl) T.z_tuple nj (ea_f T.f_Crowd_standing (pv 4) dq))) (aj (ER.toD (ik rz (by rfl) T.z_tuple nj (ea_f T.f_Crowd_gone (pv 4) dq))) bj))))))))) (avr (by rfl))))
theorem aib(F:Fun K "left_by" "left_by" abt f fd)(T:Txt K mg)(d3:Dd3 P w K mg base)(d9:Dd9 P w K mg base)(x9:Dx9 P w K mg base)(m_Crowd_let_leave:DfnM P w K mg base "Crowd" "let_leave" ["self","room","many"] 2 (spBx K 3 4 dh))(n_Crowd:DfnI P w K mg base "Crowd" ["self","house","arrows","walkers"] 1 (afd K 4 4 vo)):FnOk P w K mg base (CX1 P w) 6 f fd ["house","arrows","walkers","rooms"] (spX K 4 sy) :=
 fn_x F j6 rfl rfl fun cdv A outer s H E hr =>
  (ac9 (qu (jd d9 (hr.mono (by decide)) (by rfl) (eg_v (EV.s (az (pv 0))) (eg_v (EV.s (az (pv 1))) (eg_v (EV.s (az (pv 2))) cu))))) (ahy (anm x9 (hr.mono (by decide)) (by rfl) (eg_v (EV.s (az (pv 0))) (eg_v (EV.s (az (pv 1))) (eg_v (EV.s (az (pv 2))) cu))) (xa_v (js:=[]) (EV.s (az (pv 0))) (XE.no nu) (xa_v (js:=[]) (EV.s (az (pv 1))) (XE.no nu) (xa_v (js:=[]) (EV.s (az (pv 2))) (XE.no nu) aix))))) (aqf (i:=4) (gs:=[7,8,9,10]) n_Crowd (hr.mono (by decide)) (by rfl) j6.nd rfl (Or.inl rfl) (EG.s (eg_n (pv 0) (eg_n (pv 1) (eg_n (pv 2) cu)))) nu (ac9 (zb PassesOwn.never rfl (IT.s (af3 (by rfl) T.z_enumerate (aj (az (pv 3)) bj))) (ad8 rfl (kh (iu (i:=5) j6.nd rfl (Or.inl rfl)) (kh (iu (i:=6) j6.nd rfl (Or.inl rfl)) aba))) (au (ug (ET.s (EW.pt (abh (kj (lr (ER.toD (jd d3 (hr.mono (by decide)) (by rfl) (eg_n (pv 0) (eg_v (az (pv 6)) cu)))))) (w6 (qt (ady hr.units) (e2_v (ER.toD (oh (e2_f T.f_Crowd_standing (pv 4) (cj (pv 6))) (fun _ _=>by rfl))) (EV.toB aq)) (ou _)))))) (bh abo) jr) (bh (SV.s (qu (aip m_Crowd_let_leave (hr.mono (by decide)) (pv 4) (eg_n (pv 6) (eg_v aq cu)))))))) (atg rfl rfl rfl (IT.s (af3 (by rfl) T.z_enumerate (aj (az (pv 3)) bj))) nu (ad8 rfl (kh (iu (i:=5) j6.nd rfl (Or.inl rfl)) (kh (iu (i:=6) j6.nd rfl (Or.inl rfl)) aba))) (au (ug (ET.s (EW.pt (abh (kj (lr (ER.toD (jd d3 (hr.mono (by decide)) (by rfl) (eg_n (pv 0) (eg_v (az (pv 6)) cu)))))) (w6 (qt (ady hr.units) (e2_v (ER.toD (oh (e2_f T.f_Crowd_standing (pv 4) (cj (pv 6))) (fun _ _=>by rfl))) (EV.toB aq)) (ou _)))))) (bh abo) jr) (bh (SV.s (qu (aip m_Crowd_let_leave (hr.mono (by decide)) (pv 4) (eg_n (pv 6) (eg_v aq cu))))))) (ac9 (ug (ET.s (EW.pt (abh (kj (lr (ER.toD (jd d3 (hr.mono (by decide)) (by rfl) (eg_n (pv 0) (eg_v (az (pv 6)) cu)))))) (w6 (qt (ady hr.units) (e2_v (ER.toD (oh (e2_f T.f_Crowd_standing (pv 4) (cj (pv 6))) (fun _ _=>by rfl))) (EV.toB aq)) (ou _)))))) (bh abo) jr) (aqg (ET.s (EW.pt (abh (kj (lr (ER.toD (jd d3 (hr.mono (by decide)) (by rfl) (eg_n (pv 0) (eg_v (az (pv 6)) cu)))))) (w6 (qt (ady hr.units) (e2_v (ER.toD (oh (e2_f T.f_Crowd_standing (pv 4) (cj (pv 6))) (fun _ _=>by rfl))) (EV.toB aq)) (ou _)))))) nu (xj (akx rfl rfl (by rfl) T.i_Nobody aj8 rfl (by decide) (by decide) (fun _=>rfl) (Or.inl rfl) (Or.inl rfl) (akm fun _ _ _ _ _ _ us hl=>by obtain⟨_,_,rfl⟩:=ln2 hl;rfl) (hr.mono (by decide)) (EV.s (az (pv 5))) nu)) ahx) (xj apk))) (xj apk)) (avr (by rfl))))
theorem agu(F:Fun K "_law_cell" "_law_cell" aa7 f fd)(T:Txt K mg):FnOk P w K mg base CX0 1 f fd ["script","k"] (spOf K 2 f__law_cell) :=
 ju F agm rfl rfl fun cdv A outer s H E hr =>
  (au (ug (qt aul (e2_n (pv 1) (EV.toB (ER.toD (dj lu (by rfl) T.z_len mj (ea_n (pv 0) dq))))) (ou _)) (bh (gk (oh (e2_n (pv 0) (cj (pv 1))) (fun _ _=>by rfl)))) jr) (bh (gk (EV.toR aq))))
theorem aid(F:Fun K "_law_pen" "_law_pen" acd f fd)(T:Txt K mg):FnOk P w K mg base CX0 1 f fd ["cell"] (spOf K 1 f__law_pen) :=
 ju F adq rfl rfl fun cdv A outer s H E hr =>
  (au (jk (i:=1) adq.nd rfl (Or.inl rfl) (dj (aqb rfl) (by rfl) T.z_max aqc (ea_n (pv 0) (ea_v (ER.toD (cz ql (e2_v aq (cj (pv 0))))) dq)))) (bh (gk (gw (aj (az (pv 1)) (aj (ER.toD (ik av6 (by rfl) T.z_int ajw (ea_v (ER.toD (amt ai3 (e2_n (pv 1) (EV.toB (ER.toD (cz alr (e2_v aq (EV.toB aq)))))) (ou _))) dq))) bj))))))
theorem agt(F:Fun K "_law_draw" "_law_draw" aa6 f fd)(T:Txt K mg):FnOk P w K mg base CX0 1 f fd ["pen","many"] (spOf K 2 f__law_draw) :=
 ju F su rfl rfl fun cdv A outer s H E hr =>
  (au (ug (qt (ady hr.units) (e2_v (ER.toD (oh (e2_n (pv 0) (EV.toB aq)) (fun _ _=>by rfl))) (EV.toB aq)) (ou _)) (au (ato (ER.toD (dj am4 (by rfl) T.z_divmod ana (ea_v (ER.toD (oh (e2_n (pv 0) (EV.toB aq)) (fun _ _=>by rfl))) (ea_n (pv 1) dq)))) (ad8 rfl (kh (iu (i:=2) su.nd rfl (Or.inl rfl)) (kh (iu (i:=3) su.nd rfl (Or.inl rfl)) aba)))) (au (aer (az (pv 2)) (pv 0) aq) (bh (gk (aio (pv 3)))))) jr) (au (jk (i:=4) su.nd rfl (Or.inl rfl) (cz aac (e2_v (ER.toD (cz adx (e2_v (ER.toD (cz jf (e2_v (ER.toD (cz aac (e2_v (ER.toD (oh (e2_n (pv 0) (EV.toB aq)) (fun _ _=>by rfl))) (EV.toB aq)))) (EV.toB aq)))) (EV.toB aq)))) (EV.toB aq)))) (au (jk (i:=4) su.nd rfl (Or.inl rfl) (cz aac (e2_v (ER.toD (cz jf (e2_v (ER.toD (cz adx (e2_n (pv 4) (cj (pv 4))))) (EV.toB aq)))) (EV.toB aq)))) (au (aer (ER.toD (cz aac (e2_v (ER.toD (cz jf (e2_v (ER.toD (cz adx (e2_n (pv 4) (EV.toB aq)))) (EV.toB aq)))) (EV.toB aq)))) (pv 0) aq) (bh (gk (cz aac (e2_v (ER.toD (cz als (e2_v (ER.toD (oh (e2_n (pv 0) (EV.toB aq)) (fun _ _=>by rfl))) (EV.toB aq)))) (cj (pv 1))))))))))
theorem afs(F:Fun K "_law_whole" "_law_whole" uz f fd)(T:Txt K mg):FnOk P w K mg base CX0 1 f fd ["thing"] (spOf K 1 jo) :=
 ju F abr rfl rfl fun cdv A outer s H E hr =>
  (bh (gk (EV.toR (ae6 (ab4 (t:=.int) (aeo (by rfl) T.z_int ajw) (by rfl) T.z_isinstance ao (cj (pv 0))) (ae4 (amo (ab4 (t:=.bool) (aeo (by rfl) T.z_bool aiq) (by rfl) T.z_isinstance ao (cj (pv 0)))))))))
theorem aep(F:Fun K "_law_whole" "_law_whole" uz f fd)(T:Txt K mg):FnOkU P w K mg base 1 f fd ["thing"] (spOf K 1 jo) :=
 amm F abr rfl rfl fun cdv A outer s H hr =>
  (bh (gk (EV.toR (ae6 (ab4 (t:=.int) (aeo (by rfl) T.z_int ajw) (by rfl) T.z_isinstance ao (cj (pv 0))) (ae4 (amo (ab4 (t:=.bool) (aeo (by rfl) T.z_bool aiq) (by rfl) T.z_isinstance ao (cj (pv 0)))))))))
theorem aie(F:Fun K "_law_odd" "_law_odd" ace f fd)(T:Txt K mg)(d13:Dd13 P w K mg base):FnOk P w K mg base CX0 2 f fd ["pen"] (spOf K 1 f__law_odd) :=
 ju F adt rfl rfl fun cdv A outer s H E hr =>
  (au (jk (i:=1) adt.nd rfl (Or.inl rfl) (gw (aj ae5 (aj aaw (aj aaw (aj (aed aq) (aj ig (aj ig (aj (lq bj) (aj (ER.toD (gw bj)) (aj (lq (aj aq bj)) (aj (ER.toD (gw (aj aq bj))) (aj ao6 (aj (lq (aj aq (aj aq bj))) (aj (ER.toD (cz alr (e2_v aq (EV.toB aq)))) (aj (lq (aj (lq (aj aq bj)) bj)) (aj ig bj))))))))))))))))) (bh (gk (oh (e2_v (ER.toD (cz jf (e2_n (pv 1) (EV.toB (ER.toD (gw (aj (lq (aj (lq (aj (aed aq) bj)) (aj (lq (aj aq (aj aq bj))) bj))) bj))))))) (EV.toB (ER.toD (jd d13 (hr.mono (by decide)) (by rfl) (eg_n (pv 0) (eg_v aq cu)))))) (fun _ _=>by rfl)))))
theorem afv(F:Fun K "_law_house" "_law_house" zr f fd)(T:Txt K mg)(d13:Dd13 P w K mg base):FnOk P w K mg base CX0 2 f fd ["pen","most","doors"] (spOf K 3 f__law_house) :=
 ju F mq rfl rfl fun cdv A outer s H E hr =>
  (au (jk (i:=3) mq.nd rfl (Or.inr rfl) (cz jf (e2_v aq (EV.toB (ER.toD (jd d13 (hr.mono (by decide)) (by rfl) (eg_n (pv 0) (eg_n (pv 1) cu)))))))) (au (jk (i:=4) mq.nd rfl (Or.inr rfl) (oh (e2_v (ER.toD (gw (aj aq (aj aq (aj aq (aj aq bj)))))) (EV.toB (ER.toD (jd d13 (hr.mono (by decide)) (by rfl) (eg_n (pv 0) (eg_v aq cu)))))) (fun _ _=>by rfl))) (au (jk (i:=5) mq.nd rfl (Or.inl rfl) (gw bj)) (au (zb PassesOwn.never rfl (wg (by rfl) T.z_range (aj (az (pv 3)) bj)) (iu (i:=6) mq.nd rfl (Or.inl rfl)) (au (jk (i:=7) mq.nd rfl (Or.inl rfl) (cz jf (e2_v aq (EV.toB (ER.toD (jd d13 (hr.mono (by decide)) (by rfl) (eg_n (pv 0) (eg_n (pv 2) cu)))))))) (bh (qu (EV.toR (amq ach PySem.F.slot_list_append PySem.F.type_list_append ab0 (pv 5) (aj (ER.toD (ik rz (by rfl) T.z_tuple nj (ea_v (ER.toD (aco ["pen","many","gates"] ["door","pen","many","gates"] [none,some 0,some 3,some 4] rfl (wg (by rfl) T.z_range (aj (az (pv 7)) bj)) (fun _ _ _=>(iu (i:=0) (show(["door","pen","many","gates"]:List Str).Nodup by decide +kernel) rfl (Or.inl rfl))) (fun _ _ _=>acq) (fun _ _ _=>(ER.toD (cz ql (e2_v (ER.toD (jd d13 (hr.mono (by decide)) (by rfl) (eg_n (pv 1) (eg_v (ER.toD (cz jf (e2_n (pv 2) (cj (pv 3))))) cu)))) (cj (pv 3)))))))) dq))) bj))))))) (bh (gk (ik rz (by rfl) T.z_tuple nj (ea_n (pv 5) dq))))))))
theorem afw(F:Fun K "_law_drawn" "_law_drawn" zu f fd)(T:Txt K mg)(d13:Dd13 P w K mg base):FnOk P w K mg base CX0 2 f fd ["pen","house"] (spOf K 2 f__law_drawn) :=
 ju F afh rfl rfl fun cdv A outer s H E hr =>
  (bh (gk (ik rz (by rfl) T.z_tuple nj (ea_v (ER.toD (aco ["pen"] ["room","pen"] [none,some 0] rfl (ad6 (az (pv 1))) (fun _ _ _=>(iu (i:=0) (show(["room","pen"]:List Str).Nodup by decide +kernel) rfl (Or.inl rfl))) (fun _ _ _=>acq) (fun _ _ _=>(ER.toD (jd d13 (hr.mono (by decide)) (by rfl) (eg_n (pv 1) (eg_v (ER.toD (dj lu (by rfl) T.z_len mj (ea_n (pv 0) dq))) cu))))))) dq))))
theorem ags(F:Fun K "_law_kind" "_law_kind" xq f fd)(T:Txt K mg):FnOk P w K mg base CX0 1 f fd ["e"] (spOf K 1 uw) :=
 ju F ji rfl rfl fun cdv A outer s H E hr =>
  (au (jk (i:=1) ji.nd rfl (Or.inl rfl) (gw (aj (jg T.sub (by decide +kernel) (by rfl) T.k_NoArrows (by rfl) T.z_isinstance ao (cj (pv 0))) (aj (jg T.sub (by decide +kernel) (by rfl) T.k_NoRoom (by rfl) T.z_isinstance ao (cj (pv 0))) (aj (jg T.sub (by decide +kernel) (by rfl) T.k_NoWalkers (by rfl) T.z_isinstance ao (cj (pv 0))) (aj (jg T.sub (by decide +kernel) (by rfl) T.k_NotShut (by rfl) T.z_isinstance ao (cj (pv 0))) bj)))))) (au (jk (i:=1) ji.nd rfl (Or.inl rfl) (cz jf (e2_n (pv 1) (EV.toB (ER.toD (gw (aj (jg T.sub (by decide +kernel) (by rfl) T.k_NeverBack (by rfl) T.z_isinstance ao (cj (pv 0))) (aj (jg T.sub (by decide +kernel) (by rfl) T.k_NoTour (by rfl) T.z_isinstance ao (cj (pv 0))) (aj (jg T.sub (by decide +kernel) (by rfl) T.k_NoRow (by rfl) T.z_isinstance ao (cj (pv 0))) (aj (jg T.sub (by decide +kernel) (by rfl) T.k_NoHouse (by rfl) T.z_isinstance ao (cj (pv 0))) bj)))))))))) (au (jk (i:=1) ji.nd rfl (Or.inl rfl) (cz jf (e2_n (pv 1) (EV.toB (ER.toD (gw (aj (jg T.sub (by decide +kernel) (by rfl) T.k_NotOpen (by rfl) T.z_isinstance ao (cj (pv 0))) (aj (jg T.sub (by decide +kernel) (by rfl) T.k_Nobody (by rfl) T.z_isinstance ao (cj (pv 0))) (aj (jg T.sub (by decide +kernel) (by rfl) T.k_NoText (by rfl) T.z_isinstance ao (cj (pv 0))) (aj (jg T.sub (by decide +kernel) (by rfl) T.k_TooGreat (by rfl) T.z_isinstance ao (cj (pv 0))) bj)))))))))) (au (ug (EW.pt (abh (kj (lr (ams T.sub (by rfl) T.z_ValueError ab6 (by rfl) T.z_isinstance ao (cj (pv 0))))) (w6 (qt (adw hr.units) (e2_v (ajm hr.units (pv 1) (aj aaw bj)) (EV.toB aq)) (ou _))))) (bh (gk (EV.toR ig))) jr) (au (jk (i:=2) ji.nd rfl (Or.inl rfl) (gw (aj ig (aj ig (aj ig (aj ig (aj ig (aj ig (aj ig (aj ig (aj ig (aj ig bj)))))))))))) (bh (gk (oh (e2_v (ER.toD (cz jf (e2_n (pv 2) (EV.toB (ER.toD (gw (aj ig (aj ig bj)))))))) (EV.toB (amr PySem.F.slot_list_index PySem.F.type_list_index (ai5 hr.units) (pv 1) (aj aaw bj)))) (fun _ _=>by rfl)))))))))
theorem afq(F:Fun K "_law_kind" "_law_kind" xq f fd)(T:Txt K mg):FnOkU P w K mg base 1 f fd ["e"] (spOf K 1 uw) :=
 amm F ji rfl rfl fun cdv A outer s H hr =>
  (au (jk (i:=1) ji.nd rfl (Or.inl rfl) (gw (aj (jg T.sub (by decide +kernel) (by rfl) T.k_NoArrows (by rfl) T.z_isinstance ao (cj (pv 0))) (aj (jg T.sub (by decide +kernel) (by rfl) T.k_NoRoom (by rfl) T.z_isinstance ao (cj (pv 0))) (aj (jg T.sub (by decide +kernel) (by rfl) T.k_NoWalkers (by rfl) T.z_isinstance ao (cj (pv 0))) (aj (jg T.sub (by decide +kernel) (by rfl) T.k_NotShut (by rfl) T.z_isinstance ao (cj (pv 0))) bj)))))) (au (jk (i:=1) ji.nd rfl (Or.inl rfl) (cz jf (e2_n (pv 1) (EV.toB (ER.toD (gw (aj (jg T.sub (by decide +kernel) (by rfl) T.k_NeverBack (by rfl) T.z_isinstance ao (cj (pv 0))) (aj (jg T.sub (by decide +kernel) (by rfl) T.k_NoTour (by rfl) T.z_isinstance ao (cj (pv 0))) (aj (jg T.sub (by decide +kernel) (by rfl) T.k_NoRow (by rfl) T.z_isinstance ao (cj (pv 0))) (aj (jg T.sub (by decide +kernel) (by rfl) T.k_NoHouse (by rfl) T.z_isinstance ao (cj (pv 0))) bj)))))))))) (au (jk (i:=1) ji.nd rfl (Or.inl rfl) (cz jf (e2_n (pv 1) (EV.toB (ER.toD (gw (aj (jg T.sub (by decide +kernel) (by rfl) T.k_NotOpen (by rfl) T.z_isinstance ao (cj (pv 0))) (aj (jg T.sub (by decide +kernel) (by rfl) T.k_Nobody (by rfl) T.z_isinstance ao (cj (pv 0))) (aj (jg T.sub (by decide +kernel) (by rfl) T.k_NoText (by rfl) T.z_isinstance ao (cj (pv 0))) (aj (jg T.sub (by decide +kernel) (by rfl) T.k_TooGreat (by rfl) T.z_isinstance ao (cj (pv 0))) bj)))))))))) (au (ug (EW.pt (abh (kj (lr (ams T.sub (by rfl) T.z_ValueError ab6 (by rfl) T.z_isinstance ao (cj (pv 0))))) (w6 (qt (adw hr.units) (e2_v (ajm hr.units (pv 1) (aj aaw bj)) (EV.toB aq)) (ou _))))) (bh (gk (EV.toR ig))) jr) (au (jk (i:=2) ji.nd rfl (Or.inl rfl) (gw (aj ig (aj ig (aj ig (aj ig (aj ig (aj ig (aj ig (aj ig (aj ig (aj ig bj)))))))))))) (bh (gk (oh (e2_v (ER.toD (cz jf (e2_n (pv 2) (EV.toB (ER.toD (gw (aj ig (aj ig bj)))))))) (EV.toB (amr PySem.F.slot_list_index PySem.F.type_list_index (ai5 hr.units) (pv 1) (aj aaw bj)))) (fun _ _=>by rfl)))))))))
theorem adz(F:Fun K "_law_walkers" "_law_walkers" vh f fd)(T:Txt K mg)(d13:Dd13 P w K mg base):FnOk P w K mg base CX0 2 f fd ["pen","house","most"] (spOf K 3 ph) :=
 ju F adp rfl rfl fun cdv A outer s H E hr =>
  (bh (gk (ik rz (by rfl) T.z_tuple nj (ea_v (ER.toD (aco ["pen","most"] ["room","pen","most"] [none,some 0,some 2] rfl (ad6 (az (pv 1))) (fun _ _ _=>(iu (i:=0) (show(["room","pen","most"]:List Str).Nodup by decide +kernel) rfl (Or.inl rfl))) (fun _ _ _=>acq) (fun _ _ _=>(ER.toD (dj (aqb rfl) (by rfl) T.z_max aqc (ea_v aq (ea_v (ER.toD (cz ql (e2_v (ER.toD (jd d13 (hr.mono (by decide)) (by rfl) (eg_n (pv 1) (eg_v (ER.toD (cz jf (e2_n (pv 2) (EV.toB aq)))) cu)))) (EV.toB aq)))) dq))))))) dq))))
theorem agr(F:Fun K "_law_left" "_law_left" aa5 f fd)(T:Txt K mg):FnOk P w K mg base CX0 1 f fd ["house","some","there","gates","room"] (spOf K 5 pq) :=
 ju F acv rfl rfl fun cdv A outer s H E hr =>
  (au (jk (i:=5) acv.nd rfl (Or.inl rfl) (oh (e2_v (ER.toD (oh (e2_n (pv 0) (cj (pv 4))) (fun _ _=>by rfl))) (EV.toB (ER.toD (oh (e2_n (pv 1) (cj (pv 4))) (fun _ _=>by rfl))))) (fun _ _=>by rfl))) (au (aer (ER.toD (cz aac (e2_v (ER.toD (cz jf (e2_v (ER.toD (oh (e2_n (pv 1) (cj (pv 4))) (fun _ _=>by rfl))) (EV.toB aq)))) (EV.toB (ER.toD (dj lu (by rfl) T.z_len mj (ea_v (ER.toD (oh (e2_n (pv 0) (cj (pv 4))) (fun _ _=>by rfl))) dq))))))) (pv 1) (az (pv 4))) (au (aer (ER.toD (cz ql (e2_v (ER.toD (oh (e2_n (pv 2) (cj (pv 4))) (fun _ _=>by rfl))) (EV.toB aq)))) (pv 2) (az (pv 4))) (bh (ug (qt ai3 (e2_n (pv 5) (EV.toB aq)) (ou _)) (bh (aer (ER.toD (cz jf (e2_v (ER.toD (oh (e2_n (pv 2) (cj (pv 5))) (fun _ _=>by rfl))) (EV.toB aq)))) (pv 2) (az (pv 5)))) (bh (aer (ER.toD (cz jf (e2_v (ER.toD (oh (e2_n (pv 3) (EV.toB (ER.toD (cz ql (e2_v (ER.toD (cz ql (e2_v aq (cj (pv 5))))) (EV.toB aq)))))) (fun _ _=>by rfl))) (EV.toB aq)))) (pv 3) (ER.toD (cz ql (e2_v (ER.toD (cz ql (e2_v aq (cj (pv 5))))) (EV.toB aq)))))))))))
theorem aeq(F:Fun K "_law_counts" "_law_counts" xr f fd)(T:Txt K mg)(d14:Dd14 P w K mg base):FnOk P w K mg base CX0 2 f fd ["thing","many"] (spOf K 2 j0) :=
 ju F aen rfl rfl fun cdv A outer s H E hr =>
  (au (ug (EW.pt (abh (kj (lr (ab4 (t:=.tuple) (aeo (by rfl) T.z_tuple nj) (by rfl) T.z_isinstance ao (cj (pv 0))))) (w6 (qt (adw hr.units) (e2_v (ER.toD (dj lu (by rfl) T.z_len mj (ea_n (pv 0) dq))) (cj (pv 1))) (ou _))))) (bh (gk (EV.toR aaw))) jr) (bh (gk (dj (am5 rfl) (by rfl) T.z_all anb (ea_v (ER.toD (aco [] ["one"] [none] rfl (ad6 (az (pv 0))) (fun _ _ _=>(iu (i:=0) (show(["one"]:List Str).Nodup by decide +kernel) rfl (Or.inl rfl))) (fun _ _ _=>acq) (fun _ _ _=>(ae6 (ER.toD (jd d14 (hr.mono (by decide)) (by rfl) (eg_n (pv 0) cu))) (ae4 (ER.toD (amt ai3 (e2_n (pv 0) (EV.toB aq)) (ou _)))))))) dq)))))
theorem aif(F:Fun K "_law_due" "_law_due" acf f fd)(T:Txt K mg)(d14:Dd14 P w K mg base)(d20:Dd20 P w K mg base):FnOk P w K mg base CX0 2 f fd ["house","some","there","rooms"] (spOf K 4 f__law_due) :=
 ju F xn rfl rfl fun cdv A outer s H E hr =>
  (au (anq (i:=1) (j:=2) (k:=4) rfl xn.nd rfl rfl rfl (by decide) (by decide) (by decide) rfl rfl rfl (ik abk (by rfl) T.z_list abl (ea_n (pv 1) dq)) (ik abk (by rfl) T.z_list abl (ea_n (pv 2) dq)) (gw (aj aq (aj aq (aj aq bj))))) (au (zb PassesOwn.never rfl (af3 (by rfl) T.z_enumerate (aj (az (pv 3)) bj)) (ad8 rfl (kh (iu (i:=5) xn.nd rfl (Or.inl rfl)) (kh (iu (i:=6) xn.nd rfl (Or.inl rfl)) aba))) (au (ug (EW.pt (abh (kj (lr (ER.toD (jd d14 (hr.mono (by decide)) (by rfl) (eg_n (pv 6) cu))))) (abh (kj (ao7 alu aus aq (az (pv 6)) (ER.toD (dj lu (by rfl) T.z_len mj (ea_n (pv 0) dq))))) (w6 (qt (ady hr.units) (e2_v (ER.toD (oh (e2_n (pv 2) (cj (pv 6))) (fun _ _=>by rfl))) (EV.toB aq)) (ou _)))))) (bh (gk (EV.toR (lq (aj ig (aj (az (pv 5)) bj)))))) jr) (bh (qu (jd d20 (hr.mono (by decide)) (by rfl) (eg_n (pv 0) (eg_n (pv 1) (eg_n (pv 2) (eg_n (pv 4) (eg_v (az (pv 6)) cu)))))))))) (bh (gk (EV.toR (lq (aj ig (aj (lq (aj (ER.toD (ik rz (by rfl) T.z_tuple nj (ea_n (pv 1) dq))) (aj (ER.toD (ik rz (by rfl) T.z_tuple nj (ea_n (pv 2) dq))) (aj (ER.toD (ik rz (by rfl) T.z_tuple nj (ea_n (pv 4) dq))) bj)))) bj))))))))
theorem agq(F:Fun K "_law_told" "_law_told" aa4 f fd)(T:Txt K mg)(d10:Dd10 P w K mg base)(d21:Dd21 P w K mg base)(x10:Dx10 P w K mg base)(u18:Du18 P w K mg base)(u14:Du14 P w K mg base):FnOk P w K mg base CX0 7 f fd ["house","some","there","rooms"] (spOf K 4 qz) :=
 ju F zg rfl rfl fun cdv A outer s H E hr =>
  (au (aqu rfl rfl rfl rfl zg.nd rfl rfl (by rfl) T.cat T.sub (by decide +kernel) (bh (jk (i:=4) zg.nd rfl (Or.inl rfl) (jd d10 (hr.mono (by decide)) (by rfl) (eg_v (EV.s (az (pv 0))) (eg_v (EV.s (az (pv 1))) (eg_v (EV.s (az (pv 2))) (eg_v (EV.s (az (pv 3))) cu))))))) (xj (atf (anm x10 (hr.mono (by decide)) (by rfl) (eg_v (EV.s (az (pv 0))) (eg_v (EV.s (az (pv 1))) (eg_v (EV.s (az (pv 2))) (eg_v (EV.s (az (pv 3))) cu)))) (xa_v (js:=[]) (EV.s (az (pv 0))) (XE.no nu) (xa_v (js:=[]) (EV.s (az (pv 1))) (XE.no nu) (xa_v (js:=[]) (EV.s (az (pv 2))) (XE.no nu) (xa_v (js:=[]) (EV.s (az (pv 3))) (XE.no nu) aix))))))) (fun ev=>(au (ug (EW.pt (abh (qt (adw (hr.mark ev).units) (e2_v (ER.toD (ap7 u18 ((hr.mark ev).mono (by decide)) (by rfl) (eg_n (pv 5) cu))) (EV.toB ig)) (ou _)) (w6 (kj (lr (ER.toD (ap7 u14 ((hr.mark ev).mono (by decide)) (by rfl) (eg_v (ap6 (ajk T.n_at) (az (pv 5))) cu)))))))) (bh (gk (EV.toR (lq (aj ig (aj ae5 bj)))))) jr) (bh (gk (EV.toR (lq (aj ig (aj (ap6 (ajk T.n_at) (az (pv 5))) bj))))))))) (au (ug (EW.pt (abh (kj (lr (ab4 (t:=.tuple) (aeo (by rfl) T.z_tuple nj) (by rfl) T.z_isinstance ao (cj (pv 4))))) (abh (qt (adw hr.units) (e2_v (ER.toD (dj lu (by rfl) T.z_len mj (ea_n (pv 4) dq))) (EV.toB aq)) (ou _)) (w6 (kj (lr (ER.toD (jd d21 (hr.mono (by decide)) (by rfl) (eg_v (ER.toD (oh (e2_n (pv 4) (EV.toB aq)) (fun _ _=>by rfl))) (eg_v aq cu)))))))))) (bh (gk (EV.toR (lq (aj ig (aj ae5 bj)))))) jr) (au (ug (EW.pt (abh (kj (lr (ER.toD (jd d21 (hr.mono (by decide)) (by rfl) (eg_v (ER.toD (oh (e2_n (pv 4) (EV.toB aq)) (fun _ _=>by rfl))) (eg_v (ER.toD (dj lu (by rfl) T.z_len mj (ea_n (pv 0) dq))) cu)))))) (w6 (kj (lr (ER.toD (jd d21 (hr.mono (by decide)) (by rfl) (eg_v (ER.toD (oh (e2_n (pv 4) (EV.toB aq)) (fun _ _=>by rfl))) (eg_v (ER.toD (dj lu (by rfl) T.z_len mj (ea_n (pv 0) dq))) cu))))))))) (bh (gk (EV.toR (lq (aj ig (aj ae5 bj)))))) jr) (bh (gk (EV.toR (lq (aj ig (aj (az (pv 4)) bj)))))))))
theorem aft(F:Fun K "_law_rooms" "_law_rooms" zm f fd)(T:Txt K mg)(d13:Dd13 P w K mg base)(d20:Dd20 P w K mg base):FnOk P w K mg base CX0 2 f fd ["pen","house","some","there"] (spOf K 4 uc) :=
 ju F qi rfl rfl fun cdv A outer s H E hr =>
  (au (aqx (i:=2) (j:=3) (k:=4) rfl qi.nd rfl rfl rfl (Or.inl rfl) (Or.inr rfl) (Or.inl rfl) (ik abk (by rfl) T.z_list abl (ea_n (pv 2) dq)) (ik abk (by rfl) T.z_list abl (ea_n (pv 3) dq)) (gw (aj aq (aj aq (aj aq bj))))) (au (jk (i:=5) qi.nd rfl (Or.inl rfl) (gw bj)) (au (zb PassesOwn.never rfl (wg (by rfl) T.z_range (aj (ER.toD (jd d13 (hr.mono (by decide)) (by rfl) (eg_n (pv 0) (eg_v aq cu)))) bj)) (iu (i:=6) qi.nd rfl (Or.inl rfl)) (au (aqw (i:=7) ["there"] ["room","there"] [none,some 3] qi.nd rfl (Or.inl rfl) rfl (wg (by rfl) T.z_range (aj (ER.toD (dj lu (by rfl) T.z_len mj (ea_n (pv 1) dq))) bj)) (fun _ _ _=>(iu (i:=0) (show(["room","there"]:List Str).Nodup by decide +kernel) rfl (Or.inl rfl))) (fun _ _ _=>(asy (qt aum (e2_v (ER.toD (oh (e2_n (pv 1) (cj (pv 0))) (fun _ _=>by rfl))) (EV.toB aq)) (ou _)))) (fun _ _ _=>(az (pv 0)))) (bh (ug (qt (adw hr.units) (e2_n (pv 7) (EV.toB (ER.toD (gw bj)))) (ou _)) (au (qu (EV.toR (amq ach PySem.F.slot_list_append PySem.F.type_list_append ab0 (pv 5) (aj (ER.toD (oh (e2_n (pv 7) (EV.toB (ER.toD (jd d13 (hr.mono (by decide)) (by rfl) (eg_n (pv 0) (eg_v (ER.toD (dj lu (by rfl) T.z_len mj (ea_n (pv 7) dq))) cu)))))) (fun _ _=>by rfl))) bj)))) (bh (qu (jd d20 (hr.mono (by decide)) (by rfl) (eg_n (pv 1) (eg_n (pv 2) (eg_n (pv 3) (eg_n (pv 4) (eg_v (ER.toD (oh (e2_n (pv 5) (EV.toB (aed aq))) (fun _ _=>by rfl))) cu))))))))) jr)))) (bh (gk (aio (pv 5)))))))
theorem afu(F:Fun K "_law_right" "_law_right" zq f fd)(T:Txt K mg)(d22:Dd22 P w K mg base)(d23:Dd23 P w K mg base):FnOk P w K mg base CX0 8 f fd ["house","some","there","rooms"] (spOf K 4 jq) :=
 ju F xm rfl rfl fun cdv A outer s H E hr =>
  (au (jk (i:=4) xm.nd rfl (Or.inl rfl) (ik abk (by rfl) T.z_list abl (ea_n (pv 3) dq))) (au (zb PassesOwn.never rfl (wg (by rfl) T.z_range (aj aq bj)) (iu (i:=5) xm.nd rfl (Or.inl rfl)) (bh (ug (qt (adw hr.units) (e2_v (ER.toD (jd d23 (hr.mono (by decide)) (by rfl) (eg_v (az (pv 0)) (eg_v (az (pv 1)) (eg_v (az (pv 2)) (eg_v (az (pv 4)) cu)))))) (EV.toB (ER.toD (jd d22 (hr.mono (by decide)) (by rfl) (eg_n (pv 0) (eg_n (pv 1) (eg_n (pv 2) (eg_v (az (pv 3)) cu)))))))) (ou _)) (bh (gk (EV.toR aaw))) jr))) (bh (gk (amt (arq hr.units) (e2_n (pv 4) (cj (pv 3))) (ou _))))))
theorem auv(F:Fun K "law" "law" afj f fd)(T:Txt K mg)(d25:Dd25 P w K mg base)(d11:Dd11 P w K mg base)(d12:Dd12 P w K mg base)(d16:Dd16 P w K mg base)(d17:Dd17 P w K mg base)(d19:Dd19 P w K mg base)(d24:Dd24 P w K mg base)(d13:Dd13 P w K mg base)(d15:Dd15 P w K mg base):FnOk P w K mg base CX0 9 f fd ["script"] (spOf K 1 amn) :=
 ju F zc rfl rfl fun cdv A outer s H E hr =>
  (au (jk (i:=1) zc.nd rfl (Or.inl rfl) (EV.toR (lq (aj (lq (aj aq (aj (aed aq) bj))) bj)))) (au (zb PassesOwn.never rfl (ad6 (ER.toD (gw (aj (ER.toD (gw bj)) (aj (ER.toD (gw (aj aq bj))) (aj (ER.toD (gw (aj aq (aj aq bj)))) (aj (ER.toD (gw (aj aq (aj aq (aj aq bj))))) (aj (ER.toD (gw (aj aq bj))) (aj (ER.toD (gw (aj (aed aq) bj))) (aj (ER.toD (gw (aj ae5 bj))) (aj (ER.toD (gw (aj aaw bj))) (aj (ER.toD (gw (aj aaw bj))) bj)))))))))))) (iu (i:=2) zc.nd rfl (Or.inl rfl)) (bh (ug (EW.pt (abh (kj (lr (ER.toD (jd d25 (hr.mono (by decide)) (by rfl) (eg_v (az (pv 1)) (eg_v (lq (aj aq bj)) (eg_v (lq (aj aq bj)) (eg_v (az (pv 2)) cu)))))))) (w6 (kj (lr (ER.toD (jd d25 (hr.mono (by decide)) (by rfl) (eg_v (az (pv 1)) (eg_v (lq (aj aq bj)) (eg_v (lq (aj aq bj)) (eg_v (az (pv 2)) cu))))))))))) (bh (gk (EV.toR aaw))) jr))) (au (zb PassesOwn.never rfl (ad6 (ER.toD (cz jf (e2_v (ER.toD (gw (aj (ER.toD (jd d11 (hr.mono (by decide)) (by rfl) (eg_n (pv 0) (eg_v aq cu)))) bj))) (EV.toB (ER.toD (acn (pv 0) (abi aq) (abi aq)))))))) (iu (i:=3) zc.nd rfl (Or.inl rfl)) (au (jk (i:=4) zc.nd rfl (Or.inl rfl) (jd d12 (hr.mono (by decide)) (by rfl) (eg_n (pv 3) cu))) (au (jk (i:=5) zc.nd rfl (Or.inl rfl) (jd d16 (hr.mono (by decide)) (by rfl) (eg_n (pv 4) (eg_v aq (eg_v aq cu))))) (au (atn (i:=6) (j:=7) rfl zc.nd rfl rfl (by decide) rfl rfl (aj (ER.toD (jd d17 (hr.mono (by decide)) (by rfl) (eg_n (pv 4) (eg_v (az (pv 5)) cu)))) (aj (ER.toD (jd d19 (hr.mono (by decide)) (by rfl) (eg_n (pv 4) (eg_v (az (pv 5)) (eg_v aq cu))))) bj))) (au (jk (i:=2) zc.nd rfl (Or.inl rfl) (jd d24 (hr.mono (by decide)) (by rfl) (eg_n (pv 4) (eg_n (pv 5) (eg_n (pv 6) (eg_n (pv 7) cu)))))) (au (jk (i:=8) zc.nd rfl (Or.inl rfl) (jd d13 (hr.mono (by decide)) (by rfl) (eg_n (pv 4) (eg_v (ER.toD (cz jf (e2_v (ER.toD (dj lu (by rfl) T.z_len mj (ea_n (pv 2) dq))) (EV.toB aq)))) cu)))) (au (jk (i:=9) zc.nd rfl (Or.inl rfl) (oh (e2_v (ER.toD (gw (aj (ER.toD (dj lu (by rfl) T.z_len mj (ea_n (pv 5) dq))) (aj (aed aq) (aj aaw (aj ae5 (aj (ER.toD (jd d15 (hr.mono (by decide)) (by rfl) (eg_n (pv 4) cu))) (aj (ER.toD (jd d13 (hr.mono (by decide)) (by rfl) (eg_n (pv 4) (eg_v (ER.toD (dj lu (by rfl) T.z_len mj (ea_n (pv 5) dq))) cu)))) bj)))))))) (EV.toB (ER.toD (jd d13 (hr.mono (by decide)) (by rfl) (eg_n (pv 4) (eg_v aq cu)))))) (fun _ _=>by rfl))) (bh (zb PassesOwn.never rfl (ad6 (ER.toD (gw (aj (az (pv 2)) (aj (ER.toD (cz jf (e2_v (ER.toD (cz jf (e2_v (ER.toD (acn (pv 2) aef (abi (az (pv 8))))) (EV.toB (ER.toD (gw (aj (az (pv 9)) bj))))))) (EV.toB (ER.toD (acn (pv 2) (abi (az (pv 8))) aef)))))) (aj (ER.toD (cz jf (e2_v (ER.toD (acn (pv 2) (abi (az (pv 8))) aef)) (EV.toB (ER.toD (acn (pv 2) aef (abi (az (pv 8))))))))) (aj (ER.toD (acn (pv 2) aef (abi (az (pv 8))))) bj))))))) (iu (i:=10) zc.nd rfl (Or.inl rfl)) (bh (ug (kj (lr (ER.toD (jd d25 (hr.mono (by decide)) (by rfl) (eg_v (az (pv 5)) (eg_n (pv 6) (eg_n (pv 7) (eg_v (az (pv 10)) cu)))))))) (bh (gk (EV.toR aaw))) jr))))))))))) (bh (gk (EV.toR aaw))))))
end
abbrev Q(K:Fg9)(x:Str)(st:Stmt)(f:Addr)(oc:Value)(od:Option Addr)(kV dc pm:Value)(an:Option Addr)(cd ct:Value)(sl:Array (Option Value)):Prop:=nsIn K mainGlobals x=some (some (.ref f))/\K.lookup f=some ⟨oc,od,.func (fnOf x x (jh st) (du st) (ak st) .none kV dc pm an cd ct),sl⟩/\codeIn K cd x=true/\keepIn K (.ref f)=true
section
variable{K:Fg9}{x:Str}{st:Stmt}{f:Addr}{oc:Value}{od:Option Addr}{kV dc pm:Value}{an:Option Addr}{cd ct:Value}{sl:Array (Option Value)}(q:Q K x st f oc od kV dc pm an cd ct sl){h:Heap}{mg:Str->Option Value}
include q
theorem Q.F:Fun K x x st f (fnOf x x (jh st) (du st) (ak st) .none kV dc pm an cd ct):=ahc q.2.1 q.2.2.1 q.2.2.2
theorem Q.E{ps:List Str}(X:K.In h)(G:h.Ns mainGlobals mg)(b:∀(kV doc pm:Value) (an:Option Addr) (cdv ct:Value) (us:List Value),us.length=ps.length->bindArgs (fnOf x x (jh st) (du st) (ak st) .none kV doc pm an cdv ct) ⟨us,[]⟩=pure (ps.zip us)):mg x=some (.ref f)/\keepIn K (.ref f)=true/\Binds K (fnOf x x (jh st) (du st) (ak st) .none kV dc pm an cd ct) ps []:=⟨mg_of X G q.1,q.2.2.2,(Q.F q).binds b⟩
theorem Q.E1{p0:Str}(X:K.In h)(G:h.Ns mainGlobals mg)(b:∀(kV doc pm:Value) (an:Option Addr) (cdv ct u0:Value),bindArgs (fnOf x x (jh st) (du st) (ak st) .none kV doc pm an cdv ct) ⟨[u0],[]⟩=pure ([p0].zip [u0]):=by intros;rfl):mg x=some (.ref f)/\keepIn K (.ref f)=true/\Binds K (fnOf x x (jh st) (du st) (ak st) .none kV dc pm an cd ct) [p0] []:=q.E X G fun _ _ _ _ _ _ us hl=>by obtain⟨_,rfl⟩:=ln1 hl;apply b
theorem Q.E2{p0 p1:Str}(X:K.In h)(G:h.Ns mainGlobals mg)(b:∀(kV doc pm:Value) (an:Option Addr) (cdv ct u0 u1:Value),bindArgs (fnOf x x (jh st) (du st) (ak st) .none kV doc pm an cdv ct) ⟨[u0,u1],[]⟩=pure ([p0,p1].zip [u0,u1]):=by intros;rfl):mg x=some (.ref f)/\keepIn K (.ref f)=true/\Binds K (fnOf x x (jh st) (du st) (ak st) .none kV dc pm an cd ct) [p0,p1] []:=q.E X G fun _ _ _ _ _ _ us hl=>by obtain⟨_,_,rfl⟩:=ln2 hl;apply b
theorem Q.E3{p0 p1 p2:Str}(X:K.In h)(G:h.Ns mainGlobals mg)(b:∀(kV doc pm:Value) (an:Option Addr) (cdv ct u0 u1 u2:Value),bindArgs (fnOf x x (jh st) (du st) (ak st) .none kV doc pm an cdv ct) ⟨[u0,u1,u2],[]⟩=pure ([p0,p1,p2].zip [u0,u1,u2]):=by intros;rfl):mg x=some (.ref f)/\keepIn K (.ref f)=true/\Binds K (fnOf x x (jh st) (du st) (ak st) .none kV dc pm an cd ct) [p0,p1,p2] []:=q.E X G fun _ _ _ _ _ _ us hl=>by obtain⟨_,_,_,rfl⟩:=ln3 hl;apply b
theorem Q.E4{p0 p1 p2 p3:Str}(X:K.In h)(G:h.Ns mainGlobals mg)(b:∀(kV doc pm:Value) (an:Option Addr) (cdv ct u0 u1 u2 u3:Value),bindArgs (fnOf x x (jh st) (du st) (ak st) .none kV doc pm an cdv ct) ⟨[u0,u1,u2,u3],[]⟩=pure ([p0,p1,p2,p3].zip [u0,u1,u2,u3]):=by intros;rfl):mg x=some (.ref f)/\keepIn K (.ref f)=true/\Binds K (fnOf x x (jh st) (du st) (ak st) .none kV dc pm an cd ct) [p0,p1,p2,p3] []:=q.E X G fun _ _ _ _ _ _ us hl=>by obtain⟨_,_,_,_,rfl⟩:=ln4 hl;apply b
theorem Q.E5{p0 p1 p2 p3 p4:Str}(X:K.In h)(G:h.Ns mainGlobals mg)(b:∀(kV doc pm:Value) (an:Option Addr) (cdv ct u0 u1 u2 u3 u4:Value),bindArgs (fnOf x x (jh st) (du st) (ak st) .none kV doc pm an cdv ct) ⟨[u0,u1,u2,u3,u4],[]⟩=pure ([p0,p1,p2,p3,p4].zip [u0,u1,u2,u3,u4]):=by intros;rfl):mg x=some (.ref f)/\keepIn K (.ref f)=true/\Binds K (fnOf x x (jh st) (du st) (ak st) .none kV dc pm an cd ct) [p0,p1,p2,p3,p4] []:=q.E X G fun _ _ _ _ _ _ us hl=>by obtain⟨_,_,_,_,_,rfl⟩:=ln5 hl;apply b
end
theorem awa{l:PySem.W.OpenLaw}{w:World}{K:Fg9}{h:Heap}{mg:Str->Option Value}(X:K.In h)(G:h.Ns mainGlobals mg)(hfa:mg "law" = some (.ref fa))
  {tk_GATES_MANY tk_MOST_WALKERS:Tok}
  {B_Crowd:Addr} (aB_Crowd:nsIn K mainGlobals "Crowd" = some (some (.ref B_Crowd))) (e_B_Crowd:boxB K B_Crowd ["house","turning","standing","gone","left"]=true)
  (q0:Q K "is_whole" acb f0' o0 p0 v0 t0 m0 n0 c0 r0 z0)
  (q1:Q K "is_whole_within" qw f1' o1 p1 v1 t1 m1 n1 c1 r1 z1)
  (q2:Q K "is_tuple_within" qx f2' o2 p2 v2 t2 m2 n2 c2 r2 z2)
  (q3:Q K "is_room_number" ud f3' o3 p3 v3 t3 m3 n3 c3 r3 z3)
  (q4:Q K "is_arrows" aa3 f4' o4 p4 v4 t4 m4 n4 c4 r4 z4)
  (q5:Q K "refuse_no_arrows" j9 f5' o5 p5 v5 t5 m5 n5 c5 r5 z5)
  (q6:Q K "is_walkers" zj f6' o6 p6 v6 t6 m6 n6 c6 r6 z6)
  (q7:Q K "refuse_no_walkers" jx f7' o7 p7 v7 t7 m7 n7 c7 r7 z7)
  (q8:Q K "uses_of" adu f8' o8 p8 v8 t8 m8 n8 c8 r8 z8)
  (q9:Q K "refuse_no_crowd" my f9' o9 p9 v9 t9 m9 n9 c9 r9 z9)
  (q10:Q K "left_by" abt f10' o10 p10 v10 t10 m10 n10 c10 r10 z10)
  (q11:Q K "_law_cell" aa7 f11' o11 p11 v11 t11 m11 n11 c11 r11 z11)
  (q12:Q K "_law_pen" acd f12' o12 p12 v12 t12 m12 n12 c12 r12 z12)
  (q13:Q K "_law_draw" aa6 f13' o13 p13 v13 t13 m13 n13 c13 r13 z13)
  (q14:Q K "_law_whole" uz f14' o14 p14 v14 t14 m14 n14 c14 r14 z14)
  (q15:Q K "_law_odd" ace f15' o15 p15 v15 t15 m15 n15 c15 r15 z15)
  (q16:Q K "_law_house" zr f16' o16 p16 v16 t16 m16 n16 c16 r16 z16)
  (q17:Q K "_law_drawn" zu f17' o17 p17 v17 t17 m17 n17 c17 r17 z17)
  (q18:Q K "_law_kind" xq f18' o18 p18 v18 t18 m18 n18 c18 r18 z18)
  (q19:Q K "_law_walkers" vh f19' o19 p19 v19 t19 m19 n19 c19 r19 z19)
  (q20:Q K "_law_left" aa5 f20' o20 p20 v20 t20 m20 n20 c20 r20 z20)
  (q21:Q K "_law_counts" xr f21' o21 p21 v21 t21 m21 n21 c21 r21 z21)
  (q22:Q K "_law_due" acf f22' o22 p22 v22 t22 m22 n22 c22 r22 z22)
  (q23:Q K "_law_told" aa4 f23' o23 p23 v23 t23 m23 n23 c23 r23 z23)
  (q24:Q K "_law_rooms" zm f24' o24 p24 v24 t24 m24 n24 c24 r24 z24)
  (q25:Q K "_law_right" zq f25' o25 p25 v25 t25 m25 n25 c25 r25 z25)
  (a26:nsIn K mainGlobals "law" = some (some (.ref f26'))) (l26:K.lookup f26'=some ⟨oc26,od26,.func (fnOf "law" "law" (jh afj) (du afj) (ak afj) .none kV26 dc26 pm26 an26 cd26 ct26),sl26⟩) (c26:codeIn K cd26 "law" = true) (k26:keepIn K (.ref f26')=true)
  (a27:findIn K (.ref B_Crowd) "__init__" = some (some (.ref f27'))) (l27:K.lookup f27'=some ⟨oc27,od27,.func (fnOf "__init__" "Crowd.__init__" (jh qe) (du qe) (ak qe) .none kV27 dc27 pm27 an27 cd27 ct27),sl27⟩) (c27:codeIn K cd27 "Crowd.__init__" = true) (k27:keepIn K (.ref f27')=true) (e_F_Crowd_init:PySem.W.isFn K (.ref f27')=true)
  (a28:findIn K (.ref B_Crowd) "let_leave" = some (some (.ref f28'))) (l28:K.lookup f28'=some ⟨oc28,od28,.func (fnOf "let_leave" "Crowd.let_leave" (jh jj) (du jj) (ak jj) .none kV28 dc28 pm28 an28 cd28 ct28),sl28⟩) (c28:codeIn K cd28 "Crowd.let_leave" = true) (k28:keepIn K (.ref f28')=true) (e_F_Crowd_let_leave:PySem.W.isFn K (.ref f28')=true)
  (g_GATES_MANY:nsIn K mainGlobals "GATES_MANY" = some (some (.int 3 tk_GATES_MANY)))
  (g_MOST_WALKERS:nsIn K mainGlobals "MOST_WALKERS" = some (some (.int 100 tk_MOST_WALKERS)))
  {fi_Nobody:Addr} {ci0_Nobody:Addr} {odi_Nobody ani_Nobody:Option Addr} {sli_Nobody:Array (Option Value)} {oci_Nobody kVi_Nobody dci_Nobody pmi_Nobody cdi_Nobody cti_Nobody:Value} (aj_Nobody:nsIn K mainGlobals "Nobody" = some (some (.ref ci0_Nobody))) (ai_Nobody:findIn K (.ref ci0_Nobody) "__init__" = some (some (.ref fi_Nobody))) (li_Nobody:K.lookup fi_Nobody=some ⟨oci_Nobody,odi_Nobody,.func (fnOf "__init__" "Nobody.__init__" (jh vq) (du vq) (ak vq) .none kVi_Nobody dci_Nobody pmi_Nobody ani_Nobody cdi_Nobody cti_Nobody),sli_Nobody⟩) (ci_Nobody:codeIn K cdi_Nobody "Nobody.__init__" = true) (ki_Nobody:keepIn K (.ref fi_Nobody)=true) (e_iNobody:asf K ci0_Nobody fi_Nobody "at" = true)
  (e_nat:asr K ["NoHouse","Nobody","NoText"] "at" = true)
  (e_cls:ajt K NS=true) (e_sub:afb K NS=true) (e_rai:apm K ["ArrowError","NoArrows","NoRoom","NoWalkers","NotShut","NeverBack","NoTour","NoRow"]=true) (e_cat:catB K=true)
  (y_ValueError:nsIn K mainGlobals "ValueError" = some none)
  (y_all:nsIn K mainGlobals "all" = some none)
  (y_bool:nsIn K mainGlobals "bool" = some none)
  (y_divmod:nsIn K mainGlobals "divmod" = some none)
  (y_enumerate:nsIn K mainGlobals "enumerate" = some none)
  (y_int:nsIn K mainGlobals "int" = some none)
  (y_isinstance:nsIn K mainGlobals "isinstance" = some none)
  (y_len:nsIn K mainGlobals "len" = some none)
  (y_list:nsIn K mainGlobals "list" = some none)
  (y_max:nsIn K mainGlobals "max" = some none)
  (y_range:nsIn K mainGlobals "range" = some none)
  (y_tuple:nsIn K mainGlobals "tuple" = some none)
  (y_zip:nsIn K mainGlobals "zip" = some none)
  : ∃fd:FuncData,(∀(s:Shared) (v:Value),BindsTo s fd ⟨[v],[]⟩ [("script", v)])/\∀base:Heap,K.In base->base.Ns mainGlobals mg->FnOk l.prog w K mg base CX0 9 fa fd ["script"] (spOf K 1 amn):=by
 have e:=hfa.symm.trans (mg_of X G a26);cases e;have T:Txt K mg:=⟨⟨_,mg_of X G g_GATES_MANY⟩,⟨_,mg_of X G g_MOST_WALKERS⟩,mg_none_of X G y_ValueError,mg_none_of X G y_all,mg_none_of X G y_bool,mg_none_of X G y_divmod,mg_none_of X G y_enumerate,mg_none_of X G y_int,mg_none_of X G y_isinstance,mg_none_of X G y_len,mg_none_of X G y_list,mg_none_of X G y_max,mg_none_of X G y_range,mg_none_of X G y_tuple,mg_none_of X G y_zip,aeb aB_Crowd e_B_Crowd (by decide +kernel),aeb aB_Crowd e_B_Crowd (by decide +kernel),aeb aB_Crowd e_B_Crowd (by decide +kernel),aeb aB_Crowd e_B_Crowd (by decide +kernel),aeb aB_Crowd e_B_Crowd (by decide +kernel),e_sub,as7 X G e_cat,qd X G e_cls (by decide +kernel),qd X G e_cls (by decide +kernel),qd X G e_cls (by decide +kernel),qd X G e_cls (by decide +kernel),qd X G e_cls (by decide +kernel),qd X G e_cls (by decide +kernel),qd X G e_cls (by decide +kernel),qd X G e_cls (by decide +kernel),qd X G e_cls (by decide +kernel),qd X G e_cls (by decide +kernel),qd X G e_cls (by decide +kernel),qd X G e_cls (by decide +kernel),qd X G e_cls (by decide +kernel),aab X G e_cls (by decide +kernel) e_rai (by decide +kernel),aab X G e_cls (by decide +kernel) e_rai (by decide +kernel),aab X G e_cls (by decide +kernel) e_rai (by decide +kernel),aab X G e_cls (by decide +kernel) e_rai (by decide +kernel),aab X G e_cls (by decide +kernel) e_rai (by decide +kernel),aab X G e_cls (by decide +kernel) e_rai (by decide +kernel),aab X G e_cls (by decide +kernel) e_rai (by decide +kernel),aab X G e_cls (by decide +kernel) e_rai (by decide +kernel),aou X G e_cls (by decide +kernel) aj_Nobody e_iNobody (ahc (st:=vq) li_Nobody ci_Nobody ki_Nobody),e_nat⟩
 have F26:=ahc (st:=afj) l26 c26 k26;have F27:=ahc (st:=qe) l27 c27 k27;have b27:=F27.binds (ps:=["self","house","arrows","walkers"]) fun _ _ _ _ _ _ us hl=>by obtain⟨_,_,_,_,rfl⟩:=ln4 hl;rfl
 have F28:=ahc (st:=jj) l28 c28 k28;have b28:=F28.binds (ps:=["self","room","many"]) fun _ _ _ _ _ _ us hl=>by obtain⟨_,_,_,rfl⟩:=ln3 hl;rfl
 refine⟨fnOf "law" "law" (jh afj) (du afj) (ak afj) .none kV26 dc26 pm26 an26 cd26 ct26,fun s v=>.of_eq rfl,fun base _ _ =>?_⟩
 have d0:Dd0 l.prog w K mg base:=⟨_,_,aic q0.F T,q0.E1 X G⟩;have d1:Dd1 l.prog w K mg base:=⟨_,_,abx q1.F T d0,q1.E3 X G⟩;have d2:Dd2 l.prog w K mg base:=⟨_,_,aby q2.F T,q2.E3 X G⟩;have d3:Dd3 l.prog w K mg base:=⟨_,_,acg q3.F T d1,q3.E2 X G⟩;have d4:Dd4 l.prog w K mg base:=⟨_,_,agp q4.F T d2 d1,q4.E2 X G⟩;have d5:Dd5 l.prog w K mg base:=⟨_,_,aa9 q5.F T d4,q5.E2 X G⟩;have x5:Dx5 l.prog w K mg base:=⟨_,_,aau q5.F T d4,q5.E2 X G⟩;have d6:Dd6 l.prog w K mg base:=⟨_,_,afr q6.F T d2 d1,q6.E3 X G⟩;have d7:Dd7 l.prog w K mg base:=⟨_,_,aav q7.F T d6,q7.E2 X G⟩;have x7:Dx7 l.prog w K mg base:=⟨_,_,aad q7.F T d6,q7.E2 X G⟩;have d8:Dd8 l.prog w K mg base:=⟨_,_,akf q8.F T,q8.E3 X G⟩;have d9:Dd9 l.prog w K mg base:=⟨_,_,abw q9.F T d5 d7 x5 x7,q9.E3 X G⟩;have x9:Dx9 l.prog w K mg base:=⟨_,_,aa8 q9.F T d5 d7 x5 x7,q9.E3 X G⟩;have m_Crowd_let_leave:DfnM l.prog w K mg base _ _ _ _ _:=as3 aB_Crowd e_B_Crowd a28 e_F_Crowd_let_leave k28 (abz (P:=l.prog) (w:=w) (base:=base) F28 T d8) b28;have n_Crowd:DfnI l.prog w K mg base _ _ _ (afd K _ _ vo):=as4 aB_Crowd (mg_of X G aB_Crowd) e_B_Crowd a27 e_F_Crowd_init (afx (P:=l.prog) (w:=w) (base:=base) F27 T aB_Crowd) b27;have d10:Dd10 l.prog w K mg base:=⟨_,_,akg q10.F T d3 d9 x9 m_Crowd_let_leave n_Crowd,q10.E4 X G⟩;have x10:Dx10 l.prog w K mg base:=⟨_,_,aib q10.F T d3 d9 x9 m_Crowd_let_leave n_Crowd,q10.E4 X G⟩;have d11:Dd11 l.prog w K mg base:=⟨_,_,agu q11.F T,q11.E2 X G⟩;have d12:Dd12 l.prog w K mg base:=⟨_,_,aid q12.F T,q12.E1 X G⟩;have d13:Dd13 l.prog w K mg base:=⟨_,_,agt q13.F T,q13.E2 X G⟩;have u14:Du14 l.prog w K mg base:=⟨_,_,aep q14.F T,q14.E1 X G⟩;have d14:Dd14 l.prog w K mg base:=⟨_,_,afs q14.F T,q14.E1 X G⟩;have d15:Dd15 l.prog w K mg base:=⟨_,_,aie q15.F T d13,q15.E1 X G⟩;have d16:Dd16 l.prog w K mg base:=⟨_,_,afv q16.F T d13,q16.E3 X G⟩;have d17:Dd17 l.prog w K mg base:=⟨_,_,afw q17.F T d13,q17.E2 X G⟩;have u18:Du18 l.prog w K mg base:=⟨_,_,afq q18.F T,q18.E1 X G⟩;have d18:Dfn l.prog w K mg base _ _ _ _:=⟨_,_,ags (P:=l.prog) (w:=w) (base:=base) q18.F T,q18.E1 X G⟩;have d19:Dd19 l.prog w K mg base:=⟨_,_,adz q19.F T d13,q19.E3 X G⟩;have d20:Dd20 l.prog w K mg base:=⟨_,_,agr q20.F T,q20.E5 X G⟩;have d21:Dd21 l.prog w K mg base:=⟨_,_,aeq q21.F T d14,q21.E2 X G⟩;have d22:Dd22 l.prog w K mg base:=⟨_,_,aif q22.F T d14 d20,q22.E4 X G⟩;have d23:Dd23 l.prog w K mg base:=⟨_,_,agq q23.F T d10 d21 x10 u18 u14,q23.E4 X G⟩;have d24:Dd24 l.prog w K mg base:=⟨_,_,aft q24.F T d13 d20,q24.E4 X G⟩;have d25:Dd25 l.prog w K mg base:=⟨_,_,afu q25.F T d22 d23,q25.E4 X G⟩;exact auv F26 T d25 d11 d12 d16 d17 d19 d24 d13 d15
end My
set_option genInjectivity false in
structure PySem.W.Fast where(tw8782815016473305248 tw5629267058591924097 tw5454188085443560354 tw10256319241381172963 tw15040064179324701443 tw14641188711931543588 tw5564447580998111588 tw3489463517587551204 tw15161188829059250629 tw3626769661800244615 tw14492446384569049895 tw772310218408478599 tw17375500460013686952 tw9639824002857942504 tw5244035893899448745 tw9442478102145674697 tw3792460558261695049 tw7588150032480404137 tw14212203979202999338 tw10338074991025469994 tw17335881475922193354 tw6434457581805216875 tw15638485690201207372 tw11242104979472409516 tw2448779156130201580 tw1683053771254698157 tw3542732349286584527 tw1256802713344528623 tw12406111916534483471 tw13908797658825772655 tw2319796118820612079 tw16756766920098604336 tw10998927813650521297 tw10724673171012183537 tw16161562042408624402 tw8311445456266821811 tw6318953471937043763 tw16630907929870487347 tw13720191576291011892 tw17922628684699045173 tw3753712941669479957 tw12119841733752770261 tw2254278300411156341 tw12343397519589500214 tw14675131284499430487 tw15633115443327422999 tw17094582672020432855 tw1464853941659696568 tw8915539379844489688 tw12003530407002095224 tw6698210426685575864 tw6807276679813223481 tw14343899048283829529 tw18169458685411635833 tw9895865688045834266 tw6744667138863345786 tw5606267041210282235 tw13605571202487760156 tw12647486210652175900 tw18006371624987564221 tw16113820252516906525 tw3543936108557539070 tw16074859866903402334 tw11740907373134210014 tw1032961409570560990 tw6296736263125439711 tw17647654163236882879 tw1498522715806478783 tw17503551945736195270 tw9358693699594081905 tw13766351762059130150 tw16806737859708383313 tw2364083294988772131 tw7258372631928463059 tw16054213797100169665 tw16966456767086289066 tw10670401917940683988 tw1924312091294484496 tw4259942638531396843 tw17822369315119276794 tw4502991396292922079 tw17788191010273872820 tw5686014040864098877 tw4456198004838061297 tw2538379636294573616 tw13701879975725530829 tw16181207036759935156 tw13508368925460690351 tw15589356452369018556 tw8580071164957654165 tw9750322697893709103 tw12382902235030067009 tw4105771152608778672 tw12506082405941472784 tw11376956947442111772 tw8459372172564952822 tw3050951444415020372 tw12043996622785066281 tw828357888483051931 tw10651795144851188437 tw2154575524526998551 tw6433852289498614543 tw14676004245381887328 tw17715525626504064068 tw4100954111206183872 tw2205335595145391532 tw172350685256115752 tw2031145581469429542 tw15981988101331149807 tw9294649486742470524 tw14784210628834826681 tw6362410277960165434 tw3256901251087843466 tw12072195128091515538 tw10699359106144040495 tw3350681682309656047 tw16661623753278822069 tw14340661365047659796 tw7510221244777197551 tw8467687104312883306 tw4603122856477514986 tw4377772440065978925 tw2345682033859905183 tw9462650939993200696 tw7841668496292536664 tw4751951103999850662 tw9470534100726640809 tw13435835993829020484 tw1367907260215914680 tw8728998798449415458 tw10789557474063217407 tw7212770208643649411 tw13458177949937841846 tw16985614726600863036 tw8961801159417084457 tw8766200245703627496 tw3479891285723274683 tw16189397928606574481 tw2260108182854635129 tw5356532513589685957 tw14811623971173718713 tw15554943065130070020 tw12656863961055982512 tw18236752634783586281 tw14250032511437829832 tw7940654852553657366 tw5152883209091968912 tw2780237833053276453 tw10036229936026876234 tw10059030191469103720 tw10870258059169123626 tw1253227855162012725 tw2573363270274134192 tw4384957496282711605 tw5394513852745066666 tw5736342380346632642 tw136347338438070812 tw6135155104007135652 tw16190955135710275169 tw4430697679849989643 tw4436685734222305098 tw3593567104819011168 tw17289480550141432051 tw481785461550491057 tw5119710526330469454 tw13318650748426936707 tw13568766715354785578 tw968473184320846057 tw13211090413604899359 tw17465208630667724867 tw16855320581904310297 tw15492663413873681327 tw16720815688221661654 tw14648069779183686177 tw3509576179404157791 tw12907366392502881958 tw17268151665545872325 tw8550417262002107655 tw12851179018099745693 tw10335371298035679210 tw11117376991253750912 tw8954251479102788719 tw16477016428014331912 tw13718177662181232356 tw52798932831676079 tw8994517253319503048 tw16074290610706966798 tw3332310409598787302:Unit)
open PySem PySem.W PyProof.Rows
set_option maxRecDepth 100000 in
set_option maxHeartbeats 0 in
theorem PySem.Challenge.cw_turnarrows_k18_rooms_left_one_by_one_holds : PySem.Challenge.rw_turnarrows_k18_rooms_left_one_by_one.Holds := by
 w_on;o_law;k_head;(case hw=>w_witness2)
 k_fill
 refine Dn.walk (l:=PySem.Challenge.rw_turnarrows_k18_rooms_left_one_by_one) (f:=My.amn) (k:=9) My.aol rfl rfl ⟨rfl,by decide,by decide,rfl⟩ (fun w h Y=>PySem.W.kIn_of Y) ?F
 case F =>
  intro w mg fa h KX G hmg;refine' My.awa KX G hmg ?_ ?_ ?_ ?_ ?_ ?_ ?_ ?_ ?_ ?_ ?_ ?_ ?_ ?_ ?_ ?_ ?_ ?_ ?_ ?_ ?_ ?_ ?_ ?_ ?_ ?_ ?_ ?_ ?_ ?_ ?_ ?_ ?_ ?_ ?_ ?_ ?_ ?_ ?_ ?_ ?_ ?_ ?_ ?_ ?_ ?_ ?_ ?_ ?_ ?_ ?_ ?_ ?_ ?_ ?_ ?_ ?_ ?_ ?_ ?_ ?_ ?_ ?_ ?_ ?_ ?_ ?_ ?_
  all_goals try refine' And.intro ?_ (And.intro ?_ (And.intro ?_ ?_))
  any_goals k_is
  all_goals kernel_rfl
