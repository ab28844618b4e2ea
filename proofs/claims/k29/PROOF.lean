import PyProof.Rows.All
import Wide.All
import OpenK.AllK
import Wide.FinOn
import Lean
import PyProof.EqAt
import PyProof.EqKinds
import PyProof.TupleCall
import PySem.Challenge.RW_turnarrows_k29_papers_of_no_round
set_option Elab.async false
set_option linter.all false
set_option maxRecDepth 100000
noncomputable section
open PySem.W (nsIn mg_of keepIn fnOf codeIn findIn mg_none_of)
abbrev Fg9:=PySem.W.Frag
abbrev LL9:=List (List Int)
section
open PySem PySem.Spec PyProof.Rows
namespace L2
abbrev Key:=Sum Int Str
def ank:Key->Value->Bool
 | .inl k,v=>Value.isInt k v
 | .inr x,v=>Value.isStrOf x v
def keyH(w:World):Key->Int
 | .inl k=>hashInt k
 | .inr x=>hashStr w x
theorem ji:∀{k:Key} {v:Value},ank k v=true->(∃i t,k=Sum.inl i/\v=Value.int i t)∨(∃x t,k=Sum.inr x/\v=Value.str x t)
 | .inl i,v,h=>by
  obtain⟨t,e⟩:=Value.isInt_shape (k:=i) (v:=v) h;exact .inl ⟨i,t,rfl,e⟩
 | .inr x,v,h=>by
  obtain⟨t,e⟩:=Value.isStrOf_shape (x:=x) (v:=v) h;exact .inr ⟨x,t,rfl,e⟩
theorem anj(x:Str)(t:Tok):ank (.inr x) (.str x t)=true:=by simp[ank,Value.isStrOf]
theorem awu(a b:Int):decide ((Sum.inl a:Key)=Sum.inl b)=(a==b):=by
 by_cases e:a=b
 ·subst e;simp
 ·have h:¬(Sum.inl a:Key)=Sum.inl b:=fun q=>e (Sum.inl.inj q)
  rw[decide_eq_false h];exact(beq_eq_false_iff_ne.mpr e).symm
theorem awr(a b:Str):decide ((Sum.inr a:Key)=Sum.inr b)=decide (a=b):=by
 by_cases e:a=b
 ·subst e;simp
 ·have h:¬(Sum.inr a:Key)=Sum.inr b:=fun q=>e (Sum.inr.inj q)
  rw[decide_eq_false h,decide_eq_false e]
theorem awt(a:Int)(b:Str):decide ((Sum.inl a:Key)=Sum.inr b)=false:=decide_eq_false (fun q=>nomatch q)
theorem aws(a:Str)(b:Int):decide ((Sum.inr a:Key)=Sum.inl b)=false:=decide_eq_false (fun q=>nomatch q)
def agr(prog:Program)(w:World):PySem.KeyKind prog w Key where
 is:=ank
 hash:=keyH w
 inj:=fun v a b ha hb=>by
  rcases ji ha with⟨i,t,rfl,rfl⟩ | ⟨x,t,rfl,rfl⟩
  ·rcases ji hb with⟨j,u,rfl,e⟩ | ⟨y,u,rfl,e⟩
   ·injection e with e1 _;rw[e1]
   ·exact nomatch e
  ·rcases ji hb with⟨j,u,rfl,e⟩ | ⟨y,u,rfl,e⟩
   ·exact nomatch e
   ·injection e with e1 _;rw[e1]
 byValue:=fun k v h=>by
  rcases ji h with⟨i,t,rfl,rfl⟩ | ⟨x,t,rfl,rfl⟩ <;> rfl
 pyHash:=fun hv h=>by
  rcases ji hv with⟨i,t,rfl,rfl⟩ | ⟨x,t,rfl,rfl⟩
  ·exact wpAny_pyHash_int h
  ·exact wpAny_pyHash_str h
 eqBool:=fun hu hv h=>by
  rcases ji hu with⟨i,t,rfl,rfl⟩ | ⟨x,t,rfl,rfl⟩
  ·rcases ji hv with⟨j,u,rfl,rfl⟩ | ⟨y,u,rfl,rfl⟩
   ·rw[awu] at h;exact wpAny_eqBool_int h
   ·rw[awt] at h;exact SeqAt.EqAt.int_str i t y u _ _ _ _ h
  ·rcases ji hv with⟨j,u,rfl,rfl⟩ | ⟨y,u,rfl,rfl⟩
   ·rw[aws] at h;exact SeqAt.EqAt.str_int x t j u _ _ _ _ h
   ·rw[awr] at h;exact wpAny_eqBool_str h
 «strs» := fun k x t v h=>by
  rcases ji h with⟨i,u,rfl,e⟩ | ⟨y,u,rfl,e⟩
  ·exact nomatch e
  ·injection e with e1 _
   subst e1;cases v <;> rfl
theorem ajc(prog:Program)(w:World)(x:Str)(t:Tok):(agr prog w).is (.inr x) (.str x t)=true:=anj x t
def IsTp(h:Heap)(a:Addr)(items:Array Value):Prop:=∃o,h.get? a=some o/\o.cls=.type "tuple" /\ o.dict=none/\∃n,o.data=.seq items n
theorem IsTp.tup{h:Heap}{a:Addr}{items:Array Value}(x:IsTp h a items):IsTup h a items:=let ⟨o,e,c,_,n,d⟩:=x;⟨o,e,c,n,d⟩
theorem IsTp.new(h:Heap)(items:Array Value):IsTp (h.push { cls:=.type "tuple", data:=.seq items }) h.objs.size items:=⟨_,Heap.get?_push_size _ rfl,rfl,rfl,_,rfl⟩
inductive V where
 | non | bl (b:Bool) | int (i:Int) | str (x:Str) | byt (b:Array UInt8) | flt (b:UInt64) | ref (a:Addr) | ty (n:String)
 deriving DecidableEq
def RelV:V->Value->Prop
 | .non,u=>u=Value.none
 | .bl b,u=>u=Value.bool b
 | .int i,u=>∃t,u=Value.int i t
 | .str x,u=>∃t,u=Value.str x t
 | .byt b,u=>∃t,u=Value.bytes b t
 | .flt b,u=>∃t,u=Value.float b t
 | .ref a,u=>u=Value.ref a
 | .ty n,u=>u=Value.type n
abbrev Vals:List V->List Value->Prop:=Paired RelV
theorem Vals.length{xs:List V}{us:List Value}(r:Vals xs us):xs.length=us.length:=Paired.length r
theorem Vals.get:∀{xs:List V} {us:List Value} {i:Nat} {x:V},Vals xs us->xs[i]? = some x->∃u,us[i]? = some u/\RelV x u
 | _,_,_,_,.nil,e=>by simp at e
 | _,_,0,_,.cons r _,e=>by simp at e;subst e;exact⟨_,rfl,r⟩
 | _,_,i+1,x,.cons _ t,e=>by
  obtain⟨u,h1,h2⟩:=Vals.get (i:=i) (x:=x) t (by simpa using e)
  exact⟨u,by simpa using h1,h2⟩
theorem Vals.set{x:V}{u:Value}(r:RelV x u):∀{xs:List V} {us:List Value} (i:Nat),Vals xs us->Vals (xs.set i x) (us.set i u)
 | _,_,_,.nil=>.nil
 | _,_,0,.cons _ t=>.cons r t
 | _,_,i+1,.cons q t=>.cons q (Vals.set r i t)
theorem Vals.append:∀{xs ys:List V} {us ws:List Value},Vals xs us->Vals ys ws->Vals (xs++ys) (us++ws)
 | _,_,_,_,.nil,s=>s
 | _,_,_,_,.cons r t,s=>.cons r (Vals.append t s)
theorem Vals.take:∀{xs:List V} {us:List Value} (n:Nat),Vals xs us->Vals (xs.take n) (us.take n)
 | _,_,0,_=>.nil
 | _,_,_+1,.nil=>.nil
 | _,_,n+1,.cons r t=>.cons r (Vals.take n t)
theorem Vals.drop:∀{xs:List V} {us:List Value} (n:Nat),Vals xs us->Vals (xs.drop n) (us.drop n)
 | _,_,0,r=>r
 | _,_,_+1,.nil=>.nil
 | _,_,n+1,.cons _ t=>Vals.drop n t
def RelO:Option V->Option Value->Prop
 | some v,some u=>RelV v u
 | none,none=>True
 | _,_=>False
def KV{κ:Type}:List (κ×V)->List (κ×Value)->Prop:=Paired fun(p:κ×V) (q:κ×Value)=>p.1=q.1/\RelV p.2 q.2
def kV:Key->V
 | .inl i=>.int i
 | .inr x=>.str x
inductive HO where
 | lst (xs:List V)
 | tup (xs:List V)
 | dK (kvs:List (Key×V)) | dT (kvs:List (List Key×V))
 | set (S:Int->Bool) (n:Nat)
 | ins (C dx:Addr) (fs:List (Str×V))
 | own (x:Addr)
 | xd (fs:List (Str×V))
 | met (f x:Addr)
 | rng (lo hi:Int)
 | frz (o:Obj) (u:HO)
 | tbl (ps:Array Value)
 | ext (φ:Heap->Prop)
abbrev Hp:=Addr->Option HO
def upd(H:Hp)(a:Addr)(o:HO):Hp:=fun b=>if b=a then some o else H b
theorem gb{H:Hp}{a:Addr}{o:HO}:upd H a o a=some o:=by unfold upd;rw[if_pos rfl]
theorem cj{H:Hp}{a b:Addr}{o:HO}(h:b≠a):upd H a o b=H b:=by unfold upd;rw[if_neg h]
theorem gn{H:Hp}{a b:Addr}{o:HO}(h:H a=some o)(h':H b=none):a≠b:=by
 intro e;subst e;rw[h] at h';cases h'
section
variable(P:Program)(w:World)
def ut(H:Hp)(h:Heap)(a:Addr):HO->Prop
 | .lst xs=>xs.length<=sizeLine/\∃(its:List Value) (n:Nat),Vals xs its/\h.get? a=some { cls:=.type "list", data:=.seq its.toArray n }
 | .tup xs=>xs.length<=sizeLine/\∃its:List Value,Vals xs its/\IsTp h a its.toArray
 | .dK kvs=>kvs.length<=sizeLine/\(a==sysModules)=false/\∃vs,KV kvs vs/\h.DictOf (agr P w) a vs
 | .dT kvs=>kvs.length<=sizeLine/\(a==sysModules)=false/\∃xs:List (List Key×Addr×Value),
   Paired (fun(p:List Key×V) (q:List Key×Addr×Value)=>p.1=q.1/\H q.2.1=some (.tup (p.1.map kV))/\RelV p.2 q.2.2) kvs xs /\
   ∃o es ep,h.get? a=some o/\o.ExactDict/\o.data=.dict es ep/\es.toList=xs.map (entryOfKey (tupleKind (agr P w)))/\(xs.map (·.1)).Nodup
 | .set S n=>h.SetOf (intKind P w) a S n
 | .ins C dx fs=>H dx=some (.own a)/\fs.length<=1000/\dx≠a/\h.get? a=some (PySem.W.instObj C dx) /\
   ∃mA,h.Ns1 dx mA/\(∀f,RelO (fs.lookup f) (mA f))/\PySem.Within mA (fs.map (·.1))
 | .own _=>∃o,h.get? a=some o
 | .xd fs=>∃mA,h.Ns1 a mA/\∀f,RelO (fs.lookup f) (mA f)
 | .rng lo hi=>∃t u v,h.get? a=some { cls:=.type "range", data:=.fields #[.int lo t,.int hi u,.int 1 v] }
 | .frz o u=>h.get? a=some o/\ut H h a u
 | .tbl ps=>h.get? a=some { cls:=.none,data:=.fields ps }
 | .met f x=>h.get? a=some (PySem.W.methodObj (.ref f) (.ref x))
 | .ext φ=>φ h/\(∃o,h.get? a=some o)/\∀h1 h2:Heap,φ h1->(∀o,h1.get? a=some o->h2.get? a=some o)->φ h2
def HOk(H:Hp)(h:Heap):Prop:=∀a o,H a=some o->ut P w H h a o
end
section
variable{P:Program}{w:World}{H H':Hp}{h h':Heap}{a:Addr}{o:HO}
theorem ut.lt(x:ut P w H h a o):a < h.objs.size:=by
 cases o with
 | lst xs=>obtain⟨_,_,_,_,e⟩:=x;exact Heap.lt_size e
 | tup xs=>obtain⟨_,_,_,p⟩:=x;exact p.tup.lt
 | dK kvs=>obtain⟨_,_,_,_,o,_,_,e,_⟩:=x;exact Heap.lt_size e
 | dT kvs=>obtain⟨_,_,_,_,o,_,_,e,_⟩:=x;exact Heap.lt_size e
 | set S n=>obtain⟨o,_,_,_,e,_⟩:=x;exact Heap.lt_size e
 | ins C dx fs=>obtain⟨_,_,_,e,_⟩:=x;exact Heap.lt_size e
 | own y=>obtain⟨_,e⟩:=x;exact Heap.lt_size e
 | xd fs=>obtain⟨_,⟨_,_,_,e,_⟩,_⟩:=x;exact Heap.lt_size e
 | rng lo hi=>obtain⟨_,_,_,e⟩:=x;exact Heap.lt_size e
 | frz ob u=>obtain⟨e,_⟩:=x;exact Heap.lt_size e
 | tbl ps=>exact Heap.lt_size (show h.get? a=some _ from x)
 | met f y=>exact Heap.lt_size (show h.get? a=some _ from x)
 | ext φ=>obtain⟨_,⟨_,e⟩,_⟩:=x;exact Heap.lt_size e
theorem Paired.mapP{α β:Type}{F G:α->β->Prop}:∀{l₁:List α} {l₂:List β},Paired F l₁ l₂->(∀a b,F a b->G a b)->Paired G l₁ l₂
 | _,_,.nil,_=>.nil
 | _,_,.cons r t,f=>.cons (f _ _ r) (Paired.mapP t f)
theorem ut.stay(x:ut P w H h a o)(k:∀b u,(b=a∨H b=some (.own a))->h.get? b=some u->h'.get? b=some u)
  (ho:∀b,H b=some (.own a)->H' b=some (.own a)) (ht:∀b xs,H b=some (.tup xs)->H' b=some (.tup xs)):ut P w H' h' a o:=by
 induction o with
 | lst xs=>obtain⟨z,its,n,r,e⟩:=x;exact⟨z,its,n,r,k _ _ (.inl rfl) e⟩
 | tup xs=>obtain⟨z,its,r,ob,e,c⟩:=x;exact⟨z,its,r,ob,k _ _ (.inl rfl) e,c⟩
 | dK kvs=>obtain⟨z,y,vs,r,ob,es,ep,e,c⟩:=x;exact⟨z,y,vs,r,ob,es,ep,k _ _ (.inl rfl) e,c⟩
 | dT kvs =>
  obtain⟨z,y,xs,r,ob,es,ep,e,c⟩:=x;exact⟨z,y,xs,Paired.mapP r fun p q z=>⟨z.1,ht _ _ z.2.1,z.2.2⟩,ob,es,ep,k _ _ (.inl rfl) e,c⟩
 | set S n=>obtain⟨ob,es,ep,t,e,c⟩:=x;exact⟨ob,es,ep,t,k _ _ (.inl rfl) e,c⟩
 | ins C dx fs =>
  obtain⟨d,z,ne,e,mA,⟨od,es,ep,e2,c⟩,r⟩:=x;exact⟨ho _ d,z,ne,k _ _ (.inl rfl) e,mA,⟨od,es,ep,k _ _ (.inr d) e2,c⟩,r⟩
 | own y=>obtain⟨ob,e⟩:=x;exact⟨ob,k _ _ (.inl rfl) e⟩
 | xd fs=>obtain⟨mA,⟨od,es,ep,e,c⟩,r⟩:=x;exact⟨mA,⟨od,es,ep,k _ _ (.inl rfl) e,c⟩,r⟩
 | rng lo hi=>obtain⟨t,u,v,e⟩:=x;exact⟨t,u,v,k _ _ (.inl rfl) e⟩
 | frz ob u ih=>obtain⟨e,q⟩:=x;exact⟨k _ _ (.inl rfl) e,ih q⟩
 | tbl ps =>
  have e:h.get? a=some { cls:=.none,data:=.fields ps }:=x;show h'.get? a=some { cls:=.none,data:=.fields ps };exact k a _ (.inl rfl) e
 | met f y =>
  have e:h.get? a=some (PySem.W.methodObj (.ref f) (.ref y)):=x;show h'.get? a=some (PySem.W.methodObj (.ref f) (.ref y));exact k a _ (.inl rfl) e
 | ext φ=>obtain⟨p,⟨o,e⟩,st⟩:=x;exact⟨st _ _ p fun o q=>k _ _ (.inl rfl) q,⟨o,k _ _ (.inl rfl) e⟩,st⟩
theorem HOk.lt(x:HOk P w H h)(e:H a=some o):a < h.objs.size:=(x a o e).lt
theorem HOk.fresh(x:HOk P w H h)(e:h.objs.size<=a):H a=none:=by
 cases q:H a with
 | none=>rfl
 | some u=>exact absurd (Nat.lt_of_lt_of_le (x.lt q) e) (Nat.lt_irrefl _)
theorem HOk.kept(x:HOk P w H h)(k:∀b u,h.get? b=some u->h'.get? b=some u):HOk P w H h':=fun a o e =>
 (x a o e).stay (fun b u _ q=>k b u q) (fun _ q=>q) fun _ _ q=>q
theorem HOk.laid(x:HOk P w H h)(k:∀b u,h.get? b=some u->h'.get? b=some u)(hp:h.objs.size<=a)(new:ut P w (upd H a o) h' a o):HOk P w (upd H a o) h':=fun b u e=>by
 have hn:=x.fresh hp
 by_cases hb:b=a
 ·subst hb;rw[gb] at e;cases e;exact new
 ·rw[cj hb] at e;exact(x b u e).stay (fun c v _ q=>k c v q) (fun c q=>by rw[cj (gn q hn)];exact q) fun c xs q=>by rw[cj (gn q hn)];exact q
end
def Rd(H:Hp)(a:Addr)(u:HO):Prop:=H a=some u∨∃o,H a=some (.frz o u)
theorem Rd.ok{P:Program}{w:World}{H:Hp}{h:Heap}{a:Addr}{u:HO}(r:Rd H a u)(x:HOk P w H h):ut P w H h a u:=by
 rcases r with r | ⟨o,r⟩
 ·exact x a u r
 ·obtain⟨_,q⟩:=x a _ r;exact q
def Mut:Option HO->Prop
 | some (.lst _)=>True
 | some (.dK _)=>True
 | some (.dT _)=>True
 | some (.set _ _)=>True
 | some (.ins _ _ _)=>True
 | some (.ext _)=>True
 | _=>False
section
variable{P:Program}{w:World}{H:Hp}{h h':Heap}{x e:Addr}{o':HO}
theorem HOk.write(ok:HOk P w H h)(mu:Mut (H x))(he:e=x∨H e=some (.own x))(k:∀b u,b≠e->h.get? b=some u->h'.get? b=some u)(heo:∃u,h'.get? e=some u)
  (new:ut P w (upd H x o') h' x o'):HOk P w (upd H x o') h':=fun b u q=>by
 have nown:∀c y,H c=some (.own y)->c≠x:=fun c y r z=>by subst z;rw[r] at mu;exact mu
 have ntup:∀c xs,H c=some (.tup xs)->c≠x:=fun c xs r z=>by subst z;rw[r] at mu;exact mu
 by_cases hb:b=x
 ·subst hb;rw[gb] at q;cases q;exact new
 ·rw[cj hb] at q
  by_cases hbe:b=e
  ·have q':H b=some (.own x):=by
    rcases he with z | z
    ·exact absurd (hbe.trans z) hb
    ·rw[hbe];exact z
   rw[q] at q';cases q';obtain⟨v,hv⟩:=heo;exact⟨v,by rw[hbe];exact hv⟩
  ·refine(ok b u q).stay (fun c v hc r=>k c v ?_ r) (fun c r=>by rw[cj (nown c b r)];exact r) fun c xs r=>by rw[cj (ntup c xs r)];exact r
   rcases hc with rfl | hc
   ·exact hbe
   ·rintro rfl
    rcases he with z | z
    ·exact nown c b hc z
    ·rw[hc] at z;cases z;exact hb rfl
end
structure Un (fs ex:List Addr) (H H':Hp) (h h':Heap):Prop where
 keep:∀b o,h.get? b=some o->H b=none->b∉fs->b∉ex->h'.get? b=some o
 slot:∀b o,h.get? b=some o->H b=none->b∈fs->b∉ex->∃sl,h'.get? b=some { o with slots:=sl }
 free:∀b o,h.get? b=some o->H b=none->b∉ex->H' b=none
 there:∀b o,h.get? b=some o->b∉ex->∃o',h'.get? b=some o'
 tups:∀b xs,H b=some (.tup xs)->H' b=some (.tup xs)
 frzs:∀b o u,H b=some (.frz o u)->H' b=some (.frz o u)
 tbls:∀b ps,H b=some (.tbl ps)->∃more,H' b=some (.tbl (ps++more))
section
variable{fs fs' ex ex':List Addr}{H H1 H2:Hp}{h h1 h2 h':Heap}{a x e:Addr}{o:HO}
theorem Un.any(u:Un fs ex H H1 h h1){b:Addr}{ob:Obj}(q:h.get? b=some ob)(n:H b=none)(hx:b∉ex):∃sl,h1.get? b=some { ob with slots:=sl }:=by
 by_cases hb:b∈fs
 ·exact u.slot b ob q n hb hx
 ·exact⟨ob.slots,u.keep b ob q n hb hx⟩
theorem Un.kept(k:∀b u,h.get? b=some u->h'.get? b=some u):Un fs ex H H h h' :=
 ⟨fun b ob q _ _ _=>k b ob q,fun b ob q _ _ _=>⟨ob.slots,k b ob q⟩,fun _ _ _ n _=>n,fun b ob q _=>⟨ob,k b ob q⟩,fun _ _ q=>q,fun _ _ _ q=>q,fun _ ps q=>⟨#[],by rw[q];simp⟩⟩
theorem Un.refl:Un fs ex H H h h:=Un.kept fun _ _ q=>q
theorem Un.laid(k:∀b u,h.get? b=some u->h'.get? b=some u)(hp:h.objs.size<=a)(hn:H a=none):Un fs ex H (upd H a o) h h' where
 keep:=fun b u q _ _ _=>k b u q
 slot:=fun b u q _ _ _=>⟨u.slots,k b u q⟩
 free:=fun b u q n _=>by rw[cj (Nat.ne_of_lt (Nat.lt_of_lt_of_le (Heap.lt_size q) hp))];exact n
 there:=fun b u q _=>⟨u,k b u q⟩
 tups:=fun b xs q=>by rw[cj (gn q hn)];exact q
 frzs:=fun b u xs q=>by rw[cj (gn q hn)];exact q
 tbls:=fun b ps q=>⟨#[],by rw[cj (gn q hn),q];simp⟩
theorem Un.write(mu:Mut (H x))(he:e=x∨H e=some (.own x))(k:∀b u,b≠e->h.get? b=some u->h'.get? b=some u)(heo:∃u,h'.get? e=some u):Un fs ex H (upd H x o) h h':=by
 have hx:∀b,H b=none->b≠x:=fun b n z=>by subst z;rw[n] at mu;exact mu
 have hb:∀b,H b=none->b≠e:=fun b n z=>by
  subst z;rcases he with r | r
  ·exact hx b n r
  ·rw[n] at r;cases r
 have hm:∀b u,H b=some u->¬Mut (some u)->b≠x:=fun b u q nm z=>by subst z;rw[q] at mu;exact nm mu
 refine⟨fun b u q n _ _=>k b u (hb b n) q,fun b u q n _ _=>⟨u.slots,k b u (hb b n) q⟩,fun b u q n _=>by rw[cj (hx b n)];exact n,fun b u q _ =>?_,
  fun b xs q=>by rw[cj (hm b _ q fun z=>z)];exact q,fun b u xs q=>by rw[cj (hm b _ q fun z=>z)];exact q,fun b ps q=>⟨#[],by rw[cj (hm b _ q fun z=>z),q];simp⟩⟩
 by_cases hbe:b=e
 ·subst hbe;exact heo
 ·exact⟨u,k b u hbe q⟩
end
def trk(h:Heap)(H:Hp):List Addr:=(List.range h.objs.size).filter fun a=>(H a).isSome
def hidT(h:Heap)(H:Hp):Heap:=PySem.W.hideAll h (trk h H)
theorem anx(h:Heap)(H:Hp):(hidT h H).objs.size=h.objs.size:=PySem.W.hideAll_size _ _
theorem aqq{h:Heap}{H:Hp}{b:Addr}{o:Obj}(e:h.get? b=some o)(n:H b=none):(hidT h H).get? b=some o :=
 PySem.W.hideAll_get _ e fun hm=>by
  have q:(H b).isSome=true:=(List.mem_filter.mp hm).2;rw[n] at q;simp at q
theorem atj{h:Heap}{H:Hp}{b:Addr}{o:Obj}(e:(hidT h H).get? b=some o):h.get? b=some o/\H b=none:=by
 have e':h.get? b=some o:=PySem.W.of_hideAll (trk h H) e;refine⟨e',?_⟩;cases q:H b with
 | none=>rfl
 | some x =>
  have hm:b∈trk h H:=List.mem_filter.mpr ⟨List.mem_range.mpr (Heap.lt_size e'),by simp[q]⟩
  have z:(hidT h H).get? b=none:=PySem.W.hideAll_none (trk h H) hm;rw[z] at e;cases e
def auu(g h:Heap)(L:Addr):List (Addr×Obj):=(List.range h.objs.size).filterMap fun a=>if a=L∨(g.get? a).isSome=true then none else (h.get? a).map fun o=>(a,o)
def rest(g h:Heap)(L d:Addr):List (Addr×Obj):=(auu g h L).filter fun p=>decide (p.1≠d)
structure Mod (K:Fg9) (mg:Str->Option Value) (base:Heap):Prop where
 kin:K.In base
 glob:base.Ns mainGlobals mg
 blt:∃mb,base.Ns builtinsNs mb/\∀x:Str,x ≠ "__name__" -> mb x=bootBuiltins x
 nolimit:base.NoLimit
structure Cx where
 prog:Program
 w:World
 K:Fg9
 mg:Str->Option Value
 base:Heap
 A:Around
 N:List Str
 s₀:Shared
 H₀:Hp
 env:Env
 outer:List Env
 stack:List Env
 ex:List Addr
 fn:Str->Bool
 calm:Bool
 pn:List (Addr×Obj)
 xe:Value->Shared->Prop
def frs(l:List Env):List Addr:=l.filterMap (·.frame)
abbrev Cx.fs(X:Cx):List Addr:=frs X.outer
def Vis(sc:Scope)(x:Str):Prop:=sc.names.lookup x=some .local∨sc.names.lookup x=some .cell∨sc.names.lookup x=some .free
def Loc(sc:Scope)(x:Str):Prop:=sc.names.lookup x=some .local∨sc.names.lookup x=some .cell
def Look(env:Env)(h:Heap)(m:Str->Option Value)(x:Str)(u:Value):Prop :=
 (env.kindOf x=some .local/\m x=some u)∨((env.kindOf x=some .cell∨env.kindOf x=some .free)/\∃c,env.cells.lookup x=some c/\h.IsCell c (some u))
structure Cx.Ok (X:Cx):Prop where
 mod:Mod X.K X.mg X.base
 kind:X.env.scope.kind=.function
 glob:X.env.globals=mainGlobals
 blt:X.env.builtins=builtinsNs
 above:X.s₀.heap.objs.size<=X.env.locals
 inj:∀x y c,X.env.cells.lookup x=some c->X.env.cells.lookup y=some c->x=y
 has:∀x,(X.env.kindOf x=some .cell∨X.env.kindOf x=some .free)->∃c,X.env.cells.lookup x=some c
 cab:∀x c,X.fn x=true->X.env.cells.lookup x=some c->X.s₀.heap.objs.size<=c
 hd:X.calm=true->X.A.handled=none
 frames:X.A.frames=some X.stack
 stk:X.stack=X.outer∨(X.stack=X.env::X.outer/\X.env.frame=some X.env.locals)
 exf:∀b∈X.ex,b≠X.env.locals/\∀x c,X.env.cells.lookup x=some c->c≠b
 bs:∀b o,X.base.get? b=some o->X.s₀.heap.get? b=some o/\X.H₀ b=none
 bsz:X.base.objs.size<=X.s₀.heap.objs.size
 noex:∀b o,X.base.get? b=some o->b∉X.ex
 exfs:∀b∈X.ex,b∉X.fs
 funs:X.s₀.heap.FunFrames X.base X.outer
 frf:∀b∈X.fs,X.H₀ b=none
structure Inv (X:Cx) (jv:List (Addr×Obj)) (σ:List (Option V)) (H:Hp) (s:Shared):Prop where
 ok:X.Ok
 os:s.os=X.s₀.os
 bare:AllBare s.gens
 base:Un X.fs X.ex X.H₀ H X.s₀.heap s.heap
 loc:∃m,s.heap.Ns X.env.locals m/\∀(i:Nat) (x:Str) (v:V),X.N[i]? = some x->σ[i]? = some (some v)->Vis X.env.scope x->∃u,RelV v u/\Look X.env s.heap m x u
 cell:∀x c,X.env.cells.lookup x=some c->∃v,s.heap.IsCell c v
 free:H X.env.locals=none
 freeC:∀x c,X.env.cells.lookup x=some c->H c=none
 pin:∀p∈X.pn++jv,s.heap.get? p.1=some p.2/\H p.1=none/\p.1≠X.env.locals/\p.1∉X.fs/\∀v,p.2.data≠.cell v
 hok:HOk X.prog X.w H s.heap
 len:σ.length=X.N.length
section
variable{X:Cx}{jv:List (Addr×Obj)}{σ:List (Option V)}{H H':Hp}{s:Shared}{h':Heap}
theorem Cx.Ok.nofr(ok:X.Ok){b:Addr}{o:Obj}(e:X.base.get? b=some o):b∉X.fs:=fun hb=>by
 have:=(ok.funs.mem hb).1;rw[e] at this;cases this
theorem Inv.bs(I:Inv X jv σ H s):∀b o,X.base.get? b=some o->s.heap.get? b=some o/\H b=none:=fun b o e =>
 ⟨I.base.keep b o (I.ok.bs b o e).1 (I.ok.bs b o e).2 (I.ok.nofr e) (I.ok.noex b o e),I.base.free b o (I.ok.bs b o e).1 (I.ok.bs b o e).2 (I.ok.noex b o e)⟩
theorem Inv.bk(I:Inv X jv σ H s):∀b o,X.base.get? b=some o->s.heap.get? b=some o:=fun b o e=>(I.bs b o e).1
theorem Inv.mod(I:Inv X jv σ H s):Mod X.K X.mg X.base:=I.ok.mod
theorem Inv.kIn(I:Inv X jv σ H s):X.K.In s.heap:=I.ok.mod.kin.keeps I.bk
theorem Inv.lt(I:Inv X jv σ H s):X.env.locals < s.heap.objs.size:=let ⟨_,hn,_⟩:=I.loc;hn.lt
theorem Inv.sz(I:Inv X jv σ H s):X.s₀.heap.objs.size<=s.heap.objs.size:=Nat.le_trans I.ok.above (Nat.le_of_lt I.lt)
theorem Inv.nofs(I:Inv X jv σ H s){a:Addr}(h:s.heap.objs.size<=a):a∉X.fs:=fun hb=>by
 obtain⟨_,o,ho,_⟩:=I.ok.funs.mem hb;exact absurd (Nat.lt_of_lt_of_le (Heap.lt_size ho) (Nat.le_trans I.sz h)) (Nat.lt_irrefl _)
theorem Inv.cne(I:Inv X jv σ H s):∀x c,X.env.cells.lookup x=some c->c≠X.env.locals:=fun x c e z=>by
 obtain⟨v,o,ho,hd⟩:=I.cell x c e;obtain⟨m,⟨o',es,ep,ho',hd',_⟩,_⟩:=I.loc;rw[z,ho'] at ho;cases ho;rw[hd'] at hd;cases hd
theorem Inv.funs(I:Inv X jv σ H s):s.heap.FunFrames X.base X.outer:=by
 have all:∀(l:List Env),(∀b∈frs l,b∈X.fs)->X.s₀.heap.FunFrames X.base l->s.heap.FunFrames X.base l:=by
  intro l
  induction l with
  | nil=>intro _ _;trivial
  | cons env r ih =>
   intro hs hl;obtain⟨hk,⟨L,o,hf,hn,ho,hd⟩,hr⟩:=hl;have hL:L∈X.fs:=hs L (by unfold frs;rw[List.filterMap_cons,hf];exact List.mem_cons_self)
   obtain⟨sl,e⟩:=I.base.slot L o ho (I.ok.frf L hL) hL fun z=>I.ok.exfs L z hL
   exact⟨hk,⟨L,_,hf,hn,e,hd⟩,ih (fun b hb=>hs b (by unfold frs;rw[List.filterMap_cons,hf];exact List.mem_cons_of_mem _ hb)) hr⟩
 exact all X.outer (fun _ hb=>hb) I.ok.funs
theorem Inv.stack(I:Inv X jv σ H s):s.heap.FunFrames X.base X.stack:=by
 rcases I.ok.stk with e | ⟨e,hf⟩
 ·rw[e];exact I.funs
 ·rw[e];obtain⟨m,hn,_⟩:=I.loc;refine .cons (by rw[I.ok.kind];decide) hf hn ?_ I.funs
  exact Heap.get?_none_of_le (Nat.le_trans I.ok.bsz I.ok.above)
theorem Inv.stkSub(I:Inv X jv σ H s):∀b∈frs X.stack,b∈X.env.locals::X.fs:=fun b hb=>by
 rcases I.ok.stk with e | ⟨e,hf⟩
 ·rw[e] at hb;exact List.mem_cons_of_mem _ hb
 ·rw[e] at hb;unfold frs at hb;rw[List.filterMap_cons,hf] at hb;exact hb
theorem Inv.stkFree(I:Inv X jv σ H s):∀b∈frs X.stack,H b=none:=fun b hb=>by
 rcases List.mem_cons.mp (I.stkSub b hb) with e | hb
 ·rw[e];exact I.free
 ·obtain⟨_,o,ho,_⟩:=I.ok.funs.mem hb;exact I.base.free b o ho (I.ok.frf b hb) fun z=>I.ok.exfs b z hb
theorem Inv.step{g':Array GenState}{t':Nat}{d':Drawn}{ch:List Addr}(I:Inv X jv σ H s)
  (hch:∀b∈ch,(b∈X.ex∨X.s₀.heap.objs.size<=b)/\b≠X.env.locals/\(∀x c,X.env.cells.lookup x=some c->c≠b)/\∀p∈X.pn++jv,p.1≠b)
  (keep:∀b o,b≠X.env.locals->b∉X.fs->b∉ch->s.heap.get? b=some o->H b=none->h'.get? b=some o)
  (slot:∀b o,b≠X.env.locals->b∈X.fs->b∉ch->s.heap.get? b=some o->H b=none->∃sl,h'.get? b=some { o with slots:=sl }) (free:∀b o,b∉ch->s.heap.get? b=some o->H b=none->H' b=none)
  (there:∀b o,b∉ch->s.heap.get? b=some o->∃o',h'.get? b=some o')
  (tups:∀b xs,H b=some (.tup xs)->H' b=some (.tup xs)) (frzs:∀b o u,H b=some (.frz o u)->H' b=some (.frz o u)) (tbls:∀b ps,H b=some (.tbl ps)->∃more,H' b=some (.tbl (ps++more)))
  (ns:∀m,s.heap.Ns X.env.locals m->h'.Ns X.env.locals m) (hok:HOk X.prog X.w H' h') (hg:AllBare g') :
  Inv X jv σ H' { s with heap:=h',gens:=g',drawn:=d',toks:=t' }:=by
 have neL:∀b o,X.s₀.heap.get? b=some o->b≠X.env.locals:=fun b o e=>Nat.ne_of_lt (Nat.lt_of_lt_of_le (Heap.lt_size e) I.ok.above)
 have neC:∀b o,X.s₀.heap.get? b=some o->b∉X.ex->b∉ch:=fun b o e hx hb=>by
  rcases(hch b hb).1 with z | z
  ·exact hx z
  ·exact absurd (Nat.lt_of_lt_of_le (Heap.lt_size e) z) (Nat.lt_irrefl _)
 have cellK:∀x c,X.env.cells.lookup x=some c->∀v,s.heap.IsCell c v->h'.IsCell c v:=fun x c e v hq0=>by
  obtain⟨o,ho,hd⟩:=hq0;have nch:c∉ch:=fun z=>(hch c z).2.2.1 x c e rfl
  by_cases hc:c∈X.fs
  ·obtain⟨sl,q⟩:=slot c o (I.cne x c e) hc nch ho (I.freeC x c e);exact⟨_,q,hd⟩
  ·exact⟨o,keep c o (I.cne x c e) hc nch ho (I.freeC x c e),hd⟩
 refine⟨I.ok,I.os,hg,⟨fun b o e n hb hx =>?_,fun b o e n hb hx =>?_,fun b o e n hx =>?_,fun b o e hx =>?_,fun b xs e=>tups b xs (I.base.tups b xs e),fun b o xs e=>frzs b o xs (I.base.frzs b o xs e),fun b ps e =>?_⟩,?_,fun x c e =>?_,?_,fun x c e =>?_,fun p hp =>?_,hok,I.len⟩
 ·exact keep b o (neL b o e) hb (neC b o e hx) (I.base.keep b o e n hb hx) (I.base.free b o e n hx)
 ·obtain⟨sl,e1⟩:=I.base.slot b o e n hb hx;obtain⟨sl',e2⟩:=slot b _ (neL b o e) hb (neC b o e hx) e1 (I.base.free b o e n hx);exact⟨sl',e2⟩
 ·obtain⟨o',e1⟩:=I.base.there b o e hx;exact free b o' (neC b o e hx) e1 (I.base.free b o e n hx)
 ·obtain⟨o',e1⟩:=I.base.there b o e hx;exact there b o' (neC b o e hx) e1
 ·obtain⟨m1,e1⟩:=I.base.tbls b ps e;obtain⟨m2,e2⟩:=tbls b _ e1;exact⟨m1++m2,by rw[e2,Array.append_assoc]⟩
 ·obtain⟨m,hn,hl⟩:=I.loc;refine⟨m,ns m hn,fun i x v e1 e2 e3 =>?_⟩
  obtain⟨u,r,l⟩:=hl i x v e1 e2 e3;refine⟨u,r,?_⟩;rcases l with l | ⟨k,c,e,z⟩
  ·exact .inl l
  ·exact .inr ⟨k,c,e,cellK x c e _ z⟩
 ·obtain⟨v,z⟩:=I.cell x c e;exact⟨v,cellK x c e v z⟩
 ·obtain⟨m,⟨o,_,_,ho,_⟩,_⟩:=I.loc;exact free _ o (fun z=>(hch _ z).2.1 rfl) ho I.free
 ·obtain⟨v,o,ho,hd⟩:=I.cell x c e;exact free c o (fun z=>(hch c z).2.2.1 x c e rfl) ho (I.freeC x c e)
 ·obtain⟨e,n,ne,nf,d⟩:=I.pin p hp;have nch:p.1∉ch:=fun z=>(hch p.1 z).2.2.2 p hp rfl
  exact⟨keep p.1 p.2 ne nf nch e n,free p.1 p.2 nch e n,ne,nf,d⟩
theorem Inv.un{t':Nat}(I:Inv X jv σ H s)(u:Un X.fs [] H H' s.heap h')(hok:HOk X.prog X.w H' h'):Inv X jv σ H' { s with heap:=h',toks:=t' }:=by
 obtain⟨m,⟨o,es,ep,ho,r⟩,_⟩:=id I.loc;obtain⟨sl,hL⟩:=u.any ho I.free (by simp)
 exact I.step (g':=s.gens) (d':=s.drawn) (ch:=[]) (fun _ z=>nomatch z) (fun b o _ hb _ e n=>u.keep b o e n hb (by simp)) (fun b o _ hb _ e n=>u.slot b o e n hb (by simp)) (fun b o _ e n=>u.free b o e n (by simp)) (fun b o _ e=>u.there b o e (by simp)) u.tups u.frzs u.tbls (fun m' hm=>by
  obtain⟨o',es',ep',ho',r'⟩:=hm;rw[ho] at ho';cases ho';exact⟨_,es',ep',hL,r'⟩) hok I.bare
theorem Inv.call{g':Array GenState}{t':Nat}{d':Drawn}{ch:List Addr}(I:Inv X jv σ H s)(u:Un (frs X.stack) ch H H' s.heap h')(hok:HOk X.prog X.w H' h')(hg:AllBare g')
  (hch:∀b∈ch,(b∈X.ex∨X.s₀.heap.objs.size<=b)/\b≠X.env.locals/\(∀x c,X.env.cells.lookup x=some c->c≠b)/\∀p∈X.pn++jv,p.1≠b) :
  Inv X jv σ H' { s with heap:=h',gens:=g',drawn:=d',toks:=t' }:=by
 obtain⟨m,⟨o,es,ep,ho,r⟩,_⟩:=id I.loc;obtain⟨sl,hL⟩:=u.any ho I.free fun z=>(hch _ z).2.1 rfl
 exact I.step (ch:=ch) hch (fun b o hL hb hc e n=>u.keep b o e n (fun z=>(List.mem_cons.mp (I.stkSub b z)).elim hL hb) hc) (fun b o _ _ hc e n=>u.any e n hc) (fun b o hc e n=>u.free b o e n hc) (fun b o hc e=>u.there b o e hc) u.tups u.frzs u.tbls (fun m' hm=>by
  obtain⟨o',es',ep',ho',r'⟩:=hm;rw[ho] at ho';cases ho';exact⟨_,es',ep',hL,r'⟩) hok hg
theorem Inv.turned{t':Nat}{it:Addr}(I:Inv X jv σ H s)(k:∀b o,b≠it->s.heap.get? b=some o->h'.get? b=some o)(hn:H it=none)(hL:it≠X.env.locals)
  (h1:it∈X.ex∨X.s₀.heap.objs.size<=it) (h2:∀x c,X.env.cells.lookup x=some c->c≠it) (h3:∀p∈X.pn++jv,p.1≠it):Inv X jv σ H { s with heap:=h',toks:=t' }:=by
 have nit:∀b u,H b=some u->b≠it:=fun b u e z=>by rw[z,hn] at e;cases e
 refine I.step (g':=s.gens) (d':=s.drawn) (ch:=[it]) (fun b hb =>?_) (fun b o _ _ hc e _=>k b o (fun z=>hc (by simp[z])) e) (fun b o _ _ hc e _=>⟨o.slots,k b o (fun z=>hc (by simp[z])) e⟩) (fun _ _ _ _ n=>n)
  (fun b o hc e=>⟨o,k b o (fun z=>hc (by simp[z])) e⟩) (fun _ _ e=>e) (fun _ _ _ e=>e) (fun b ps e=>⟨#[],by rw[e];simp⟩) (fun m hm =>?_) (fun b u e =>?_) I.bare
 ·have e:b=it:=by simpa using hb
  subst e;exact⟨h1,hL,h2,h3⟩
 ·obtain⟨o,es,ep,ho,r⟩:=hm;exact⟨o,es,ep,k _ o (Ne.symm hL) ho,r⟩
 ·refine(I.hok b u e).stay (fun c v hc q=>k c v ?_ q) (fun _ q=>q) fun _ _ q=>q
  rcases hc with z | z
  ·rw[z];exact nit b u e
  ·exact nit c _ z
theorem Inv.tok(I:Inv X jv σ H s)(t:Nat):Inv X jv σ H { s with toks:=t }:=I.un (h':=s.heap) (t':=t) Un.refl I.hok
theorem Inv.kept{t':Nat}(I:Inv X jv σ H s)(k:∀b u,s.heap.get? b=some u->h'.get? b=some u):Inv X jv σ H { s with heap:=h',toks:=t' }:=I.un (Un.kept k) (I.hok.kept k)
theorem Inv.laid{a:Addr}{o:HO}{t':Nat}(I:Inv X jv σ H s)(k:∀b u,s.heap.get? b=some u->h'.get? b=some u)(hp:s.heap.objs.size<=a)(new:ut X.prog X.w (upd H a o) h' a o) :
  Inv X jv σ (upd H a o) { s with heap:=h',toks:=t' }:=I.un (Un.laid k hp (I.hok.fresh hp)) (I.hok.laid k hp new)
theorem Inv.write{x e:Addr}{o:HO}{t':Nat}(I:Inv X jv σ H s)(mu:Mut (H x))(he:e=x∨H e=some (.own x))(k:∀b u,b≠e->s.heap.get? b=some u->h'.get? b=some u)(heo:∃u,h'.get? e=some u)
  (new:ut X.prog X.w (upd H x o) h' x o):Inv X jv σ (upd H x o) { s with heap:=h',toks:=t' }:=I.un (Un.write mu he k heo) (I.hok.write mu he k heo new)
theorem Inv.pins_of{pins':List (Addr×Obj)}(I:Inv X jv σ H s)(h:∀p∈pins',s.heap.get? p.1=some p.2/\H p.1=none/\p.1≠X.env.locals/\p.1∉X.fs/\∀v,p.2.data≠.cell v):Inv X pins' σ H s :=
 ⟨I.ok,I.os,I.bare,I.base,I.loc,I.cell,I.free,I.freeC,fun p hp=>(List.mem_append.mp hp).elim (fun z=>I.pin p (List.mem_append_left _ z)) (h p),I.hok,I.len⟩
theorem akb{N:List Str}(hN:N.Nodup){i j:Nat}{x:Str}(a:N[i]? = some x)(b:N[j]? = some x):i=j:=by
 obtain⟨h1,e1⟩:=List.getElem?_eq_some_iff.mp a;obtain⟨h2,e2⟩:=List.getElem?_eq_some_iff.mp b;exact(List.getElem_inj hN).mp (e1.trans e2.symm)
theorem aha{M:Model}{A:Around}{E:Value->Shared->Prop}{i:Nat}{x:Str}{v:V}{u:Value}{Q:Unit->Shared->Prop}(I:Inv X jv σ H s)(hN:X.N.Nodup)(hi:X.N[i]? = some x)(hx:Loc X.env.scope x)(r:RelV v u)
  (h:∀s',Inv X jv (σ.set i (some v)) H s'->(∃a,Heap.SameBut a s.heap s'.heap/\(a=X.env.locals∨X.env.cells.lookup x=some a))->Q () s') (hf:X.fn x=true∨X.env.scope.names.lookup x=some .local:=by first | exact .inl rfl | exact .inr rfl | assumption):wpAny M A (storeName X.env x u) Q E s:=by
 obtain⟨m,hn,hl⟩:=id I.loc;have hcls:(X.env.scope.kind==.class||(X.env.scope.kind==.module&&X.env.locals != X.env.globals))=false:=by rw[I.ok.kind];rfl
 have hiσ:i < σ.length:=by rw[I.len];exact(List.getElem?_eq_some_iff.mp hi).1
 have cne:=I.cne;have tracked:∀{a:Addr} {h':Heap},(∃o,s.heap.get? a=some o/\H a=none)->Heap.SameBut a s.heap h'->HOk X.prog X.w H h':=fun{a h'} ha hs b ob e=>by
  obtain⟨_,_,hfree⟩:=ha;refine(I.hok b ob e).stay (fun c w' hc q=>(hs.2 c ?_).trans q) (fun _ q=>q) fun _ _ q=>q
  rintro rfl
  rcases hc with rfl | hc
  ·rw[hfree] at e;cases e
  ·rw[hfree] at hc;cases hc
 rcases hx with hk | hk
 ·refine wpAny_storeName_local hk hn (fun h' hn' hs =>?_) hcls
  obtain⟨oL,_,_,hoL,_⟩:=id hn;refine h _ ⟨I.ok,I.os,I.bare,⟨fun b o e n hb hx =>?_,fun b o e n hb hx =>?_,I.base.free,fun b o e hx =>?_,I.base.tups,I.base.frzs,I.base.tbls⟩,⟨_,hn',fun j y v' e1 e2 e3 =>?_⟩,fun y c e =>?_,I.free,I.freeC,fun p hp =>?_,tracked ⟨oL,hoL,I.free⟩ hs,by simpa using I.len⟩ ⟨_,hs,.inl rfl⟩
  ·exact(hs.2 b (Nat.ne_of_lt (Nat.lt_of_lt_of_le (Heap.lt_size e) I.ok.above))).trans (I.base.keep b o e n hb hx)
  ·obtain⟨sl,e1⟩:=I.base.slot b o e n hb hx;exact⟨sl,(hs.2 b (Nat.ne_of_lt (Nat.lt_of_lt_of_le (Heap.lt_size e) I.ok.above))).trans e1⟩
  ·obtain⟨o',e1⟩:=I.base.there b o e hx;exact⟨o',(hs.2 b (Nat.ne_of_lt (Nat.lt_of_lt_of_le (Heap.lt_size e) I.ok.above))).trans e1⟩
  ·by_cases hj:j=i
   ·subst hj;rw[hi] at e1;cases e1;rw[List.getElem?_set_self hiσ] at e2;cases e2;exact⟨u,r,.inl ⟨hk,by simp⟩⟩
   ·rw[List.getElem?_set_ne (Ne.symm hj)] at e2;obtain⟨u',r',q⟩:=hl j y v' e1 e2 e3;refine⟨u',r',?_⟩;rcases q with⟨k,e⟩ | ⟨k,c,e,z⟩
    ·refine .inl ⟨k,?_⟩;have:y≠x:=fun e=>hj (akb hN e1 (e▸hi))
     simp[this,e]
    ·exact .inr ⟨k,c,e,z.sameBut hs (cne y c e)⟩
  ·obtain⟨w',z⟩:=I.cell y c e;exact⟨w',z.sameBut hs (cne y c e)⟩
  ·obtain⟨e,n,ne,nf,d⟩:=I.pin p hp;exact⟨(hs.2 p.1 ne).trans e,n,ne,nf,d⟩
 ·have hfn:X.fn x=true:=by
   rcases hf with z | z
   ·exact z
   ·rw[z] at hk;cases hk
  obtain⟨c,hc⟩:=I.ok.has x (.inl hk);obtain⟨w',z⟩:=I.cell x c hc;refine wpAny_storeName_cell I.ok.kind hk hc z (fun h' hc' hs =>?_)
  obtain⟨oc,hoc,hocd⟩:=id z;refine h { s with heap:=h' } ⟨I.ok,I.os,I.bare,⟨fun b o e n hb hx =>?_,fun b o e n hb hx =>?_,I.base.free,fun b o e hx =>?_,I.base.tups,I.base.frzs,I.base.tbls⟩,⟨m,hn.sameBut hs (Ne.symm (cne x c hc)),fun j y v' e1 e2 e3 =>?_⟩,fun y c' e =>?_,I.free,I.freeC,fun p hp =>?_,tracked ⟨oc,hoc,I.freeC x c hc⟩ hs,by simpa using I.len⟩ ⟨c,hs,.inr hc⟩
  ·exact(hs.2 b (Nat.ne_of_lt (Nat.lt_of_lt_of_le (Heap.lt_size e) (I.ok.cab x c hfn hc)))).trans (I.base.keep b o e n hb hx)
  ·obtain⟨sl,e1⟩:=I.base.slot b o e n hb hx;exact⟨sl,(hs.2 b (Nat.ne_of_lt (Nat.lt_of_lt_of_le (Heap.lt_size e) (I.ok.cab x c hfn hc)))).trans e1⟩
  ·obtain⟨o',e1⟩:=I.base.there b o e hx;exact⟨o',(hs.2 b (Nat.ne_of_lt (Nat.lt_of_lt_of_le (Heap.lt_size e) (I.ok.cab x c hfn hc)))).trans e1⟩
  ·by_cases hj:j=i
   ·subst hj;rw[hi] at e1;cases e1;rw[List.getElem?_set_self hiσ] at e2;cases e2;exact⟨u,r,.inr ⟨.inl hk,c,hc,hc'⟩⟩
   ·rw[List.getElem?_set_ne (Ne.symm hj)] at e2;obtain⟨u',r',q⟩:=hl j y v' e1 e2 e3;refine⟨u',r',?_⟩;rcases q with q | ⟨k,c',e,z'⟩
    ·exact .inl q
    ·refine .inr ⟨k,c',e,z'.sameBut hs ?_⟩
     rintro rfl
     exact hj (akb hN e1 (I.ok.inj _ _ _ e hc▸hi))
  ·by_cases hcc:c'=c
   ·subst hcc;exact⟨_,hc'⟩
   ·obtain⟨w2,z2⟩:=I.cell y c' e;exact⟨w2,z2.sameBut hs hcc⟩
  ·obtain⟨e,n,ne,nf,d⟩:=I.pin p hp;refine⟨(hs.2 p.1 ?_).trans e,n,ne,nf,d⟩;intro q;rw[q,hoc] at e;have q':oc=p.2:=Option.some.inj e;exact d w' (by rw[<-q'];exact hocd)
theorem af7{M:Model}{A:Around}{E:Value->Shared->Prop}{i:Nat}{x:Str}{v:V}{u:Value}{Q:Unit->Shared->Prop}(I:Inv X jv σ H s)(hN:X.N.Nodup)(hi:X.N[i]? = some x)(hx:Loc X.env.scope x)(r:RelV v u)
  (h:∀s',Inv X jv (σ.set i (some v)) H s'->Q () s') (hf:X.fn x=true∨X.env.scope.names.lookup x=some .local:=by first | exact .inl rfl | exact .inr rfl | assumption):wpAny M A (storeName X.env x u) Q E s :=
 aha I hN hi hx r (fun s' I' _=>h s' I') hf
theorem Inv.call'{s':Shared}{ch:List Addr}(I:Inv X jv σ H s)(ho:s'.os=s.os)(u:Un (frs X.stack) ch H H' s.heap s'.heap)(hok:HOk X.prog X.w H' s'.heap)(hg:AllBare s'.gens)
  (hch:∀b∈ch,(b∈X.ex∨X.s₀.heap.objs.size<=b)/\b≠X.env.locals/\(∀x c,X.env.cells.lookup x=some c->c≠b)/\∀p∈X.pn++jv,p.1≠b):Inv X jv σ H' s':=by
 obtain⟨h',g',d',t',o'⟩:=s';have e:o'=s.os:=ho;subst e;exact I.call (g':=g') (t':=t') (d':=d') u hok hg hch
end
abbrev XK:=Value->Option Addr->Hp->Prop
abbrev St:=List (Option V)
abbrev VK:=V->Hp->Prop
abbrev TE:=St->Hp->VK->Prop
abbrev TT:=St->Hp->(Bool->Hp->Prop)->Prop
abbrev TA:=St->Hp->(List V->Hp->Prop)->Prop
structure Ends where
 nx:St->Hp->Prop
 rt:VK
 bk:St->Hp->Prop:=fun _ _=>False
 ct:St->Hp->Prop:=fun _ _=>False
abbrev TS:=Ends->St->Hp->Prop
def EP(X:Cx)(jv:List (Addr×Obj))(σ:St)(Q:VK)(u:Value)(s':Shared):Prop:=∃v H',Inv X jv σ H' s'/\RelV v u/\Q v H'
def TP(X:Cx)(jv:List (Addr×Obj))(σ:St)(Q:Bool->Hp->Prop)(b:Bool)(s':Shared):Prop:=∃H',Inv X jv σ H' s'/\Q b H'
def AP(X:Cx)(jv:List (Addr×Obj))(σ:St)(Q:List V->Hp->Prop)(us:List Value)(s':Shared):Prop:=∃vs H',Inv X jv σ H' s'/\Vals vs us/\Q vs H'
def SP(X:Cx)(jv:List (Addr×Obj))(D:Ends)(f:Flow)(s':Shared):Prop :=
 match f with
 | .next=>∃σ' H',Inv X jv σ' H' s'/\D.nx σ' H'
 | .brk=>∃σ' H',Inv X jv σ' H' s'/\D.bk σ' H'
 | .cont=>∃σ' H',Inv X jv σ' H' s'/\D.ct σ' H'
 | .ret u=>∃v σ' H',Inv X jv σ' H' s'/\RelV v u/\D.rt v H'
def PE(X:Cx)(e:Expr)(t:TE):Prop :=
 ∀(jv:List (Addr×Obj)) (s:Shared) (σ:St) (H:Hp) (Q:VK),Inv X jv σ H s->t σ H Q->wpAny (model X.prog X.w) X.A (eval e X.env) (EP X jv σ Q) X.xe s
def PT(X:Cx)(e:Expr)(t:TT):Prop :=
 ∀(jv:List (Addr×Obj)) (s:Shared) (σ:St) (H:Hp) (Q:Bool->Hp->Prop),Inv X jv σ H s->t σ H Q->wpAny (model X.prog X.w) X.A (isTrue e X.env (eval e X.env)) (TP X jv σ Q) X.xe s
def PW(X:Cx)(e:Expr)(t:TT):Prop :=
 ∀(whole:Sem Value) (jv:List (Addr×Obj)) (s:Shared) (σ:St) (H:Hp) (Q:Bool->Hp->Prop),Inv X jv σ H s->t σ H Q->wpAny (model X.prog X.w) X.A (isTrue e X.env whole) (TP X jv σ Q) X.xe s
theorem PW.pt{X:Cx}{e:Expr}{t:TT}(h:PW X e t):PT X e t:=h _
def PA(X:Cx)(es:List Expr)(t:TA):Prop :=
 ∀(pos:Pos) (jv:List (Addr×Obj)) (s:Shared) (σ:St) (H:Hp) (Q:List V->Hp->Prop),Inv X jv σ H s->t σ H Q->wpAny (model X.prog X.w) X.A (spliced (backTo pos (starEach es X.env))) (AP X jv σ Q) X.xe s
def PS(X:Cx)(st:Stmt)(t:TS):Prop :=
 ∀(jv:List (Addr×Obj)) (s:Shared) (σ:St) (H:Hp) (D:Ends),Inv X jv σ H s->t D σ H->wpAny (model X.prog X.w) X.A (exec st X.env) (SP X jv D) X.xe s
def PSs(X:Cx)(st:List Stmt)(t:TS):Prop :=
 ∀(jv:List (Addr×Obj)) (s:Shared) (σ:St) (H:Hp) (D:Ends),Inv X jv σ H s->t D σ H->wpAny (model X.prog X.w) X.A (execs st X.env) (SP X jv D) X.xe s
theorem thn{α:Type}{t:Sem α}{Q Q':α->Shared->Prop}{M:Model}{A:Around}{E:Value->Shared->Prop}{s:Shared}(h:wpAny M A t Q E s)(hQ:∀a s,Q a s->Q' a s):wpAny M A t Q' E s:=wpAny_mono h hQ fun _ _ x=>x
section
variable{X:Cx}
def tVar(i:Nat):TE:=fun σ H Q=>∃v,σ[i]? = some (some v)/\Q v H
def tC(v:V):TE:=fun _ H Q=>Q v H
theorem avt{i:Nat}{x:Str}{pos:Pos}(hN:X.N[i]? = some x)(hv:Vis X.env.scope x)(hd:(x==("__debug__" : Str))=false:=by decide)(hcd:(x==("__classdict__" : Str))=false:=by decide):PE X (.Name x pos) (tVar i):=by
 intro jv s σ H Q I h;obtain⟨v,e,h⟩:=h;obtain⟨m,hn,hl⟩:=I.loc;obtain⟨u,r,l⟩:=hl i x v hN e hv;have fin:EP X jv σ Q u s:=⟨v,H,I,r,h⟩;rcases l with⟨hk,hm⟩ | ⟨hk,c,hc,hcell⟩
 ·exact wpAny_Name (wpAny_loadName_local I.ok.kind hk hn hm fin) hd
 ·rcases hk with hk | hk
  ·exact wpAny_Name (wpAny_loadName_cell I.ok.kind hk hc hcell fin) hd
  ·exact wpAny_Name (wpAny_loadName_free I.ok.kind hk hc hcell fin hcd) hd
theorem av1{i j pos}:PE X (.Constant (.int i) j pos) (tC (.int i)):=fun _ _ _ H _ I h=>wpAny_Constant_int ⟨.int i,H,I.tok _,⟨_,rfl⟩,h⟩
theorem ay8{b j pos}:PE X (.Constant (.bool b) j pos) (tC (.bl b)):=fun _ _ _ H _ I h=>Constant_bool ⟨.bl b,H,I,rfl,h⟩
theorem avz{j pos}:PE X (.Constant .none j pos) (tC .non):=fun _ _ _ H _ I h=>Constant_none ⟨.non,H,I,rfl,h⟩
theorem avv{x j pos}:PE X (.Constant (.str x) j pos) (tC (.str x)):=fun _ _ _ H _ I h=>Calls.Constant_str ⟨.str x,H,I.tok _,⟨_,rfl⟩,h⟩
def Gl(X:Cx)(x:Str):Prop:=X.env.kindOf x=some .globalImplicit
theorem atu{E:Value->Shared->Prop}{jv:List (Addr×Obj)}{s:Shared}{σ:St}{H:Hp}{x:Str}{u:Value}{pos:Pos}{Q:Value->Shared->Prop}(I:Inv X jv σ H s)(hg:Gl X x)(hm:X.mg x=some u)(h:Q u s)
  (hd:(x==("__debug__" : Str))=false:=by decide):wpAny (model X.prog X.w) X.A (eval (.Name x pos) X.env) Q E s :=
 Calls.Name_function_global I.ok.kind hg (Calls.loadGlobal_global (by rw[I.ok.glob];exact I.mod.glob.keeps I.bk) hm h) hd
theorem afq{E:Value->Shared->Prop}{jv:List (Addr×Obj)}{s:Shared}{σ:St}{H:Hp}{x:Str}{u:Value}{pos:Pos}{Q:Value->Shared->Prop}(I:Inv X jv σ H s)(hg:Gl X x)(hm:X.mg x=none)(hv:bootBuiltins x=some u)(h:Q u s)
  (hn:x ≠ "__name__" := by decide) (hd:(x==("__debug__" : Str))=false:=by decide):wpAny (model X.prog X.w) X.A (eval (.Name x pos) X.env) Q E s:=by
 obtain⟨mb,h1,h2⟩:=I.mod.blt;exact Calls.Name_function_global I.ok.kind hg (Calls.loadGlobal_builtin (by rw[I.ok.glob];exact I.mod.glob.keeps I.bk) hm (by rw[I.ok.blt];exact h1.keeps I.bk) ((h2 x hn).trans hv) h) hd
theorem ate{x:Str}{v:V}{u:Value}{pos:Pos}(hg:Gl X x)(hm:X.mg x=none)(hv:bootBuiltins x=some u)(r:RelV v u)(hn:x ≠ "__name__" := by decide)(hd:(x==("__debug__" : Str))=false:=by decide):PE X (.Name x pos) (tC v) :=
 fun _ _ _ H _ I h=>afq I hg hm hv ⟨v,H,I,r,h⟩ hn hd
variable{a b:Expr}{ta tb:TE}{pos:Pos}
def tB(t:TE):TT:=fun σ H Q=>t σ H fun x H1=>∃c,x=.bl c/\Q c H1
theorem avk{e:Expr}{t:TE}(h:PE X e t)(he:∀whole,isTrue e X.env whole=(do let v <-whole;standAt e.pos;holding [v] (truthy v)):=by intro _;rfl):PT X e (tB t):=by
 intro jv s σ H Q I hw;refine isTrue_plain (thn (h jv s σ H _ I hw) fun v s1 ⟨x,H1,I1,r1,q1⟩ =>?_) (he _)
 obtain⟨d,rfl,q⟩:=q1;cases r1;exact wpAny_truthy_bool ⟨H1,I1,q⟩
variable{tA tB':TT}{rest:List Expr}
def tAnd(t u:TT):TT:=fun σ H Q=>t σ H fun c H1=>if c=true then u σ H1 Q else Q false H1
def tOr(t u:TT):TT:=fun σ H Q=>t σ H fun c H1=>if c=true then Q true H1 else u σ H1 Q
def tNot(t:TT):TT:=fun σ H Q=>t σ H fun c H1=>Q (!c) H1
theorem ass(ha:PT X a tA):PW X (.BoolOp .And [a] pos) tA:=by
 intro wh jv s σ H Q I h;refine isTrue_and (thn (ha jv s σ H Q I h) fun c s1 e =>?_)
 cases c with
 | true=>exact isTrue_and_nil e
 | false=>exact e
theorem avf(ha:PT X a tA):PW X (.BoolOp .Or [a] pos) tA:=by
 intro wh jv s σ H Q I h;refine isTrue_or (thn (ha jv s σ H Q I h) fun c s1 e =>?_)
 cases c with
 | false=>exact isTrue_or_nil e
 | true=>exact e
theorem avh(ha:PT X a tA)(hb:PW X (.BoolOp .And (b::rest) pos) tB'):PW X (.BoolOp .And (a::b::rest) pos) (tAnd tA tB'):=by
 intro wh jv s σ H Q I h;refine isTrue_and (thn (ha jv s σ H _ I h) fun c s1 ⟨H1,I1,q1⟩ =>?_)
 cases c with
 | true=>exact hb wh jv s1 σ H1 Q I1 q1
 | false=>exact⟨H1,I1,q1⟩
theorem ayz(ha:PT X a tA)(hb:PW X (.BoolOp .Or (b::rest) pos) tB'):PW X (.BoolOp .Or (a::b::rest) pos) (tOr tA tB'):=by
 intro wh jv s σ H Q I h;refine isTrue_or (thn (ha jv s σ H _ I h) fun c s1 ⟨H1,I1,q1⟩ =>?_)
 cases c with
 | true=>exact⟨H1,I1,q1⟩
 | false=>exact hb wh jv s1 σ H1 Q I1 q1
theorem avl(ha:PT X a tA):PT X (.UnaryOp .Not a pos) (tNot tA):=by
 intro jv s σ H Q I h;exact isTrue_not (ha jv s σ H (fun c H1=>Q (!c) H1) I h)
def ayu(ta tb:TE):TE:=fun σ H Q=>ta σ H fun x H1=>∃c,x=.bl c/\if c=true then tb σ H1 Q else Q (.bl false) H1
def ayq(ta:TE):TE:=fun σ H Q=>ta σ H fun x H1=>∃c,x=.bl c/\Q (.bl (!c)) H1
theorem avx{op}{t:TE}(h:PE X a t):PE X (.BoolOp op [a] pos) t:=fun jv s σ H Q I hw=>BoolOp_one (h jv s σ H Q I hw)
theorem av2(ha:PE X a ta)(hb:PE X (.BoolOp .And (b::rest) pos) tb):PE X (.BoolOp .And (a::b::rest) pos) (ayu ta tb):=by
 intro jv s σ H Q I h;refine BoolOp_and (thn (ha jv s σ H _ I h) fun v s1 ⟨x,H1,I1,r1,q1⟩ =>?_)
 obtain⟨c,rfl,q1⟩:=q1;cases r1;refine wpAny_truthy_bool ?_;cases c with
 | true=>exact hb jv s1 σ H1 Q I1 q1
 | false=>exact⟨.bl false,H1,I1,rfl,q1⟩
theorem avy(ha:PE X a ta):PE X (.UnaryOp .Not a pos) (ayq ta):=by
 intro jv s σ H Q I h;refine UnaryOp_ (thn (ha jv s σ H _ I h) fun v s1 ⟨x,H1,I1,r1,q1⟩ =>?_)
 obtain⟨c,rfl,q1⟩:=q1;cases r1;exact not_of (wpAny_truthy_bool ⟨.bl (!c),H1,I1,rfl,q1⟩)
end
def SqL(K:Fg9)(H:Hp)(a:Addr)(xs:List V):Prop :=
 Rd H a (.lst xs) ∨
  ∃(o:Obj) (its:Array Value) (n:Nat),K.lookup a=some o/\o.cls=.type "list" /\ o.dict=none/\o.data=.seq its n/\its.size<=sizeLine/\Vals xs its.toList
def SqT(K:Fg9)(H:Hp)(a:Addr)(xs:List V):Prop :=
 Rd H a (.tup xs) ∨
  ∃(o:Obj) (its:Array Value) (n:Nat),K.lookup a=some o/\o.cls=.type "tuple" /\ o.data=.seq its n/\its.size<=sizeLine/\Vals xs its.toList
def absV:Value->Option V
 | .none=>some .non
 | .bool b=>some (.bl b)
 | .int i _=>some (.int i)
 | .str x _=>some (.str x)
 | .bytes b _=>some (.byt b)
 | .float b _=>some (.flt b)
 | .ref a=>some (.ref a)
 | .type n=>some (.ty n)
 | _=>none
theorem RelV.abs{x:V}{u:Value}(r:RelV x u):absV u=some x:=by
 cases x with
 | non=>cases r;rfl
 | bl _=>cases r;rfl
 | int _=>obtain⟨t,rfl⟩:=r;rfl
 | str _=>obtain⟨t,rfl⟩:=r;rfl
 | byt _=>obtain⟨t,rfl⟩:=r;rfl
 | flt _=>obtain⟨t,rfl⟩:=r;rfl
 | ref _=>cases r;rfl
 | ty _=>cases r;rfl
theorem RelV.inj{x y:V}{u:Value}(r:RelV x u)(q:RelV y u):x=y:=Option.some.inj (r.abs.symm.trans q.abs)
theorem Vals.inj:∀{xs ys:List V} {us:List Value},Vals xs us->Vals ys us->xs=ys
 | _,_,_,.nil,.nil=>rfl
 | _,_,_,.cons r t,.cons r' t'=>by rw[r.inj r',Vals.inj t t']
section
variable{X:Cx}{jv:List (Addr×Obj)}{σ:St}{H:Hp}{s:Shared}{a:Addr}{xs ys:List V}
theorem SqL.of{K:Fg9}(h:H a=some (.lst xs)):SqL K H a xs:=.inl (.inl h)
theorem SqT.of{K:Fg9}(h:H a=some (.tup xs)):SqT K H a xs:=.inl (.inl h)
theorem Inv.list(I:Inv X jv σ H s)(h:SqL X.K H a xs):∃its:List Value,Vals xs its/\PlainL s.heap a its.toArray/\xs.length<=sizeLine:=by
 rcases h with h | ⟨o,its,n,hk,hc,hd,hs,hz,r⟩
 ·obtain⟨z,its,n,r,e⟩:=h.ok I.hok;exact⟨its,r,⟨_,n,e,rfl,rfl,rfl⟩,z⟩
 ·refine⟨its.toList,r,⟨o,n,I.kIn a o hk,hc,hd,by simpa using hs⟩,?_⟩
  have e:=r.length;simp only[Array.length_toList] at e;omega
theorem Inv.tuple(I:Inv X jv σ H s)(h:SqT X.K H a xs):∃its:List Value,Vals xs its/\IsTup s.heap a its.toArray/\xs.length<=sizeLine:=by
 rcases h with h | ⟨o,its,n,hk,hc,hs,hz,r⟩
 ·obtain⟨z,its,r,p⟩:=h.ok I.hok;exact⟨its,r,p.tup,z⟩
 ·refine⟨its.toList,r,⟨o,I.kIn a o hk,hc,n,by simpa using hs⟩,?_⟩
  have e:=r.length;simp only[Array.length_toList] at e;omega
theorem Inv.list_inj(I:Inv X jv σ H s)(h:SqL X.K H a xs)(h':SqL X.K H a ys):xs=ys:=by
 obtain⟨its,r,⟨o,n,e,_,_,d⟩,_⟩:=I.list h;obtain⟨its',r',⟨o',n',e',_,_,d'⟩,_⟩:=I.list h';rw[e] at e';cases e';rw[d] at d'
 injection d' with d1 _
 have:its=its':=by simpa using congrArg Array.toList d1
 subst this;exact r.inj r'
theorem Inv.tuple_inj(I:Inv X jv σ H s)(h:SqT X.K H a xs)(h':SqT X.K H a ys):xs=ys:=by
 obtain⟨its,r,⟨o,e,_,n,d⟩,_⟩:=I.tuple h;obtain⟨its',r',⟨o',e',_,n',d'⟩,_⟩:=I.tuple h';rw[e] at e';cases e';rw[d] at d'
 injection d' with d1 _
 have:its=its':=by simpa using congrArg Array.toList d1
 subst this;exact r.inj r'
end
abbrev Cx.wish(X:Cx)(E:Value->Shared->Prop):Cx:={ X with xe:=E }
abbrev Cx.nox(X:Cx):Cx:=X.wish fun _ _=>False
theorem Cx.Ok.wish{X:Cx}(ok:X.Ok)(E:Value->Shared->Prop):(X.wish E).Ok :=
 ⟨ok.mod,ok.kind,ok.glob,ok.blt,ok.above,ok.inj,ok.has,ok.cab,ok.hd,ok.frames,ok.stk,ok.exf,ok.bs,ok.bsz,ok.noex,ok.exfs,ok.funs,ok.frf⟩
theorem Cx.Ok.unwish{X:Cx}{E:Value->Shared->Prop}(ok:(X.wish E).Ok):X.Ok :=
 ⟨ok.mod,ok.kind,ok.glob,ok.blt,ok.above,ok.inj,ok.has,ok.cab,ok.hd,ok.frames,ok.stk,ok.exf,ok.bs,ok.bsz,ok.noex,ok.exfs,ok.funs,ok.frf⟩
section
variable{X:Cx}{jv:List (Addr×Obj)}{σ:St}{H:Hp}{s:Shared}{E:Value->Shared->Prop}
theorem Inv.wish(I:Inv X jv σ H s)(E:Value->Shared->Prop):Inv (X.wish E) jv σ H s:=⟨I.ok.wish E,I.os,I.bare,I.base,I.loc,I.cell,I.free,I.freeC,I.pin,I.hok,I.len⟩
theorem Inv.unwish(I:Inv (X.wish E) jv σ H s):Inv X jv σ H s:=⟨I.ok.unwish,I.os,I.bare,I.base,I.loc,I.cell,I.free,I.freeC,I.pin,I.hok,I.len⟩
theorem SP.unwish{D:Ends}{f:Flow}{s':Shared}(h:SP (X.wish E) jv D f s'):SP X jv D f s':=by
 cases f with
 | next=>obtain⟨σ',H',I,q⟩:=h;exact⟨σ',H',I.unwish,q⟩
 | brk=>obtain⟨σ',H',I,q⟩:=h;exact⟨σ',H',I.unwish,q⟩
 | cont=>obtain⟨σ',H',I,q⟩:=h;exact⟨σ',H',I.unwish,q⟩
 | ret u=>obtain⟨v,σ',H',I,r,q⟩:=h;exact⟨v,σ',H',I.unwish,r,q⟩
theorem PSs.nox{st:List Stmt}{t:TS}(h:PSs X.nox st t):PSs X st t:=fun jv s σ H D I hw =>
 wpAny_mono (h jv s σ H D (I.wish _) hw) (fun _ _ q=>q.unwish) fun _ _ z=>False.elim z
end
section
variable{X:Cx}{st:Stmt}{rest:List Stmt}{t u:TS}{e:Expr}{te:TE}{pos:Pos}
def ayr:TS:=fun D σ H=>D.nx σ H
def tSeq(t u:TS):TS:=fun D σ H=>t { D with nx:=u D } σ H
theorem asw:PSs X [] ayr:=fun _ _ σ H _ I h=>wpAny_execs_nil ⟨σ,H,I,h⟩
theorem apr(h1:PS X st t)(h2:PSs X rest u):PSs X (st::rest) (tSeq t u):=by
 intro jv s σ H D I h;refine wpAny_execs_cons (thn (h1 jv s σ H { D with nx:=u D } I h) fun f s1 q =>?_)
 cases f with
 | next =>
  obtain⟨σ',H',I',q⟩:=q;exact h2 jv s1 σ' H' D I' q
 | ret v=>exact q
 | brk=>exact q
 | cont=>exact q
theorem asv(h1:PS X st t):PSs X [st] t:=by
 intro jv s σ H D I h;refine wpAny_execs_cons (thn (h1 jv s σ H D I h) fun f s1 q =>?_)
 cases f with
 | next=>exact wpAny_execs_nil q
 | ret v=>exact q
 | brk=>exact q
 | cont=>exact q
theorem Inv.quiet{jv:List (Addr×Obj)}{σ:St}{H:Hp}{s:Shared}(I:Inv X jv σ H s):interactive X.env=false:=by simp[interactive,I.ok.kind]
def ays(te:TE):TS:=fun D σ H=>te σ H fun _ H1=>D.nx σ H1
theorem asy(he:PE X e te)(hs:swapsWith e none pos.line X.env=pure false:=by rfl):PS X (.Expr e pos) (ays te):=by
 intro jv s σ H D I h;exact wpAny_Expr_any (thn (he jv s σ H _ I h) fun v s1 ⟨x,H1,I1,r1,q1⟩=>⟨σ,H1,I1,q1⟩) I.quiet hs
def tRet(te:TE):TS:=fun D σ H=>te σ H D.rt
theorem avn(he:PE X e te):PS X (.Return (some e) pos) (tRet te):=by
 intro jv s σ H D I h;exact wpAny_Return_some (thn (he jv s σ H _ I h) fun v s1 ⟨x,H1,I1,r1,q1⟩=>⟨x,σ,H1,I1,r1,q1⟩)
def tIfS(c:TT)(t u:TS):TS:=fun D σ H=>c σ H fun b H1=>if b=true then t D σ H1 else u D σ H1
theorem ay2{c:Expr}{a b:List Stmt}{tc:TT}(hc:PT X c tc)(ha:PSs X a t)(hb:PSs X b u):PS X (.If c a b pos) (tIfS tc t u):=by
 intro jv s σ H D I h;refine wpAny_If (thn (hc jv s σ H _ I h) fun d s1 ⟨H1,I1,q1⟩ =>?_)
 cases d with
 | true=>exact ha jv s1 σ H1 D I1 q1
 | false=>exact hb jv s1 σ H1 D I1 q1
def au1:TS:=fun _ _ _=>False
theorem apt:PS X st au1:=fun _ _ _ _ _ _ h=>h.elim
end
abbrev TG:=V->St->Hp->(St->Hp->Prop)->Prop
abbrev TGs:=List V->St->Hp->(St->Hp->Prop)->Prop
def PG(X:Cx)(target:Expr)(t:TG):Prop :=
 ∀(jv:List (Addr×Obj)) (s:Shared) (σ:St) (H:Hp) (v:V) (u:Value) (Q:St->Hp->Prop),Inv X jv σ H s->RelV v u->t v σ H Q ->
  wpAny (model X.prog X.w) X.A (assign target X.env u) (fun _ s'=>∃σ' H',Inv X jv σ' H' s'/\Q σ' H') X.xe s
def PGs(X:Cx)(ts:List Expr)(t:TGs):Prop :=
 ∀(jv:List (Addr×Obj)) (s:Shared) (σ:St) (H:Hp) (vs:List V) (us:List Value) (Q:St->Hp->Prop),Inv X jv σ H s->Vals vs us->t vs σ H Q ->
  wpAny (model X.prog X.w) X.A (assignInOrder ((assignEach ts X.env).map (·.2)) us) (fun _ s'=>∃σ' H',Inv X jv σ' H' s'/\Q σ' H') X.xe s
abbrev TSet:=V->V->V->Hp->(Hp->Prop)->Prop
def PSet(X:Cx)(t:TSet):Prop :=
 ∀(jv:List (Addr×Obj)) (s:Shared) (σ:St) (H:Hp) (o i v:V) (ov iv u:Value) (Q:Hp->Prop),Inv X jv σ H s->RelV o ov->RelV i iv->RelV v u->t o i v H Q ->
  wpAny (model X.prog X.w) X.A (setItem ov iv u) (fun _ s'=>∃H',Inv X jv σ H' s'/\Q H') X.xe s
abbrev TIp:=V->V->Hp->VK->Prop
def PIp(X:Cx)(op:Operator)(t:TIp):Prop :=
 ∀(jv:List (Addr×Obj)) (s:Shared) (σ:St) (H:Hp) (x y:V) (v u:Value) (Q:VK),Inv X jv σ H s->RelV x v->RelV y u->t x y H Q ->
  wpAny (model X.prog X.w) X.A (inplaceOp op v u) (EP X jv σ Q) X.xe s
section
variable{X:Cx}{pos:Pos}
def at4(i:Nat):TG:=fun v σ H Q=>Q (σ.set i (some v)) H
theorem as9{i:Nat}{x:Str}(hN:X.N.Nodup)(hi:X.N[i]? = some x)(hx:Loc X.env.scope x)(hf:X.fn x=true∨X.env.scope.names.lookup x=some .local:=by first | exact .inl rfl | exact .inr rfl | assumption):PG X (.Name x pos) (at4 i):=by
 intro jv s σ H v u Q I r h;exact wpAny_assign_Name (af7 I hN hi hx r (fun s' I'=>⟨_,H,I',h⟩) hf)
def gNil:TGs:=fun vs σ H Q=>vs=[]/\Q σ H
def az3(t:TG)(u:TGs):TGs:=fun vs σ H Q=>∃v r,vs=v::r/\t v σ H fun σ' H'=>u r σ' H' Q
theorem as8:PGs X [] gNil:=by
 intro jv s σ H vs us Q I r h;obtain⟨e,h⟩:=h;subst e;cases r;exact assignInOrder_nil ⟨σ,H,I,h⟩
theorem apw{e:Expr}{es:List Expr}{t:TG}{u:TGs}(h1:PG X e t)(h2:PGs X es u)
  (hs:(assignEach (e::es) X.env).map (·.2)=assign e X.env::(assignEach es X.env).map (·.2):=by rfl):PGs X (e::es) (az3 t u):=by
 intro jv s σ H vs us Q I r h;obtain⟨v,vr,e1,h⟩:=h;subst e1;cases r with
 | cons r rr =>
  rw[hs];refine assignInOrder_cons (thn (h1 jv s σ H _ _ _ I r h) fun _ s1 ⟨σ1,H1,I1,q1⟩ =>?_)
  exact h2 jv s1 σ1 H1 _ _ Q I1 rr q1
def gTup(K:Fg9)(n:Nat)(t:TGs):TG:=fun v σ H Q=>∃a xs,v=.ref a/\SqT K H a xs/\xs.length=n/\t xs σ H Q
theorem avr{es:List Expr}{k:Nat}{t:TGs}{n:Nat}(hc:X.calm=true)(h:PGs X es t)
  (hn:(assignEach es X.env).length=n:=by rfl) (hst:(assignEach es X.env).findIdx? (·.1)=none:=by rfl):PG X (.Tuple es k pos) (gTup X.K n t):=by
 intro jv s σ H v u Q I r hw;obtain⟨a,xs,e1,hq,hl,hw⟩:=hw;subst e1;cases r;obtain⟨its,rv,ht,hz⟩:=I.tuple hq;refine assign_Tuple_tuple (I.ok.hd hc) ht (by simp[hn,<-hl,rv.length]) hst fun h' hx =>?_
 have I1:Inv X jv σ H { s with heap:=h' }:=I.kept (t':=s.toks) fun b o e=>hx b o (Nat.ne_of_lt (Heap.lt_size e)) e
 exact h jv _ σ H xs _ Q I1 (by simpa using rv) hw
def gSub(to ti:TE)(t:TSet):TG:=fun v σ H Q=>to σ H fun o H1=>ti σ H1 fun i H2=>t o i v H2 fun H3=>Q σ H3
theorem avs{o i:Expr}{to ti:TE}{t:TSet}(ho:PE X o to)(hi:PE X i ti)(hs:PSet X t)
  (ha:∀v,assign (.Subscript o i pos) X.env v=(do
   let ov <-holding [v] (eval o X.env)
   let iv <-holding [v,ov] (eval i X.env)
   standAt pos
   holding [v,ov,iv] (setItem ov iv v)
   release [v,ov,iv] []):=by intro _;rfl):PG X (.Subscript o i pos) (gSub to ti t):=by
 intro jv s σ H v u Q I r h;rw[ha];refine wpAny_bind (wpAny_holding (thn (ho jv s σ H _ I h) fun ov s1 ⟨x,H1,I1,r1,q1⟩ =>?_))
 refine wpAny_bind (wpAny_holding (thn (hi jv s1 σ H1 _ I1 q1) fun iv s2 ⟨y,H2,I2,r2,q2⟩ =>?_))
 refine wpAny_bind (wpAny_standAt (wpAny_bind (wpAny_holding (thn (hs jv s2 σ H2 x y v ov iv u _ I2 r1 r2 r q2) fun _ s3 ⟨H3,I3,q3⟩ =>?_))))
 exact wpAny_release ⟨σ,H3,I3,q3⟩
def tAsg(te:TE)(g:TG):TS:=fun D σ H=>te σ H fun x H1=>g x σ H1 D.nx
theorem ars{tg e:Expr}{te:TE}{g:TG}(he:PE X e te)(hg:PG X tg g)(hs:swapsWithSole [tg] e pos.line X.env=pure false:=by rfl)(hw:swappedStores [tg] e X.env=pure none:=by rfl)
  (h1:(assignEach [tg] X.env).map (·.2)=[assign tg X.env]:=by rfl):PS X (.Assign [tg] e pos) (tAsg te g):=by
 intro jv s σ H D I h;refine wpAny_Assign_stores (thn (he jv s σ H _ I h) fun v s1 ⟨x,H1,I1,r1,q1⟩ =>?_) hs hw
 rw[h1];exact thn (hg jv s1 σ H1 x v _ I1 r1 q1) fun _ s2 q=>q
theorem avm{i:Nat}{x:Str}{e:Expr}{te:TE}{pos':Pos}(hN:X.N.Nodup)(hi:X.N[i]? = some x)(hx:Loc X.env.scope x)(he:PE X e te)(hs:swapsWith e (some (.Name x pos')) pos.line X.env=pure false:=by rfl)(hf:X.fn x=true∨X.env.scope.names.lookup x=some .local:=by first | exact .inl rfl | exact .inr rfl | assumption) :
  PS X (.Assign [.Name x pos'] e pos) (tAsg te (at4 i)):=by
 intro jv s σ H D I h;refine wpAny_Assign_Name (thn (he jv s σ H _ I h) fun v s1 ⟨y,H1,I1,r1,q1⟩ =>?_) hs
 exact af7 I1 hN hi hx r1 (fun s2 I2=>⟨_,H1,I2,q1⟩) hf
def tAug(i:Nat)(te:TE)(ti:TIp):TS:=fun D σ H=>∃x,σ[i]? = some (some x)/\te σ H fun y H1=>ti x y H1 fun z H2=>D.nx (σ.set i (some z)) H2
theorem avp{i:Nat}{x:Str}{e:Expr}{te:TE}{op:Operator}{ti:TIp}{pos':Pos}(hN:X.N.Nodup)(hi:X.N[i]? = some x)(hx:Loc X.env.scope x)(he:PE X e te)(ho:PIp X op ti)(hf:X.fn x=true∨X.env.scope.names.lookup x=some .local:=by first | exact .inl rfl | exact .inr rfl | assumption) :
  PS X (.AugAssign (.Name x pos') op e pos) (tAug i te ti):=by
 intro jv s σ H D I h;obtain⟨v,e1,h⟩:=h;obtain⟨m,hn,hl⟩:=I.loc;have vis:Vis X.env.scope x:=by rcases hx with k | k;exact .inl k;exact .inr (.inl k)
 obtain⟨u,r,l⟩:=hl i x v hi e1 vis;refine wpAny_AugAssign_Name ?_;have go:wpAny (model X.prog X.w) X.A (eval e X.env) (fun w s₂=>wpAny (model X.prog X.w) X.A (inplaceOp op u w) (fun r s₃=>wpAny (model X.prog X.w) X.A (storeName X.env x r) (fun _=>SP X jv D .next) X.xe s₃) X.xe s₂) X.xe s:=by
  refine thn (he jv s σ H _ I h) fun w s1 ⟨y,H1,I1,r1,q1⟩ =>?_
  refine thn (ho jv s1 σ H1 v y u w _ I1 r r1 q1) fun z s2 ⟨zv,H2,I2,r2,q2⟩ =>?_
  exact af7 I2 hN hi hx r2 (fun s3 I3=>⟨_,H2,I3,q2⟩) hf
 rcases l with⟨hk,hm⟩ | ⟨hk,c,hc,hcell⟩
 ·exact wpAny_loadName_local I.ok.kind hk hn hm go
 ·rcases hk with hk | hk
  ·exact wpAny_loadName_cell I.ok.kind hk hc hcell go
  ·rcases hx with k | k
   ·have:X.env.scope.names.lookup x=some .free:=hk;rw[k] at this;cases this
   ·have:X.env.scope.names.lookup x=some .free:=hk;rw[k] at this;cases this
def ipI(f:Int->Int->Int):TIp:=fun x y H Q=>∃i j,x=.int i/\y=.int j/\Q (.int (f i j)) H
theorem aw0:PIp X .Add (ipI fun i j=>i+j):=by
 intro jv s σ H x y v u Q I r1 r2 h;obtain⟨i,j,e1,e2,q⟩:=h;subst e1;subst e2;obtain⟨t,rfl⟩:=r1;obtain⟨t',rfl⟩:=r2;exact iadd_int ⟨.int _,H,I.tok _,⟨_,rfl⟩,q⟩
end
section
variable{X:Cx}{pos:Pos}
def au0(c:TT)(tb:TS):TS:=fun D σ H=>∃W:Nat->St->Hp->Prop,(∃m,W m σ H)/\∀m σ H,W m σ H ->
 c σ H fun b H1=>if b=true then ∃N:St->Hp->Prop,(∀σ' H',N σ' H'->∃m',m' < m/\W m' σ' H')/\tb { D with nx:=N,ct:=N,bk:=D.nx } σ H1 else D.nx σ H1
theorem aps{c:Expr}{body:List Stmt}{tc:TT}{tb:TS}(hp:PassesOwn (model X.prog X.w) X.A X.env X.xe)(hc:PT X c tc)(hb:PSs X body tb):PS X (.While c body [] pos) (au0 tc tb):=by
 intro jv s σ H D I h;obtain⟨W,⟨m0,w0⟩,turn⟩:=h;refine wpAny_While (codeAny_whileLoop (fun n s'=>∃σ' H',Inv X jv σ' H' s'/\W n σ' H') ?_ m0 ⟨σ,H,I,w0⟩)
 rintro n s1 ⟨σ1,H1,I1,w1⟩
 refine wpAny_passesOwn hp (thn (hc jv s1 σ1 H1 _ I1 (turn n σ1 H1 w1)) fun b s2 ⟨H2,I2,q2⟩ =>?_)
 cases b with
 | true =>
  obtain⟨N,hN,q2⟩:=q2;rw[if_pos rfl];refine wpAny_passesOwn hp (thn (hb jv s2 σ1 H2 _ I2 q2) fun f s3 q3 =>?_)
  cases f with
  | next =>
   obtain⟨σ3,H3,I3,n3⟩:=q3;obtain⟨m',hm,w3⟩:=hN σ3 H3 n3;exact⟨m',hm,σ3,H3,I3,w3⟩
  | cont =>
   obtain⟨σ3,H3,I3,n3⟩:=q3;obtain⟨m',hm,w3⟩:=hN σ3 H3 n3;exact⟨m',hm,σ3,H3,I3,w3⟩
  | brk=>exact q3
  | ret v=>exact q3
 | false =>
  rw[if_neg Bool.false_ne_true];exact wpAny_execs_nil ⟨σ1,H2,I2,q2⟩
end
structure It where
 go:Nat->Hp->Prop
 yld:Nat->Hp->V->Hp->Prop
 stop:Nat->Hp->Prop
def FpOk(X:Cx)(jv:List (Addr×Obj))(H:Hp)(b:Addr):Prop :=
 H b=none/\b≠X.env.locals/\b∉X.fs/\(b∈X.ex∨X.s₀.heap.objs.size<=b)/\(∀x c,X.env.cells.lookup x=some c->c≠b)/\∀p∈X.pn++jv,p.1≠b
theorem Inv.fpOk{X:Cx}{jv:List (Addr×Obj)}{σ:St}{H H':Hp}{s:Shared}{b:Addr}(I:Inv X jv σ H s)(hb:s.heap.objs.size<=b)(hn:H' b=none):FpOk X jv H' b:=by
 refine⟨hn,Nat.ne_of_gt (Nat.lt_of_lt_of_le I.lt hb),I.nofs hb,.inr (Nat.le_trans I.sz hb),fun x c e z =>?_,fun p hp z =>?_⟩
 ·obtain⟨v,q⟩:=I.cell x c e;exact absurd (Nat.lt_of_lt_of_le q.lt (by rw[z];exact hb)) (Nat.lt_irrefl _)
 ·exact absurd (Nat.lt_of_lt_of_le (Heap.lt_size (I.pin p hp).1) (by rw[z];exact hb)) (Nat.lt_irrefl _)
structure Turn (P:Program) (w:World) (K:Fg9) (tg:Expr) (J:It) (fp:List Addr) (it:Addr) (tn:Nat->Heap->Prop):Prop where
 mem:it∈fp
 obj:∀i h,tn i h->∀b∈fp,∃o,h.get? b=some o/\∀v,o.data≠.cell v
 keep:∀i h h',tn i h->(∀b∈fp,∀o,h.get? b=some o->h'.get? b=some o)->tn i h'
 item:∀(X:Cx),X.prog=P->X.w=w->X.K=K->X.calm=true->∀(i:Nat) (jv:List (Addr×Obj)) (s:Shared) (σ:St) (H:Hp) (E:Value->Shared->Prop),Inv X jv σ H s->(∀b∈fp,FpOk X jv H b)->tn i s.heap->J.go i H ->
  wpAny (model P w) X.A (pyNext (.ref it)) (fun r s1=>∃u,r=some u /\
   wpAny (model P w) X.A (letOwnedTupleGo tg (.ref it) u) (fun _ s2=>∃x H',Inv X jv σ H' s2/\RelV x u/\J.yld i H x H'/\tn (i+1) s2.heap/\∀b∈fp,H' b=none) E s1) E s
 done:∀(X:Cx),X.prog=P->X.w=w->X.K=K->X.calm=true->∀(i:Nat) (jv:List (Addr×Obj)) (s:Shared) (σ:St) (H:Hp) (E:Value->Shared->Prop),Inv X jv σ H s->(∀b∈fp,FpOk X jv H b)->tn i s.heap->J.stop i H ->
  wpAny (model P w) X.A (pyNext (.ref it)) (fun r s1=>r=none/\Inv X jv σ H s1) E s
 self:∀(A:Around) (i:Nat) (s:Shared) (Q:Value->Shared->Prop) (E:Value->Shared->Prop),tn i s.heap->Q (.ref it) s->wpAny (model P w) A (pyIter (.ref it)) Q E s
abbrev TI:=St->Hp->(It->Hp->Prop)->Prop
def PIE(X:Cx)(jv:List (Addr×Obj))(σ:St)(tg:Expr)(R:It->Hp->Prop)(itv:Value)(s2:Shared):Prop :=
 ∃(it:Addr) (fp:List Addr) (tn:Nat->Heap->Prop) (J:It) (H':Hp),itv=.ref it/\Inv X jv σ H' s2/\Turn X.prog X.w X.K tg J fp it tn/\tn 0 s2.heap/\(∀b∈fp,FpOk X jv H' b)/\R J H'
def PI(X:Cx)(tg iter:Expr)(wi:TI):Prop :=
 ∀(jv:List (Addr×Obj)) (s:Shared) (σ:St) (H:Hp) (R:It->Hp->Prop),Inv X jv σ H s->wi σ H R ->
  wpAny (model X.prog X.w) X.A (eval iter X.env) (fun v s1=>wpAny (model X.prog X.w) X.A (pyIter v) (PIE X jv σ tg R) X.xe s1) X.xe s
theorem at3{M:Model}{A:Around}{E:Value->Shared->Prop}{s:Shared}{tg:Expr}{it:Addr}{u:Value}{o:Obj}{n:String}{vs:Array Value}{Q:Unit->Shared->Prop}(ho:s.heap.get? it=some o)(hc:o.cls=.type n)(hd:o.data=.fields vs)
  (hn:["enumerate","zip","dict_itemiterator","dict_reverseitemiterator","odict_iterator","itertools.zip_longest","itertools.pairwise"].contains n=false) (hQ:Q () s):wpAny M A (letOwnedTupleGo tg (.ref it) u) Q E s:=by
 unfold letOwnedTupleGo;cases tg <;> first
  | exact wpAny_pure hQ
  | (cases u <;> first
    | exact wpAny_pure hQ
    | (refine wpAny_bind (wpAny_load ho ?_)
       rw[hc,hd];show wpAny M A (if (["enumerate","zip","dict_itemiterator","dict_reverseitemiterator","odict_iterator","itertools.zip_longest","itertools.pairwise"].contains n&&vs[0]? == some (rawInt _))=true then _ else _) Q E s
       rw[if_neg (by intro h;rw[hn,Bool.false_and] at h;cases h)]
       exact wpAny_pure hQ))
def Itl(K:Fg9)(a:Addr):It :=
 ⟨fun i H=>∃xs x,SqL K H a xs/\xs[i]? = some x,fun i H x H'=>H'=H/\∀xs,SqL K H a xs->xs[i]? = some x,fun i H=>∃xs,SqL K H a xs/\xs.length<=i⟩
def Itt(K:Fg9)(a:Addr):It :=
 ⟨fun i H=>∃xs x,SqT K H a xs/\xs[i]? = some x,fun i H x H'=>H'=H/\∀xs,SqT K H a xs->xs[i]? = some x,fun i H=>∃xs,SqT K H a xs/\xs.length<=i⟩
def Itr(lo:Int)(n:Nat):It:=⟨fun i _=>i < n,fun i H x H'=>H'=H/\x=.int (lo+i),fun i _=>n<=i⟩
theorem ama{P:Program}{w:World}{K:Fg9}{tg:Expr}(a it:Addr):Turn P w K tg (Itl K a) [it] it (fun i h=>h.IsListIter it a i) where
 mem:=by simp
 obj:=fun i h st b hb=>by
  have e:b=it:=by simpa using hb
  subst e;obtain⟨o,e,c,d⟩:=st;exact⟨o,e,fun v z=>by rw[d] at z;cases z⟩
 keep:=fun i h h' st k=>st.at fun o e=>k it (by simp) o e
 item:=by
  intro X hP hw hK hc i jv s σ H E I hf st hg;subst hP hw hK;obtain⟨xs,x,hq,hx⟩:=hg;obtain⟨its,rv,p,hz⟩:=I.list hq;obtain⟨u,hu,ru⟩:=rv.get hx;obtain⟨f0,f1,f2,f3,f4,f5⟩:=hf it (by simp)
  refine wpAny_pyNext_list_item st p.isList (x:=u) (by simpa using hu) fun h' st' sb =>?_
  have I1:Inv X jv σ H { s with heap:=h' }:=I.turned (t':=s.toks) (fun b o hb e=>(sb.2 b hb).trans e) f0 f1 f3 f4 f5
  obtain⟨o,e,c,d⟩:=id st';exact⟨u,rfl,at3 (s:={ s with heap:=h' }) e c d (by decide) ⟨x,H,I1,ru,⟨rfl,fun ys hy=>by rw[I.list_inj hy hq];exact hx⟩,st',fun b hb=>(hf b hb).1⟩⟩
 done:=by
  intro X hP hw hK hc i jv s σ H E I hf st hg;subst hP hw hK;obtain⟨xs,hq,hx⟩:=hg;obtain⟨its,rv,p,hz⟩:=I.list hq;obtain⟨f0,f1,f2,f3,f4,f5⟩:=hf it (by simp)
  have hl:=rv.length;exact wpAny_pyNext_list_end (I.ok.hd hc) st p.isList (by simp;omega) fun h' eb=>⟨rfl,I.turned (t':=s.toks) (fun b o hb e=>eb b o hb e) f0 f1 f3 f4 f5⟩
 self:=fun _ _ _ _ _ st h=>wpAny_pyIter_listiter st h
theorem ak0{P:Program}{w:World}{K:Fg9}{tg:Expr}(a it:Addr):Turn P w K tg (Itt K a) [it] it (fun i h=>h.IsTupleIter it a i) where
 mem:=by simp
 obj:=fun i h st b hb=>by
  have e:b=it:=by simpa using hb
  subst e;obtain⟨o,e,c,d⟩:=st;exact⟨o,e,fun v z=>by rw[d] at z;cases z⟩
 keep:=fun i h h' st k=>st.at fun o e=>k it (by simp) o e
 item:=by
  intro X hP hw hK hc i jv s σ H E I hf st hg;subst hP hw hK;obtain⟨xs,x,hq,hx⟩:=hg;obtain⟨its,rv,p,hz⟩:=I.tuple hq;obtain⟨u,hu,ru⟩:=rv.get hx;obtain⟨f0,f1,f2,f3,f4,f5⟩:=hf it (by simp)
  refine wpAny_pyNext_tuple_item st (show s.heap.IsTuple a its.toArray from p) (x:=u) (by simpa using hu) fun h' st' sb =>?_
  have I1:Inv X jv σ H { s with heap:=h' }:=I.turned (t':=s.toks) (fun b o hb e=>(sb.2 b hb).trans e) f0 f1 f3 f4 f5
  obtain⟨o,e,c,d⟩:=id st';exact⟨u,rfl,at3 (s:={ s with heap:=h' }) e c d (by decide) ⟨x,H,I1,ru,⟨rfl,fun ys hy=>by rw[I.tuple_inj hy hq];exact hx⟩,st',fun b hb=>(hf b hb).1⟩⟩
 done:=by
  intro X hP hw hK hc i jv s σ H E I hf st hg;subst hP hw hK;obtain⟨xs,hq,hx⟩:=hg;obtain⟨its,rv,p,hz⟩:=I.tuple hq;obtain⟨f0,f1,f2,f3,f4,f5⟩:=hf it (by simp)
  have hl:=rv.length;exact wpAny_pyNext_tuple_end (I.ok.hd hc) st (show s.heap.IsTuple a its.toArray from p) (by simp;omega) fun h' eb=>⟨rfl,I.turned (t':=s.toks) (fun b o hb e=>eb b o hb e) f0 f1 f3 f4 f5⟩
 self:=fun _ _ _ _ _ st h=>wpAny_pyIter_tupleiter st h
theorem ak1{P:Program}{w:World}{K:Fg9}{tg:Expr}(it:Addr)(lo:Int)(n:Nat):Turn P w K tg (Itr lo n) [it] it (fun i h=>IsRangeIter h it (lo+(i:Nat)*1) ((n:Int) - (i:Nat)) 1) where
 mem:=by simp
 obj:=fun i h st b hb=>by
  have e:b=it:=by simpa using hb
  subst e;exact⟨_,st,fun v z=>by
   have z':Data.fields _=Data.cell v:=z;cases z'⟩
 keep:=fun i h h' st k=>k it (by simp) _ st
 item:=by
  intro X hP hw hK hc i jv s σ H E I hf st hg;subst hP hw hK;obtain⟨f0,f1,f2,f3,f4,f5⟩:=hf it (by simp)
  have W:=Walks.range (prog:=X.prog) (w:=X.w) (I.ok.hd hc) it lo 1 n;refine W.item i s _ _ hg st fun v h' tk hv st' kk =>?_
  obtain⟨t,rfl⟩:=hv;have I1:Inv X jv σ H { s with heap:=h',toks:=tk }:=I.turned (fun b o hb e=>kk b o (by simpa using hb) e) f0 f1 f3 f4 f5
  refine⟨_,rfl,at3 (s:={ s with heap:=h',toks:=tk }) (n := "range_iterator") st' rfl rfl (by decide) ⟨.int (lo+i),H,I1,⟨t,?_⟩,⟨rfl,rfl⟩,st',fun b hb=>(hf b hb).1⟩⟩
  rw[Int.mul_one]
 done:=by
  intro X hP hw hK hc i jv s σ H E I hf st hg;subst hP hw hK;obtain⟨f0,f1,f2,f3,f4,f5⟩:=hf it (by simp)
  exact wpAny_pyNext_range_end (I.ok.hd hc) st (by have:n<=i:=hg;omega) fun h' eb=>⟨rfl,I.turned (t':=s.toks) (fun b o hb e=>eb b o hb e) f0 f1 f3 f4 f5⟩
 self:=fun _ _ _ _ _ st h=>wpAny_pyIter_rangeiter st h
section
variable{X:Cx}{tg:Expr}
def azw(K:Fg9)(tl:TE):TI:=fun σ H R=>tl σ H fun x H1=>∃a,x=.ref a/\(∃xs,SqL K H1 a xs)/\R (Itl K a) H1
def iTup(K:Fg9)(tl:TE):TI:=fun σ H R=>tl σ H fun x H1=>∃a,x=.ref a/\(∃xs,SqT K H1 a xs)/\R (Itt K a) H1
theorem amy{l:Expr}{tl:TE}(hl:PE X l tl):PI X tg l (azw X.K tl):=by
 intro jv s σ H R I h;refine thn (hl jv s σ H _ I h) fun v s1 ⟨x,H1,I1,r1,q1⟩ =>?_
 obtain⟨a,e,⟨xs,hq⟩,q⟩:=q1;subst e;cases r1;obtain⟨its,rv,p,hz⟩:=I1.list hq;refine wpAny_pyIter_list p.isList ?_;refine⟨s1.heap.objs.size,[s1.heap.objs.size],_,_,H1,rfl,I1.kept (t':=s1.toks) fun b o e=>Heap.get?_push_of_some _ e,ama a _,⟨_,Heap.get?_push_size _ rfl,rfl,rfl⟩,fun b hb =>?_,q⟩
 have e:b=s1.heap.objs.size:=by simpa using hb
 subst e;exact I1.fpOk (Nat.le_refl _) (I1.hok.fresh (Nat.le_refl _))
theorem avq{l:Expr}{tl:TE}(hl:PE X l tl):PI X tg l (iTup X.K tl):=by
 intro jv s σ H R I h;refine thn (hl jv s σ H _ I h) fun v s1 ⟨x,H1,I1,r1,q1⟩ =>?_
 obtain⟨a,e,⟨xs,hq⟩,q⟩:=q1;subst e;cases r1;obtain⟨its,rv,p,hz⟩:=I1.tuple hq;refine wpAny_pyIter_tuple (show s1.heap.IsTuple a its.toArray from p) ?_
 refine⟨s1.heap.objs.size,[s1.heap.objs.size],_,_,H1,rfl,I1.kept (t':=s1.toks) fun b o e=>Heap.get?_push_of_some _ e,ak0 a _,⟨_,Heap.get?_push_size _ rfl,rfl,rfl⟩,fun b hb =>?_,q⟩
 have e:b=s1.heap.objs.size:=by simpa using hb
 subst e;exact I1.fpOk (Nat.le_refl _) (I1.hok.fresh (Nat.le_refl _))
theorem apq{jv:List (Addr×Obj)}{σ:St}{H:Hp}{s:Shared}{R:It->Hp->Prop}{E:Value->Shared->Prop}{lo hi:Int}{t u v:Tok}{tk:Nat}(I:Inv X jv σ H s)(h1 : -(2 ^ 62)<=lo)(h2:lo < 2 ^ 62)(h3 : -(2 ^ 62)<=hi)(h4:hi < 2 ^ 62)
  (q:R (Itr lo (hi - lo).toNat) H):wpAny (model X.prog X.w) X.A (pyIter (.ref s.heap.objs.size)) (PIE X jv σ tg R) E { s with heap:=s.heap.push { cls:=.type "range", data:=.fields #[.int lo t,.int hi u,.int 1 v] },toks:=tk }:=by
 refine wpAny_pyIter_range (IsRange.new ..) (small_one h1 h2 h3 h4) ?_;have I1:Inv X jv σ H { s with heap:=s.heap.push { cls:=.type "range", data:=.fields #[.int lo t,.int hi u,.int 1 v] },toks:=tk }:=I.kept fun b o e=>Heap.get?_push_of_some _ e
 refine⟨(s.heap.push { cls:=.type "range", data:=.fields #[.int lo t,.int hi u,.int 1 v] }).objs.size,[(s.heap.push { cls:=.type "range", data:=.fields #[.int lo t,.int hi u,.int 1 v] }).objs.size],_,_,H,rfl,
  I1.kept (t':=tk) fun b o e=>Heap.get?_push_of_some _ e,ak1 _ lo (hi - lo).toNat,?_,fun b hb =>?_,q⟩
 ·have e1:lo+((0:Nat):Int)*1=lo:=by simp
  have e2:(((hi - lo).toNat:Nat):Int) - ((0:Nat):Int)=Builtin.Range.rangeSize lo hi 1:=by rw[rangeSize_one];split <;> omega
  show IsRangeIter _ _ (lo+((0:Nat):Int)*1) ((((hi - lo).toNat:Nat):Int) - ((0:Nat):Int)) 1;rw[e1,e2];exact Heap.get?_push_size _ rfl
 ·have e:b=(s.heap.push { cls:=.type "range", data:=.fields #[.int lo t,.int hi u,.int 1 v] }).objs.size:=by simpa using hb
  subst e;exact I1.fpOk (Nat.le_refl _) (I1.hok.fresh (Nat.le_refl _))
def azv(ta:TA):TI:=fun σ H R=>ta σ H fun vs H1=>∃j:Int,vs=[.int j] /\ -(2 ^ 62)<=j/\j < 2 ^ 62/\R (Itr 0 j.toNat) H1
theorem amx{a:Expr}{ta:TA}{p pos:Pos}(hg:Gl X "range")(hm:X.mg "range" = none)(ha:PA X [a] ta)(hs:starEach [a] X.env=[(false,eval a X.env)]:=by rfl):PI X tg (.Call (.Name "range" p) [a] [] pos) (azv ta):=by
 intro jv s σ H R I h;refine Call_ (afq I hg hm boot_range (PyProof.Rows.callWith_type1 (thn (ha pos jv s σ H _ I h) fun us s1 ⟨vs,H1,I1,r1,q1⟩ =>?_) hs rfl))
 obtain⟨j,e,q1,q2,q⟩:=q1;subst e;cases r1 with
 | cons r rr =>
  cases rr;obtain⟨t,rfl⟩:=r;exact call_range_1 (apq I1 (by omega) (by omega) q1 q2 (by simpa using q))
def tFor(wi:TI)(g:TG)(tb:TS):TS:=fun D σ H=>wi σ H fun J H1=>∃W:Nat->Nat->St->Hp->Prop,(∃m,W 0 m σ H1)/\∀i m σ H,W i m σ H ->
 (J.stop i H/\D.nx σ H)∨(J.go i H/\∃N:St->Hp->Prop,(∀σ' H',N σ' H'->∃m',m' < m/\W (i+1) m' σ' H')/\∀x H',J.yld i H x H'->g x σ H' fun σ2 H2=>tb { D with nx:=N,ct:=N,bk:=D.nx } σ2 H2)
def ahm(fp:List Addr)(h:Heap):List (Addr×Obj):=fp.filterMap fun b=>(h.get? b).map fun o=>(b,o)
theorem aay{fp:List Addr}{h:Heap}{b:Addr}{o:Obj}(hb:b∈fp)(e:h.get? b=some o):(b,o)∈ahm fp h:=List.mem_filterMap.mpr ⟨b,hb,by rw[e];rfl⟩
theorem am4{fp:List Addr}{h:Heap}{p:Addr×Obj}(hp:p∈ahm fp h):p.1∈fp/\h.get? p.1=some p.2:=by
 obtain⟨b,hb,e⟩:=List.mem_filterMap.mp hp;cases q:h.get? b with
 | none=>rw[q] at e;cases e
 | some o =>
  rw[q] at e;have e':(b,o)=p:=Option.some.inj e;subst e';exact⟨hb,q⟩
theorem Inv.pinned{jv:List (Addr×Obj)}{σ:St}{H:Hp}{s:Shared}{fp:List Addr}(I:Inv X jv σ H s)(hf:∀b∈fp,FpOk X jv H b)(ho:∀b∈fp,∃o,s.heap.get? b=some o/\∀v,o.data≠.cell v):Inv X (jv++ahm fp s.heap) σ H s :=
 I.pins_of fun p hp=>(List.mem_append.mp hp).elim (fun z=>I.pin p (List.mem_append_right _ z)) fun z=>by
  obtain⟨hb,e⟩:=am4 z;obtain⟨f0,f1,f2,_⟩:=hf p.1 hb;obtain⟨o,e',d⟩:=ho p.1 hb;rw[e] at e';cases e';exact⟨e,f0,f1,f2,d⟩
theorem Inv.unpinned{jv pl:List (Addr×Obj)}{σ:St}{H:Hp}{s:Shared}(I:Inv X (jv++pl) σ H s):Inv X jv σ H s:=I.pins_of fun p hp=>I.pin p (List.mem_append_right _ (List.mem_append_left _ hp))
theorem avo{iter:Expr}{body:List Stmt}{wi:TI}{g:TG}{tb:TS}{pos:Pos}(hp:PassesOwn (model X.prog X.w) X.A X.env X.xe)(hc:X.calm=true)(hi:PI X tg iter wi)(hg:PG X tg g)(hb:PSs X body tb)
  (hs:∀x,foldedSetIterable iter X.env x=pure x:=by intro _;rfl):PS X (.For tg iter body [] pos) (tFor wi g tb):=by
 intro jv s σ H D I h;refine wpAny_For (thn (hi jv s σ H _ I h) fun v s1 h1=>thn h1 fun itv s2 h2 =>?_) hs
 obtain⟨it,fp,tn,J,H2,e,I2,T,st2,f2,W,⟨m0,w0⟩,turn⟩:=h2;subst e;have stat:∀{H':Hp},(∀b∈fp,H' b=none)->∀b∈fp,FpOk X jv H' b:=fun hn b hb=>⟨hn b hb,(f2 b hb).2⟩
 refine codeAny_forLoop_any (fun n s'=>∃i σ' H',Inv X jv σ' H' s'/\tn i s'.heap/\(∀b∈fp,H' b=none)/\W i n σ' H') ?_ m0 ⟨0,σ,H2,I2,st2,fun b hb=>(f2 b hb).1,w0⟩
 rintro n s3 ⟨i,σ3,H3,I3,st3,fr3,w3⟩
 rcases turn i n σ3 H3 w3 with⟨stop,qn⟩ | ⟨go,N,hN,step⟩
 ·refine wpAny_passesOwn hp (thn (T.done X rfl rfl rfl hc i jv s3 σ3 H3 X.xe I3 (stat fr3) st3 stop) fun r s4 ⟨hr,I4⟩ =>?_)
  subst hr;exact wpAny_execs_nil ⟨σ3,H3,I4,qn⟩
 ·refine wpAny_passesOwn hp (thn (T.item X rfl rfl rfl hc i jv s3 σ3 H3 X.xe I3 (stat fr3) st3 go) fun r s4 ⟨u,hr,h4⟩ =>?_)
  subst hr;refine wpAny_passesOwn hp (thn h4 fun _ s5 ⟨x,H5,I5,r5,y5,st5,fr5⟩ =>?_)
  have I5':=I5.pinned (stat fr5) (T.obj _ _ st5);refine wpAny_passesOwn hp (thn (hg _ s5 σ3 H5 x u _ I5' r5 (step x H5 y5)) fun _ s6 ⟨σ6,H6,I6,q6⟩ =>?_)
  refine wpAny_passesOwn hp (thn (hb _ s6 σ6 H6 _ I6 q6) fun f s7 q7 =>?_)
  have again:∀{σ7:St} {H7:Hp},Inv X (jv++ahm fp s5.heap) σ7 H7 s7->N σ7 H7->∃m,m < n/\∃i σ' H',Inv X jv σ' H' s7/\tn i s7.heap/\(∀b∈fp,H' b=none)/\W i m σ' H':=fun{σ7 H7} I7 n7=>by
   obtain⟨m',hm,w7⟩:=hN σ7 H7 n7;refine⟨m',hm,i+1,σ7,H7,I7.unpinned,T.keep _ _ _ st5 fun b hb o e=>(I7.pin (b,o) (List.mem_append_right _ (List.mem_append_right _ (aay hb e)))).1,fun b hb =>?_,w7⟩
   obtain⟨o,e,d⟩:=T.obj _ _ st5 b hb;exact(I7.pin (b,o) (List.mem_append_right _ (List.mem_append_right _ (aay hb e)))).2.1
  cases f with
  | next=>obtain⟨σ7,H7,I7,n7⟩:=q7;exact again I7 n7
  | cont=>obtain⟨σ7,H7,I7,n7⟩:=q7;exact again I7 n7
  | brk=>obtain⟨σ7,H7,I7,q7⟩:=q7;exact⟨σ7,H7,I7.unpinned,q7⟩
  | ret v=>obtain⟨x7,σ7,H7,I7,r7,q7⟩:=q7;exact⟨x7,σ7,H7,I7.unpinned,r7,q7⟩
end
abbrev R2:=V->V->Hp->VK->Prop
def OpR(X:Cx)(f:Value->Value->Sem Value)(r:R2):Prop :=
 ∀(jv:List (Addr×Obj)) (s:Shared) (σ:St) (H:Hp) (x y:V) (v u:Value) (Q:VK),Inv X jv σ H s->RelV x v->RelV y u->r x y H Q ->
  wpAny (model X.prog X.w) X.A (f v u) (EP X jv σ Q) X.xe s
def UnR(X:Cx)(f:Value->Sem Value)(r:V->Hp->VK->Prop):Prop :=
 ∀(jv:List (Addr×Obj)) (s:Shared) (σ:St) (H:Hp) (x:V) (v:Value) (Q:VK),Inv X jv σ H s->RelV x v->r x H Q ->
  wpAny (model X.prog X.w) X.A (f v) (EP X jv σ Q) X.xe s
def aau(X:Cx)(f:Value)(r:List V->Hp->VK->Prop):Prop :=
 ∀(jv:List (Addr×Obj)) (s:Shared) (σ:St) (H:Hp) (xs:List V) (us:List Value) (Q:VK),Inv X jv σ H s->Vals xs us->r xs H Q ->
  wpAny (model X.prog X.w) X.A (call f us) (EP X jv σ Q) X.xe s
def tOp(r:R2)(ta tb:TE):TE:=fun σ H Q=>ta σ H fun x H1=>tb σ H1 fun y H2=>r x y H2 Q
def tUn(r:V->Hp->VK->Prop)(ta:TE):TE:=fun σ H Q=>ta σ H fun x H1=>r x H1 Q
def rI(C:Int->Int->Prop)(g:Int->Int->V):R2:=fun x y H Q=>∃i j,x=.int i/\y=.int j/\C i j/\Q (g i j) H
def rI0(g:Int->Int->V):R2:=fun x y H Q=>∃i j,x=.int i/\y=.int j/\Q (g i j) H
def rU(g:Int->V):V->Hp->VK->Prop:=fun x H Q=>∃i,x=.int i/\Q (g i) H
section
variable{X:Cx}{a b c:Expr}{ta tb tc:TE}{pos:Pos}
theorem binT(ha:PE X a ta)(hb:PE X b tb){jv:List (Addr×Obj)}{s:Shared}{σ:St}{H:Hp}{R:V->V->Hp->Prop}(I:Inv X jv σ H s)
  (h:ta σ H fun x H1=>tb σ H1 fun y H2=>R x y H2) {Q:Value->Shared->Prop} {f:Value->Value->Sem Value}
  (hf:∀v u s2 x y H2,Inv X jv σ H2 s2->RelV x v->RelV y u->R x y H2->wpAny (model X.prog X.w) X.A (f v u) Q X.xe s2) :
  wpAny (model X.prog X.w) X.A (eval a X.env) (fun v s₁=>wpAny (model X.prog X.w) X.A (eval b X.env) (fun u s₂=>wpAny (model X.prog X.w) X.A (f v u) Q X.xe s₂) X.xe s₁) X.xe s:=by
 refine thn (ha jv s σ H _ I h) fun v s1 ⟨x,H1,I1,r1,q1⟩ =>?_
 refine thn (hb jv s1 σ H1 _ I1 q1) fun u s2 ⟨y,H2,I2,r2,q2⟩ =>?_
 exact hf v u s2 x y H2 I2 r1 r2 q2
theorem ay4{op:Operator}{r:R2}(ho:OpR X (binaryOp op) r)(ha:PE X a ta)(hb:PE X b tb):PE X (.BinOp a op b pos) (tOp r ta tb):=by
 intro jv s σ H Q I h;exact wpAny_BinOp (binT ha hb I h fun v u s2 x y H2 I2 rx ry q=>ho jv s2 σ H2 x y v u Q I2 rx ry q)
theorem ay3{op:UnaryOp}{r:V->Hp->VK->Prop}(ho:UnR X (unaryOp op) r)(ha:PE X a ta):PE X (.UnaryOp op a pos) (tUn r ta):=by
 intro jv s σ H Q I h;exact UnaryOp_ (thn (ha jv s σ H _ I h) fun v s1 ⟨x,H1,I1,r1,q1⟩=>ho jv s1 σ H1 x v Q I1 r1 q1)
theorem opI{f:Value->Value->Sem Value}{C:Int->Int->Prop}{g:Int->Int->Int}
  (rule:∀(i j:Int) (t u:Tok) (s:Shared) (Q:Value->Shared->Prop) (E:Value->Shared->Prop),C i j->Q (.int (g i j) s.toks) { s with toks:=s.toks+1 }->wpAny (model X.prog X.w) X.A (f (.int i t) (.int j u)) Q E s) :
  OpR X f (rI C fun i j=>.int (g i j)):=by
 intro jv s σ H x y v u Q I rx ry h;obtain⟨i,j,rfl,rfl,hc,q⟩:=h;obtain⟨t,rfl⟩:=rx;obtain⟨t',rfl⟩:=ry;exact rule i j t t' s _ _ hc ⟨.int (g i j),H,I.tok _,⟨_,rfl⟩,q⟩
theorem opI0{f:Value->Value->Sem Value}{g:Int->Int->Int}
  (rule:∀(i j:Int) (t u:Tok) (s:Shared) (Q:Value->Shared->Prop) (E:Value->Shared->Prop),Q (.int (g i j) s.toks) { s with toks:=s.toks+1 }->wpAny (model X.prog X.w) X.A (f (.int i t) (.int j u)) Q E s) :
  OpR X f (rI0 fun i j=>.int (g i j)):=by
 intro jv s σ H x y v u Q I rx ry h;obtain⟨i,j,rfl,rfl,q⟩:=h;obtain⟨t,rfl⟩:=rx;obtain⟨t',rfl⟩:=ry;exact rule i j t t' s _ _ ⟨.int (g i j),H,I.tok _,⟨_,rfl⟩,q⟩
theorem opB0{f:Value->Value->Sem Value}{g:Int->Int->Bool}
  (rule:∀(i j:Int) (t u:Tok) (s:Shared) (Q:Value->Shared->Prop) (E:Value->Shared->Prop),Q (.bool (g i j)) s->wpAny (model X.prog X.w) X.A (f (.int i t) (.int j u)) Q E s) :
  OpR X f (rI0 fun i j=>.bl (g i j)):=by
 intro jv s σ H x y v u Q I rx ry h;obtain⟨i,j,rfl,rfl,q⟩:=h;obtain⟨t,rfl⟩:=rx;obtain⟨t',rfl⟩:=ry;exact rule i j t t' s _ _ ⟨.bl (g i j),H,I,rfl,q⟩
def CPow(i j:Int):Prop:=0<=j/\j<=1000000/\i.natAbs < 2 ^ 64
def CMul(i j:Int):Prop:=(-(2 ^ 64) < i/\i < 2 ^ 64)∨(-(2 ^ 64) < j/\j < 2 ^ 64)
theorem CMul.ok{i j:Int}(h:CMul i j):IntMulOk i j:=by
 rcases h with⟨h1,h2⟩ | ⟨h1,h2⟩
 ·exact .of_left (intBits_le_64 h1 h2)
 ·exact .of_right (intBits_le_64 h1 h2)
theorem av9:OpR X (binaryOp .Add) (rI0 fun i j=>.int (i+j)):=opI0 fun _ _ _ _ _ _ _ q=>add_int q
theorem av3:OpR X (binaryOp .Sub) (rI0 fun i j=>.int (i - j)):=opI0 fun _ _ _ _ _ _ _ q=>sub_int q
theorem av6:OpR X (binaryOp .Mult) (rI CMul fun i j=>.int (i*j)):=opI fun _ _ _ _ _ _ _ hc q=>mul_int q hc.ok
theorem av7:OpR X (binaryOp .Mod) (rI (fun _ j=>0 < j) fun i j=>.int (i % j)):=opI fun i j _ _ _ _ _ hc q=>by
 have h1:(0:Int) < j:=hc;exact mod_int' (by omega) (by rw[Int.fmod_eq_emod_of_nonneg i (by omega)];exact q)
theorem av5:OpR X (binaryOp .Pow) (rI CPow fun i j=>.int (i ^ j.toNat)):=opI fun _ _ _ _ _ _ _ hc q=>pow_int_small hc.1 hc.2.1 hc.2.2 q
theorem unI{f:Value->Sem Value}{g:Int->Int}
  (rule:∀(i:Int) (t:Tok) (s:Shared) (Q:Value->Shared->Prop) (E:Value->Shared->Prop),Q (.int (g i) s.toks) { s with toks:=s.toks+1 }->wpAny (model X.prog X.w) X.A (f (.int i t)) Q E s) :
  UnR X f (rU fun i=>.int (g i)):=by
 intro jv s σ H x v Q I rx h;obtain⟨i,rfl,q⟩:=h;obtain⟨t,rfl⟩:=rx;exact rule i t s _ _ ⟨.int (g i),H,I.tok _,⟨_,rfl⟩,q⟩
theorem auy:UnR X (unaryOp .USub) (rU fun i=>.int (-i)):=unI fun _ _ _ _ _ q=>neg_int q
end
section
variable{X:Cx}{a b c:Expr}{ta tb tc:TE}{pos:Pos}
theorem aza:OpR X (compareOp .Lt) (rI0 fun i j=>.bl (decide (i < j))):=opB0 fun _ _ _ _ _ _ _ q=>lt_int q
theorem ap4:OpR X (compareOp .LtE) (rI0 fun i j=>.bl (decide (i<=j))):=opB0 fun _ _ _ _ _ _ _ q=>le_int q
theorem azb:OpR X (compareOp .GtE) (rI0 fun i j=>.bl (decide (j<=i))):=opB0 fun _ _ _ _ _ _ _ q=>ge_int q
theorem jq(b:Expr){op:CmpOp}(h:op≠.In:=by decide)(h2:op≠.NotIn:=by decide):behindInMarks op b=false:=by
 have e1:(op==CmpOp.In)=false:=by cases op <;> first | rfl | exact absurd rfl h
 have e2:(op==CmpOp.NotIn)=false:=by cases op <;> first | rfl | exact absurd rfl h2
 cases b <;> simp[behindInMarks,e1,e2]
theorem atc{op:CmpOp}{r:R2}(ho:OpR X (compareOp op) r)(ha:PE X a ta)(hb:PE X b tb)(hm:behindInMarks op b=false):PE X (.Compare a [op] [b] pos) (tOp r ta tb):=by
 intro jv s σ H Q I h;exact wpAny_Compare1 (binT ha hb I h fun v u s2 x y H2 I2 rx ry q=>ho jv s2 σ H2 x y v u Q I2 rx ry q) hm
def ayn(t:TE):TT:=fun σ H Q=>t σ H fun x H'=>∃k,x=.bl k/\Q k H'
theorem asu{op:CmpOp}{r:R2}(ho:OpR X (compareOp op) r)(ha:PE X a ta)(hb:PE X b tb)(hm:behindInMarks op b=false):PT X (.Compare a [op] [b] pos) (ayn (tOp r ta tb)):=by
 intro jv s σ H Q I h;refine wpAny_isTrue_Compare1 (thn (ha jv s σ H _ I h) fun v s1 ⟨x,H1,I1,r1,q1⟩=>thn (hb jv s1 σ H1 _ I1 q1) fun u s2 ⟨y,H2,I2,r2,q2⟩ =>
  thn (ho jv s2 σ H2 x y v u _ I2 r1 r2 q2) fun c s3 ⟨z,H3,I3,r3,k,e,q3⟩ =>?_) hm
 subst e;cases r3;exact wpAny_truthy_bool ⟨H3,I3,q3⟩
def arj(r r':R2)(ta tb tc:TE):TE:=fun σ H Q=>ta σ H fun x H1=>tb σ H1 fun y H2=>r x y H2 fun z H3=>∃k,z=.bl k /\
 (if k=true then tc σ H3 fun w' H4=>r' y w' H4 Q else Q (.bl false) H3)
theorem ap0{op op':CmpOp}{r r':R2}(ho:OpR X (compareOp op) r)(ho':OpR X (compareOp op') r')(ha:PE X a ta)(hb:PE X b tb)(hc:PE X c tc)
  (hm:lastMarks [op,op'] [b,c]=false:=by with_unfolding_all rfl):PE X (.Compare a [op,op'] [b,c] pos) (arj r r' ta tb tc):=by
 intro jv s σ H Q I h;refine Compare_chain (thn (ha jv s σ H _ I h) fun v s1 ⟨x,H1,I1,r1,q1⟩=>chain_link (thn (hb jv s1 σ H1 _ I1 q1) fun u s2 ⟨y,H2,I2,r2,q2⟩ =>
  thn (ho jv s2 σ H2 x y v u _ I2 r1 r2 q2) fun d s3 ⟨z,H3,I3,r3,k,e,q3⟩ =>?_)) hm
 subst e;cases r3;refine wpAny_truthy_bool ?_;cases k with
 | false=>exact ite_ff ⟨.bl false,H3,I3,rfl,q3⟩
 | true=>exact ite_tt (chain_last (thn (hc jv s3 σ H3 _ I3 q3) fun w' s4 ⟨z',H4,I4,r4,q4⟩=>ho' jv s4 σ H4 y z' u w' Q I4 r2 r4 q4))
theorem akd:(sizeLine:Nat) < 2 ^ 63:=by rw[sizeLine_eq];decide
theorem alh:OpR X (binaryOp .Add) (fun x y H Q=>∃i j,x=.str i/\y=.str j/\i.length+j.length<=sizeLine/\Q (.str (i++j)) H):=by
 intro jv s σ H x y v u Q I rx ry h;obtain⟨i,j,rfl,rfl,hz,q⟩:=h;obtain⟨t,rfl⟩:=rx;obtain⟨t',rfl⟩:=ry;exact add_str (fun t' tk=>⟨.str (i++j),H,I.tok _,⟨_,rfl⟩,q⟩) hz
theorem vals1{x:V}{us:List Value}(r:Vals [x] us):∃u,us=[u]/\RelV x u:=by
 cases r with
 | cons r1 r2=>cases r2;exact⟨_,rfl,r1⟩
theorem vals2{x y:V}{us:List Value}(r:Vals [x,y] us):∃u w',us=[u,w']/\RelV x u/\RelV y w':=by
 cases r with
 | cons r1 r2 =>
  cases r2 with
  | cons r3 r4=>cases r4;exact⟨_,_,rfl,r1,r3⟩
theorem aoq(hc:X.calm=true):aau X (.builtin "max") (fun xs H Q=>∃i j,xs=[.int i,.int j]/\Q (.int (if j > i then j else i)) H):=by
 intro jv s σ H xs us Q I r h;obtain⟨i,j,rfl,q⟩:=h;obtain⟨u,w',rfl,⟨t,rfl⟩,⟨t',rfl⟩⟩:=vals2 r;refine max_two_ints (I.ok.hd hc) fun h' tk k=>⟨_,H,I.kept k,?_,q⟩
 by_cases hj:j > i
 ·rw[if_pos hj,if_pos hj];exact⟨_,rfl⟩
 ·rw[if_neg hj,if_neg hj];exact⟨_,rfl⟩
theorem ail:aau X (.type "int") (fun xs H Q=>(∃i,xs=[.int i]/\Q (.int i) H)∨∃k,xs=[.bl k]/\Q (.int (if k then 1 else 0)) H):=by
 intro jv s σ H xs us Q I r h;rcases h with⟨i,rfl,q⟩ | ⟨k,rfl,q⟩
 ·obtain⟨u,rfl,t,rfl⟩:=vals1 r;exact call_int_int ⟨.int i,H,I,⟨_,rfl⟩,q⟩
 ·obtain⟨u,rfl,r1⟩:=vals1 r;cases r1;exact call_int_bool ⟨.int (if k then 1 else 0),H,I.tok _,⟨_,rfl⟩,q⟩
end
structure ObjM (h:Heap) (x dx C:Addr) (mA:Str->Option Value):Prop where
 obj:h.get? x=some (PySem.W.instObj C dx)
 ns:h.Ns1 dx mA
 ne:dx≠x
theorem anb{h:Heap}{dx:Addr}{mA:Str->Option Value}(n:h.Ns1 dx mA):∃od,h.get? dx=some od/\∀name,PySem.W.lookIn name od=some (mA name):=by
 obtain⟨o,es,ep,ho,hd,hk,_,hm⟩:=n;refine⟨o,ho,fun name =>?_⟩
 have e:=hm name;unfold nsFind findBy at e;rw[<-Array.find?_toList] at e;unfold PySem.W.lookIn;rw[hd];dsimp only;split
 ·rename_i y q;rw[q] at e;exact congrArg some e
 ·rename_i q;rw[q] at e;have a:es.toList.any (·.refKey)=false:=by
   rw[List.any_eq_false];intro y hy;obtain⟨z,t,hkey⟩:=hk y (Array.mem_toList_iff.mp hy);simp[DictEntry.refKey,hkey]
  have a':¬es.toList.any (·.refKey)=true:=by rw[a];exact Bool.false_ne_true
  rw[if_neg a'];exact congrArg some e
theorem ObjM.look{h:Heap}{x dx C:Addr}{mA:Str->Option Value}(I:ObjM h x dx C mA):∃od,PySem.W.InstAt h x (PySem.W.instObj C dx) C (some od)/\∀name,PySem.W.lookIn name od=some (mA name) :=
 let ⟨od,ho,hl⟩:=anb I.ns
 ⟨od,⟨I.obj,rfl,rfl,ho⟩,hl⟩
section
variable{prog:Program}{w:World}{A:Around}{E:Value->Shared->Prop}{s:Shared}{K:Fg9}{x dx C f:Addr}{mA:Str->Option Value}{name:Str}{v:Value}
end
section
variable{P:Program}{w:World}{H H':Hp}{h h':Heap}{a C dx:Addr}{fs fs':List (Str×V)}
theorem atz(hok:HOk P w H h)(e:H a=some (.ins C dx fs)):∃mA,ObjM h a dx C mA/\(∀f,RelO (fs.lookup f) (mA f))/\PySem.Within mA (fs.map (·.1))/\fs.length<=1000/\H dx=some (.own a):=by
 obtain⟨d,z,ne,ob,mA,n,r,q⟩:=(show ut P w H h a (.ins C dx fs) from hok a _ e)
 exact⟨mA,⟨ob,n,ne⟩,r,q,z,d⟩
end
structure Cls (K:Fg9) (C:Addr):Prop where
 pg:PySem.W.plainGet K C Str.empty=true
 hd:PySem.W.hasDictIn K C=true
 po:PySem.W.plainOver K C=true
 sa:findIn K (.ref C) "__setattr__" = some (some (.builtin "object.__setattr__"))
theorem Cls.get{K:Fg9}{C:Addr}(c:Cls K C)(f:Str):PySem.W.plainGet K C f=true:=c.pg
structure Con (K:Fg9) (C:Addr) (f:Str) (v:V) (u:Value):Prop where
 at_:findIn K (.ref C) f=some (some u)
 rel:RelV v u
 get:PySem.W.specialIn K u "__get__" = some none
 cp:PySem.W.copiedNames.contains f=false
structure Meth (K:Fg9) (C:Addr) (m:Str) (f:Addr):Prop where
 at_:findIn K (.ref C) m=some (some (.ref f))
 fn:PySem.W.isFn K (.ref f)=true
 kp:keepIn K (.ref f)=true
section
variable{X:Cx}{jv:List (Addr×Obj)}{σ:St}{H:Hp}{s:Shared}{a C dx:Addr}{fs:List (Str×V)}{f:Str}{v:V}{A:Around}{E:Value->Shared->Prop}
theorem Inv.made(I:Inv X jv σ H s):Inv X jv σ (upd (upd H s.heap.objs.size (.own (s.heap.objs.size+1))) (s.heap.objs.size+1) (.ins C s.heap.objs.size []))
  { s with heap:=(s.heap.push PySem.W.emptyDict).push (PySem.W.instObj C s.heap.objs.size) }:=by
 have e1:(s.heap.push PySem.W.emptyDict).get? s.heap.objs.size=some PySem.W.emptyDict:=Heap.get?_push_size s.heap rfl;have e2:((s.heap.push PySem.W.emptyDict).push (PySem.W.instObj C s.heap.objs.size)).get? (s.heap.objs.size+1)=some (PySem.W.instObj C s.heap.objs.size):=by
  have:=Heap.get?_push_size (s.heap.push PySem.W.emptyDict) (o:=PySem.W.instObj C s.heap.objs.size) rfl;rwa[Heap.size_push] at this
 have e3:(s.heap.push PySem.W.emptyDict).Ns s.heap.objs.size (fun _=>none):=⟨PySem.W.emptyDict,#[],_,e1,rfl,(fun e he=>absurd he (by simp)),fun _=>rfl⟩
 have I1:=I.laid (a:=s.heap.objs.size) (o:=.own (s.heap.objs.size+1)) (h':=s.heap.push PySem.W.emptyDict) (t':=s.toks) (fun b u q=>Heap.get?_push_of_some _ q) (Nat.le_refl _) ⟨_,e1⟩
 refine I1.laid (a:=s.heap.objs.size+1) (o:=.ins C s.heap.objs.size []) (t':=s.toks) (fun b u q=>Heap.get?_push_of_some _ q) (Nat.le_of_eq (Heap.size_push _ _)) ?_
 have ne:s.heap.objs.size≠s.heap.objs.size+1:=Nat.ne_of_lt (Nat.lt_succ_self _);refine⟨by rw[cj ne,gb],Nat.zero_le _,ne,e2,fun _=>none,(Heap.Ns1.of_empty e3).at fun o q=>Heap.get?_push_of_some _ q,fun _=>True.intro,fun y hy=>absurd rfl hy⟩
end
section
variable{X:Cx}{o e value:Expr}{f:Str}{pos pos' tpos:Pos}{ta tv:TE}
end
section
variable{X:Cx}{jv:List (Addr×Obj)}{σ:St}{H:Hp}{s:Shared}{A:Around}{E:Value->Shared->Prop}{Q:Value->Shared->Prop}{c:Value}{b:Bool}
inductive TyOf (K:Fg9) (H:Hp):V->Value->Prop where
 | non:TyOf K H .non (.type "NoneType")
 | bl (x:Bool):TyOf K H (.bl x) (.type "bool")
 | int (i:Int):TyOf K H (.int i) (.type "int")
 | str (x:Str):TyOf K H (.str x) (.type "str")
 | flt (x:UInt64):TyOf K H (.flt x) (.type "float")
 | lst {a:Addr} {xs:List V} (e:H a=some (.lst xs)):TyOf K H (.ref a) (.type "list")
 | frz {a:Addr} {o:Obj} {xs:List V} (e:H a=some (.frz o (.lst xs))):TyOf K H (.ref a) (.type "list")
 | tup {a:Addr} {xs:List V} (e:H a=some (.tup xs)):TyOf K H (.ref a) (.type "tuple")
 | dK {a:Addr} {kvs:List (Key×V)} (e:H a=some (.dK kvs)):TyOf K H (.ref a) (.type "dict")
 | dT {a:Addr} {kvs:List (List Key×V)} (e:H a=some (.dT kvs)):TyOf K H (.ref a) (.type "dict")
 | ins {a C dx:Addr} {fs:List (Str×V)} (e:H a=some (.ins C dx fs)) (cl:Cls K C) (ha:findIn K (.ref C) "__class__" = some (some (.builtin "object.__class__")))
   (hn:PySem.W.specialIn K (.builtin "object.__class__") "__get__" = some (some (.builtin "getset_descriptor.__get__"))) (htk:PySem.W.takesIn K (.builtin "object.__class__")=some true)
   (hm:PySem.W.mroIn K C (.type "object")=some true):TyOf K H (.ref a) (.ref C)
theorem anu{x:V}{u t:Value}(I:Inv X jv σ H s)(rx:RelV x u)(ty:TyOf X.K H x t)(e:PySem.W.kitOne X.K t c=some b)(h:∀tk,Q (.bool b) { s with toks:=tk }) :
  wpAny (model X.prog X.w) A (call (.builtin "isinstance") [u,c]) Q E s:=by
 cases ty with
 | non=>cases(show u=Value.none from rx);exact PySem.W.kia_one PySem.W.kitx_none I.kIn True.intro e (fun z=>nomatch z) h
 | bl y=>cases(show u=Value.bool y from rx);exact PySem.W.kia_one PySem.W.kitx_bool I.kIn True.intro e (fun z=>nomatch z) h
 | int i=>obtain⟨t,q⟩:=(show ∃t,u=Value.int i t from rx);cases q;exact PySem.W.kia_one PySem.W.kitx_int I.kIn True.intro e (fun z=>nomatch z) h
 | str y=>obtain⟨t,q⟩:=(show ∃t,u=Value.str y t from rx);cases q;exact PySem.W.kia_one PySem.W.kitx_str I.kIn True.intro e (fun z=>nomatch z) h
 | flt y=>obtain⟨t,q⟩:=(show ∃t,u=Value.float y t from rx);cases q;exact PySem.W.kia_one PySem.W.kitx_float I.kIn True.intro e (fun z=>nomatch z) h
 | @lst a xs ea =>
  cases(show u=Value.ref a from rx)
  obtain⟨_,_,n,_,h1⟩:=(show ut X.prog X.w H s.heap a (.lst xs) from I.hok a _ ea)
  exact PySem.W.kia_one PySem.W.kitx_list I.kIn ⟨_,h1,rfl⟩ e (fun z=>nomatch z) h
 | @frz a ob xs ea =>
  cases(show u=Value.ref a from rx)
  obtain⟨_,_,_,n,_,h1⟩:=(show ut X.prog X.w H s.heap a (.frz ob (.lst xs)) from I.hok a _ ea)
  exact PySem.W.kia_one PySem.W.kitx_list I.kIn ⟨_,h1,rfl⟩ e (fun z=>nomatch z) h
 | @tup a xs ea =>
  cases(show u=Value.ref a from rx)
  obtain⟨_,_,_,p⟩:=(show ut X.prog X.w H s.heap a (.tup xs) from I.hok a _ ea)
  obtain⟨o,h1,h2,_⟩:=p;exact PySem.W.kia_one PySem.W.kitx_tuple I.kIn ⟨o,h1,h2⟩ e (fun z=>nomatch z) h
 | @dK a kvs ea =>
  cases(show u=Value.ref a from rx)
  obtain⟨_,_,vs,_,p⟩:=(show ut X.prog X.w H s.heap a (.dK kvs) from I.hok a _ ea)
  obtain⟨o,es,ep,h1,h2,_⟩:=p;exact PySem.W.kia_one PySem.W.kitx_dict I.kIn ⟨o,h1,h2.1⟩ e (fun z=>nomatch z) h
 | @dT a kvs ea =>
  cases(show u=Value.ref a from rx)
  obtain⟨_,_,xs,_,o,es,ep,h1,h2,_⟩:=(show ut X.prog X.w H s.heap a (.dT kvs) from I.hok a _ ea)
  exact PySem.W.kia_one PySem.W.kitx_dict I.kIn ⟨o,h1,h2.1⟩ e (fun z=>nomatch z) h
 | @ins a C dx fs ea cl ha hn htk hm =>
  cases(show u=Value.ref a from rx)
  obtain⟨mA,O,_⟩:=atz I.hok ea;obtain⟨od,J,_⟩:=O.look;exact PySem.W.kia_one (PySem.W.kitx_own (cl.get _) cl.hd ha hn htk hm) I.kIn J e (fun z=>nomatch z) h
end
structure Room (k:Nat) (A:Around):Prop where
 hd:A.handled=none
 dp:A.depth+3*k+5 < recursionLimit
 un:A.units+16*k+200 < cLine
 gd:A.guards=some []
theorem Room.mono{j k:Nat}{A:Around}(r:Room k A)(h:j<=k):Room j A:=⟨r.hd,by have:=r.dp;omega,by have:=r.un;omega,r.gd⟩
theorem Room.deeper{k:Nat}{A:Around}(r:Room (k+1) A)(env:Env):Room k (A.deeper env) :=
 ⟨r.hd,by have:=r.dp;show A.depth+1+3*k+5 < _;omega,by have:=r.un;show A.units+3+16*k+200 < _;omega,r.gd⟩
theorem Room.depth{k:Nat}{A:Around}(r:Room k A):A.depth < recursionLimit:=by have:=r.dp;omega
theorem Room.units{k:Nat}{A:Around}(r:Room k A):A.units+64 < cLine:=by have:=r.un;omega
def tNil:TA:=fun _ H Q=>Q [] H
def ayt(ta:TE)(tr:TA):TA:=fun σ H Q=>ta σ H fun x H1=>tr σ H1 fun xs H2=>Q (x::xs) H2
section
variable{X:Cx}{e:Expr}{es:List Expr}{te:TE}{t:TA}{pos:Pos}
theorem aeg:PA X [] tNil:=fun _ _ _ _ H Q I h=>Calls.spliced_nil ⟨[],H,I,.nil,h⟩
theorem vq(ha:PE X e te)(hr:PA X es t)(hs:starEach (e::es) X.env=(false,eval e X.env)::starEach es X.env:=by rfl):PA X (e::es) (ayt te t):=by
 intro pos jv s σ H Q I h;rw[hs];show wpAny _ _ (spliced ((false,eval e X.env)::backTo pos (starEach es X.env))) _ _ s;refine Calls.spliced_cons (thn (ha jv s σ H _ I h) fun u s1 ⟨x,H1,I1,r1,q1⟩ =>?_)
 exact thn (hr pos jv s1 σ H1 _ I1 q1) fun us s2 ⟨xs,H2,I2,r2,q2⟩=>⟨x::xs,H2,I2,.cons r1 r2,q2⟩
def tTup(t:TA):TE:=fun σ H Q=>t σ H fun xs H1=>xs.length<=sizeLine/\∀p,H1 p=none->Q (.ref p) (upd H1 p (.tup xs))
def tLst(t:TA):TE:=fun σ H Q=>t σ H fun xs H1=>xs.length<=sizeLine/\∀p,H1 p=none->Q (.ref p) (upd H1 p (.lst xs))
theorem avu{x1}(h:PA X es t):PE X (.Tuple es x1 pos) (tTup t):=by
 intro jv s σ H Q I hq;refine wpAny_Tuple_spliced (thn (h pos jv s σ H _ I hq) fun us s1 ⟨xs,H1,I1,r,z,q⟩=>⟨by rw[<-r.length];exact z,?_⟩)
 have hf:H1 s1.heap.objs.size=none:=I1.hok.fresh (Nat.le_refl _);refine⟨.ref s1.heap.objs.size,upd H1 s1.heap.objs.size (.tup xs),I1.laid (t':=s1.toks) (fun b u e=>Heap.get?_push_of_some _ e) (Nat.le_refl _) ?_,rfl,q _ hf⟩
 exact⟨z,us,r,⟨_,Heap.get?_push_size _ rfl,rfl,rfl,_,rfl⟩⟩
theorem av0(h:PA X es t):PE X (.List es pos) (tLst t):=by
 intro jv s σ H Q I hq;refine wpAny_List_spliced (thn (h pos jv s σ H _ I hq) fun us s1 ⟨xs,H1,I1,r,z,q⟩=>⟨by rw[<-r.length];exact z,?_⟩)
 have hf:H1 s1.heap.objs.size=none:=I1.hok.fresh (Nat.le_refl _);refine⟨.ref s1.heap.objs.size,upd H1 s1.heap.objs.size (.lst xs),I1.laid (t':=s1.toks) (fun b u e=>Heap.get?_push_of_some _ e) (Nat.le_refl _) ?_,rfl,q _ hf⟩
 exact⟨z,us,0,r,Heap.get?_push_size _ rfl⟩
end
abbrev Sp:=List V->Hp->VK->XK->Prop
abbrev CXT:=List Env->Hp->Shared->XK->Value->Shared->Prop
structure Env0 (P:Program) (w:World) (K:Fg9) (mg:Str->Option Value) (base:Heap) (A:Around) (outer:List Env) (s:Shared) (H:Hp):Prop where
 frames:A.frames=some outer
 mod:Mod K mg base
 bs:∀b o,base.get? b=some o->s.heap.get? b=some o/\H b=none
 bsz:base.objs.size<=s.heap.objs.size
 funs:s.heap.FunFrames base outer
 frf:∀b∈frs outer,H b=none
 hok:HOk P w H s.heap
 bare:AllBare s.gens
def CE(outer:List Env)(P:Program)(w:World)(H:Hp)(s:Shared)(Q:VK)(u:Value)(s':Shared):Prop :=
 ∃v H',s'.os=s.os/\AllBare s'.gens/\Un (frs outer) [] H H' s.heap s'.heap/\HOk P w H' s'.heap/\RelV v u/\Q v H'
def CR(CX:CXT)(outer:List Env)(P:Program)(w:World)(H:Hp)(s:Shared)(Q:VK)(E:XK)(r:Result)(s':Shared):Prop :=
 match r with
 | .ok (.ret u)=>CE outer P w H s Q u s'
 | .ok _=>False
 | .error e=>CX outer H s E e s'
structure FnOk (P:Program) (w:World) (K:Fg9) (mg:Str->Option Value) (base:Heap) (CX:CXT) (k:Nat) (f:Addr) (fd:FuncData) (ps:List Str) (sp:Sp):Prop where
 len:∀vs H Q E,sp vs H Q E->vs.length=ps.length
 run:∀(A:Around) (outer:List Env) (s:Shared) (H:Hp) (args:Args) (us:List Value) (vs:List V) (Q:VK) (E:XK),Room k A->Env0 P w K mg base A outer s H->BindsTo s fd args (ps.zip us)->Vals vs us->sp vs H Q E ->
  codeAny (model P w) A (.call (.ref f) args) (CR CX outer P w H s Q E) s
section
variable{X:Cx}{jv:List (Addr×Obj)}{σ:St}{H:Hp}{s s':Shared}
theorem Inv.env0(I:Inv X jv σ H s):Env0 X.prog X.w X.K X.mg X.base X.A X.stack s H :=
 ⟨I.ok.frames,I.ok.mod,I.bs,Nat.le_trans I.ok.bsz I.sz,I.stack,I.stkFree,I.hok,I.bare⟩
theorem Inv.after{Q:VK}{u:Value}(I:Inv X jv σ H s)(h:CE X.stack X.prog X.w H s Q u s'):EP X jv σ Q u s':=by
 obtain⟨v,H',os,bare,un,hok,r,q⟩:=h;obtain⟨hh,g,d,t,os'⟩:=s';obtain rfl:os'=s.os:=os;exact⟨v,H',I.call (h':=hh) (g':=g) (d':=d) (t':=t) (ch:=[]) un hok bare (fun b z=>absurd z (by simp)),r,q⟩
end
def au3(sp:Sp)(dvs:List V)(E:XK)(t:TA):TE:=fun σ H Q=>t σ H fun vs H1=>sp (vs++dvs) H1 Q E
def Binds(K:Fg9)(fd:FuncData)(ps:List Str)(ds:List Value):Prop :=
 ∀(s:Shared) (us:List Value),K.In s.heap->(us++ds).length=ps.length->BindsTo s fd ⟨us,[]⟩ (ps.zip (us++ds))
theorem Binds.all{K:Fg9}{fd:FuncData}{ps:List Str}(h:∀us:List Value,us.length=ps.length->bindArgs fd ⟨us,[]⟩=pure (ps.zip us)):Binds K fd ps []:=fun s us _ hl=>by
 rw[List.append_nil] at hl ⊢
 exact .of_eq (h us hl)
def ao7(CX:CXT)(X:Cx)(E:XK):Prop:=∀(jv:List (Addr×Obj)) (σ:St) (H:Hp) (s:Shared) (e:Value) (s':Shared),Inv X jv σ H s->CX X.stack H s E e s'->X.xe e s'
section
variable{X:Cx}{CX:CXT}{k:Nat}{f C:Addr}{fd:FuncData}{ps:List Str}{sp:Sp}{dvs:List V}{ds:List Value}{E:XK}{x m:Str}{p pos apos:Pos}{e o:Expr}{es:List Expr}{ta:TE}{t:TA}
theorem avb{jv:List (Addr×Obj)}{σ:St}{H:Hp}{s:Shared}{Q:VK}{us:List Value}{vs:List V}(F:FnOk X.prog X.w X.K X.mg X.base CX k f fd ps sp)(hr:Room k X.A)(hb:Binds X.K fd ps ds)(hd:Vals dvs ds)(hx:ao7 CX X E)
  (I:Inv X jv σ H s) (r:Vals vs us) (h:sp (vs++dvs) H Q E):wpAny (model X.prog X.w) X.A (call (.ref f) us) (EP X jv σ Q) X.xe s:=by
 have r2:Vals (vs++dvs) (us++ds):=r.append hd;have hl:(us++ds).length=ps.length:=by rw[<-r2.length];exact F.len _ _ _ _ h
 refine wpAny_call (codeAny_mono (F.run X.A X.stack s H ⟨us,[]⟩ (us++ds) (vs++dvs) Q E hr I.env0 (hb s us I.kIn hl) r2 h) fun r s' hq =>?_)
 cases r with
 | error e=>exact hx jv σ H s e s' I hq
 | ok fl =>
  cases fl with
  | ret u=>exact I.after hq
  | next=>exact False.elim hq
  | brk=>exact False.elim hq
  | cont=>exact False.elim hq
theorem atd(F:FnOk X.prog X.w X.K X.mg X.base CX k f fd ps sp)(hr:Room k X.A)(hg:Gl X x)(hm:X.mg x=some (.ref f))(hk:keepIn X.K (.ref f)=true)(hb:Binds X.K fd ps ds)(hd:Vals dvs ds)(hx:ao7 CX X E)
  (ha:PA X (e::es) t) (hdb:(x==("__debug__" : Str))=false:=by decide) (he:starEach (e::es) X.env=(false,eval e X.env)::starEach es X.env:=by rfl) (hpl:(backTo pos (starEach es X.env)).any (·.1)=false:=by rfl) :
  PE X (.Call (.Name x p) (e::es) [] pos) (au3 sp dvs E t):=by
 intro jv s σ H Q I h;refine wpAny_Call_Name_kw (atu I hg hm ?_ hdb);refine PySem.W.callWith_K (h₀:=X.base) I.ok.mod.kin hk (thn (ha pos jv s σ H _ I h) fun us s1 ⟨vs,H1,I1,r,q⟩=>⟨I1.kIn,?_⟩) he hpl
 exact avb F hr hb hd hx I1 r q
structure Mk (K:Fg9) (C f:Addr):Prop where
 makes:PySem.W.makesIn K C=true
 init:findIn K (.ref C) "__init__" = some (some (.ref f))
 fn:PySem.W.isFn K (.ref f)=true
 kp:keepIn K (.ref C)=true
end
section
variable{X:Cx}{CX:CXT}{k:Nat}{f C:Addr}{fd:FuncData}{ps ks:List Str}{sp:Sp}{E:XK}{x m:Str}{p pos apos kpos:Pos}{e o:Expr}{es:List Expr}{kws:List Keyword}{te ta:TE}{t tk:TA}{nm:Option Str}
structure KBinds (K:Fg9) (fd:FuncData) (ps ks:List Str) (g:List Value->List Value->List Value) (gV:List V->List V->List V):Prop where
 to:∀(s:Shared) (us ws:List Value),K.In s.heap->(g us ws).length=ps.length->BindsTo s fd ⟨us,ks.zip ws⟩ (ps.zip (g us ws))
 rel:∀{vs:List V} {us:List Value} {zs:List V} {ws:List Value},Vals vs us->Vals zs ws->Vals (gV vs zs) (g us ws)
variable{g:List Value->List Value->List Value}{gV:List V->List V->List V}
end
structure FnScope (N P:List Str) (sc:Scope):Prop where
 kind:sc.kind=.function
 co:sc.isCoroutine=false
 gen:sc.isGenerator=false
 nd:N.Nodup
 pre:N.take P.length=P
 par:∀x∈P,sc.names.lookup x=some .local∨sc.names.lookup x=some .cell
 nofree:∀y∈sc.names,y.2≠.free
theorem aip{kindOf:Str->Option NameKind}{x:Str}:∀{binds:List (Str×Value)} {m:Str->Option Value},(∀v,(x,v)∉binds)->bindL kindOf binds m x=m x
 | [],_,_=>rfl
 | (n,v)::r,m,h=>by
  unfold bindL;rw[aip fun w hw=>h w (List.mem_cons_of_mem _ hw)]
  split
  ·have:x≠n:=by rintro rfl;exact h v List.mem_cons_self
   simp[this]
  ·rfl
theorem air{kindOf:Str->Option NameKind}{x:Str}:∀{binds:List (Str×Value)} {m:Str->Option Value},(∀v,(x,v)∉binds)->bindC kindOf binds m x=m x
 | [],_,_=>rfl
 | (n,v)::r,m,h=>by
  unfold bindC;rw[air fun w hw=>h w (List.mem_cons_of_mem _ hw)]
  split
  ·rfl
  ·have:x≠n:=by rintro rfl;exact h v List.mem_cons_self
   simp[this]
theorem aiq{kindOf:Str->Option NameKind}{x:Str}{v:Value}:∀{P:List Str} {vs:List Value} {i:Nat} {m:Str->Option Value},P.Nodup->P[i]? = some x->vs[i]? = some v->kindOf x=some .local ->
  bindL kindOf (P.zip vs) m x=some v
 | [],_,_,_,_,h,_,_=>by simp at h
 | _::_,[],_,_,_,_,h,_=>by simp at h
 | p::P,w::vs,0,m,nd,h1,h2,hk=>by
  simp at h1 h2;subst h1;subst h2;show bindL kindOf ((p,w)::P.zip vs) m p=_;unfold bindL;rw[aip fun v hv=>(List.nodup_cons.mp nd).1 (List.of_mem_zip hv).1,if_pos hk]
  simp
 | p::P,w::vs,i+1,m,nd,h1,h2,hk=>by
  show bindL kindOf ((p,w)::P.zip vs) m x=_;unfold bindL;exact aiq (i:=i) (List.nodup_cons.mp nd).2 (by simpa using h1) (by simpa using h2) hk
theorem ais{kindOf:Str->Option NameKind}{x:Str}{v:Value}:∀{P:List Str} {vs:List Value} {i:Nat} {m:Str->Option Value},P.Nodup->P[i]? = some x->vs[i]? = some v->kindOf x≠some .local ->
  bindC kindOf (P.zip vs) m x=some v
 | [],_,_,_,_,h,_,_=>by simp at h
 | _::_,[],_,_,_,_,h,_=>by simp at h
 | p::P,w::vs,0,m,nd,h1,h2,hk=>by
  simp at h1 h2;subst h1;subst h2;show bindC kindOf ((p,w)::P.zip vs) m p=_;unfold bindC;rw[air fun v hv=>(List.nodup_cons.mp nd).1 (List.of_mem_zip hv).1,if_neg hk]
  simp
 | p::P,w::vs,i+1,m,nd,h1,h2,hk=>by
  show bindC kindOf ((p,w)::P.zip vs) m x=_;unfold bindC;exact ais (i:=i) (List.nodup_cons.mp nd).2 (by simpa using h1) (by simpa using h2) hk
def start(N:List Str)(vs:List V):St:=vs.map some++List.replicate (N.length - vs.length) none
def cxOf(CX:CXT)(P:Program)(w:World)(K:Fg9)(mg:Str->Option Value)(base:Heap)(N:List Str)(qual:Str)(scope:Scope)(f:Addr)(cd:Value)(A:Around)(outer:List Env)(s:Shared)(H:Hp)(E:XK):Cx where
 prog:=P
 w:=w
 K:=K
 mg:=mg
 base:=base
 A:=A.deeper (envOfC qual scope s.heap.objs.size f cd)
 N:=N
 s₀:=s
 H₀:=H
 env:=envOfC qual scope s.heap.objs.size f cd
 outer:=outer
 stack:=envOfC qual scope s.heap.objs.size f cd::outer
 ex:=[]
 calm:=true
 fn:=fun _=>true
 pn:=[]
 xe:=fun e s'=>wpAny (model P w) (A.deeper (envOfC qual scope s.heap.objs.size f cd)) (leaving (envOfC qual scope s.heap.objs.size f cd) e) (fun _ s''=>CX outer H s E e s'') (fun e' s''=>CX outer H s E e' s'') s'
theorem aku{sc:Scope}{n:Nat}{x:Str}(h:sc.names.lookup x=some .cell):∃c,(cellsFrom n sc.names []).lookup x=some c:=by
 have q:=PySem.W.cellsFrom_some sc.names n [] (.inl h);exact Option.isSome_iff_exists.mp q
theorem anv{CX:CXT}{P:Program}{w:World}{K:Fg9}{mg:Str->Option Value}{base:Heap}{N ps:List Str}{qual:Str}{scope:Scope}{f:Addr}{cd:Value}{A:Around}{outer:List Env}{s s1:Shared}{H:Hp}{E:XK}{us:List Value}{vs:List V}
  (S:FnScope N ps scope) (hd:A.handled=none) (e0:Env0 P w K mg base A outer s H) (hl:vs.length=ps.length) (r:Vals vs us)
  (x:InCallC s s.heap.objs.size (bindL (envOfC qual scope s.heap.objs.size f cd).kindOf (ps.zip us) fun _=>none) (cellsFrom (s.heap.objs.size+1) scope.names []) (bindC (envOfC qual scope s.heap.objs.size f cd).kindOf (ps.zip us) fun _=>none) s1) :
  Inv (cxOf CX P w K mg base N qual scope f cd A outer s H E) [] (start N vs) H s1:=by
 have hpl:ps.length<=N.length:=by have:=congrArg List.length S.pre;rw[List.length_take] at this;omega
 obtain⟨h1,tk,rfl,hk⟩:=x.done;have noA:∀b:Addr,b∉(cxOf CX P w K mg base N qual scope f cd A outer s H E).ex:=fun b z=>absurd (show b∈([]:List Addr) from z) (by simp)
 refine⟨⟨e0.mod,S.kind,rfl,rfl,Nat.le_refl _,fun y z c h1 h2 =>?_,fun y hy =>?_,fun y c _ h =>?_,fun _=>hd,Around.frames_deeper e0.frames,.inr ⟨rfl,rfl⟩,fun b z=>absurd z (noA b),e0.bs,e0.bsz,fun b _ _=>noA b,fun b z=>absurd z (noA b),e0.funs,e0.frf⟩,
  rfl,e0.bare,Un.kept hk,⟨_,x.toInCall.ns,fun i y v h1 h2 h3 =>?_⟩,fun y c h=>⟨_,x.cell y c h⟩,e0.hok.fresh (Nat.le_refl _),fun y c h =>?_,fun p hp=>absurd (show p∈([]:List (Addr×Obj)) from hp) (by simp),e0.hok.kept hk,?_⟩
 ·exact name_of_addr x.apart (PySem.mem_of_lookup h1) (PySem.mem_of_lookup h2)
 ·have hy:scope.names.lookup y=some .cell∨scope.names.lookup y=some .free:=hy;rcases hy with hy | hy
  ·exact aku hy
  ·exact absurd rfl (S.nofree _ (PySem.mem_of_lookup hy))
 ·exact Nat.le_of_lt (x.above y c (PySem.mem_of_lookup h))
 ·have hi:i < vs.length:=by
   unfold start at h2
   by_cases hi:i < vs.length
   ·exact hi
   ·rw[List.getElem?_append_right (by simpa using hi)] at h2
    rw[List.getElem?_replicate] at h2;split at h2 <;> cases h2
  have ha:vs[i]? = some v:=by
   unfold start at h2;rw[List.getElem?_append_left (by simpa using hi),List.getElem?_map] at h2
   cases e:vs[i]? with
   | none=>rw[e] at h2;cases h2
   | some a=>rw[e] at h2;cases h2;rfl
  obtain⟨u,hu,rv⟩:=r.get ha;have hp:ps[i]? = some y:=by
   rw[<-S.pre,List.getElem?_take_of_lt (by omega)];exact h1
  have ndP:ps.Nodup:=by rw[<-S.pre];exact S.nd.sublist (List.take_sublist _ _)
  refine⟨u,rv,?_⟩;rcases S.par y (List.mem_of_getElem? hp) with k | k
  ·exact .inl ⟨k,aiq ndP hp hu k⟩
  ·obtain⟨c,e⟩:=aku (n:=s.heap.objs.size+1) k;refine .inr ⟨.inl k,c,e,?_⟩;have q:=x.cell y c e;rw[ais ndP hp hu (by show scope.names.lookup y≠_;rw[k];decide)] at q
   exact q
 ·exact e0.hok.fresh (Nat.le_of_lt (x.above y c (PySem.mem_of_lookup h)))
 ·unfold start;show _=N.length;rw[List.length_append,List.length_map,List.length_replicate];omega
theorem az5{CX:CXT}{P:Program}{w:World}{K:Fg9}{mg:Str->Option Value}{base:Heap}{k:Nat}{f:Addr}{name qual:Str}{params:Arguments}{body:List Stmt}{scope:Scope}{dV kV doc pm cdv ct oc:Value}{an od:Option Addr}
  {osl:Array (Option Value)} {N ps:List Str} {sp:Sp} (lk:K.lookup f=some ⟨oc,od,.func (fnOf name qual params body scope dV kV doc pm an cdv ct),osl⟩) (hcd:codeIn K cdv qual=true) (S:FnScope N ps scope)
  (len:∀vs H Q E,sp vs H Q E->vs.length=ps.length)
  (hbody:∀(A:Around) (outer:List Env) (s:Shared) (H:Hp) (vs:List V) (Q:VK) (E:XK),Room k (A.deeper (envOfC qual scope s.heap.objs.size f cdv))->sp vs H Q E ->
   ∃t,PSs (cxOf CX P w K mg base N qual scope f cdv A outer s H E) body t/\t { nx:=fun _ H'=>Q .non H',rt:=Q } (start N vs) H) :
  FnOk P w K mg base CX (k+1) f (fnOf name qual params body scope dV kV doc pm an cdv ct) ps sp:=by
 refine⟨len,fun A outer s H args us vs Q E hr e0 hb r hsp =>?_⟩
 have hl:=len _ _ _ _ hsp;have KX:K.In s.heap:=e0.mod.kin.keeps fun b o e=>(e0.bs b o e).1
 have lim:s.heap.NoLimit:=e0.mod.nolimit.keeps fun b o e=>(e0.bs b o e).1
 have hkind:∀y∈ps.zip us,scope.names.lookup y.1=some .local∨(scope.names.lookup y.1=some .cell/\((cellsFrom (s.heap.objs.size+1) scope.names []).lookup y.1).isSome=true):=fun⟨n,v⟩ hy=>by
  rcases S.par n (List.of_mem_zip hy).1 with q | q
  ·exact .inl q
  ·exact .inr ⟨q,PySem.W.cellsFrom_some _ _ _ (.inl q)⟩
 refine codeAny_call_function hr.depth (KX _ _ lk) rfl S.co S.gen rfl (PySem.W.codeRec_of KX hcd) (hb _ _ _ _ ?_);refine wpAny_newFunctionEnv_cells S.kind hkind fun env he s1 x =>?_
 subst he;refine⟨lim.keeps x.toInCall.keep,codeAny_func ?_⟩;obtain⟨t,ht,hq⟩:=hbody A outer s H vs Q E (hr.deeper _) hsp;have I:Inv (cxOf CX P w K mg base N qual scope f cdv A outer s H E) [] (start N vs) H s1:=anv S hr.hd e0 hl r x;refine wpAny_mono (ht [] s1 (start N vs) H _ I hq) (fun fl s' hs =>?_) fun e s' hs=>hs
 have fin:∀{σ':St} {H':Hp} {v:V} {u:Value},Inv (cxOf CX P w K mg base N qual scope f cdv A outer s H E) [] σ' H' s'->RelV v u->Q v H'->CE outer P w H s Q u s' :=
  fun{σ' H' v u} J rv q=>⟨v,H',J.os,J.bare,J.base,J.hok,rv,q⟩
 cases fl with
 | ret u =>
  obtain⟨v,σ',H',J,rv,q⟩:=hs;exact fin J rv q
 | next =>
  obtain⟨σ',H',J,q⟩:=hs;exact fin (v:=V.non) (u:=Value.none) J rfl q
 | brk =>
  obtain⟨_,_,_,q⟩:=hs;exact False.elim q
 | cont =>
  obtain⟨_,_,_,q⟩:=hs;exact False.elim q
section
variable{X:Cx}{x:Str}{p pos:Pos}{e:Expr}{es:List Expr}{t:TA}{id T:String}{r:List V->Hp->VK->Prop}
def tCB(r:List V->Hp->VK->Prop)(t:TA):TE:=fun σ H Q=>t σ H fun vs H1=>r vs H1 Q
theorem adx(hc:aau X (.builtin id) r)(hg:Gl X x)(hm:X.mg x=none)(hv:bootBuiltins x=some (.builtin id))(ha:PA X (e::es) t)(hn:x ≠ "__name__" := by decide)(hdb:(x==("__debug__" : Str))=false:=by decide)
  (he:starEach (e::es) X.env=(false,eval e X.env)::starEach es X.env:=by rfl) (hpl:(backTo pos (starEach es X.env)).any (·.1)=false:=by rfl):PE X (.Call (.Name x p) (e::es) [] pos) (tCB r t):=by
 intro jv s σ H Q I h;refine wpAny_Call_Name_kw (afq I hg hm hv ?_ hn hdb);exact PyProof.Rows.callWith_builtin1 (thn (ha pos jv s σ H _ I h) fun us s1 ⟨vs,H1,I1,r1,q1⟩=>hc jv s1 σ H1 vs us Q I1 r1 q1) he hpl
theorem aad(hc:aau X (.type T) r)(hg:Gl X x)(hm:X.mg x=none)(hv:bootBuiltins x=some (.type T))(ha:PA X (e::es) t)(hn:x ≠ "__name__" := by decide)(hdb:(x==("__debug__" : Str))=false:=by decide)
  (he:starEach (e::es) X.env=(false,eval e X.env)::starEach es X.env:=by rfl) (hpl:(backTo pos (starEach es X.env)).any (·.1)=false:=by rfl):PE X (.Call (.Name x p) (e::es) [] pos) (tCB r t):=by
 intro jv s σ H Q I h;refine wpAny_Call_Name_kw (afq I hg hm hv ?_ hn hdb);exact PyProof.Rows.callWith_type1 (thn (ha pos jv s σ H _ I h) fun us s1 ⟨vs,H1,I1,r1,q1⟩=>hc jv s1 σ H1 vs us Q I1 r1 q1) he hpl
end
end L2
namespace HT
open PySem PyProof.Rows
section
open PySem.SeqAt
open PySem.AutoSeq1 (wpAny_loadPart')
open PySem.MeetsSeq PySem.MeetsSeq2 PySem.MeetsSeq3
end
section
variable{prog:Program}{w:World}{A:Around}{E:Value->Shared->Prop}{s:Shared}
theorem auj{t b:Addr}{vs ws:List Value}{Q:Value->Shared->Prop}(ht:IsTup s.heap t vs.toArray)(hb:IsTup s.heap b ws.toArray)(hv:vs≠[])
  (h1:ws=[]->Q (.ref t) s) (h2:ws≠[]->Q (.ref s.heap.objs.size) { s with heap:=s.heap.push { cls:=.type "tuple", data:=.seq (vs++ws).toArray } })
  (hsz:vs.length+ws.length<=sizeLine):wpAny (model prog w) A (binaryOp .Add (.ref t) (.ref b)) Q E s:=by
 obtain⟨⟨cls,dd,data,sl⟩,ho,hc,n,hd⟩:=id ht;obtain⟨⟨cls2,dd2,data2,sl2⟩,ho2,hc2,n2,hd2⟩:=id hb;simp only at hc hd hc2 hd2;subst hc hd hc2 hd2;have e:vs.toArray++ws.toArray=(vs++ws).toArray:=by simp
 by_cases hw:ws=[]
 ·exact concat_meets ⟨_,ho,rfl⟩ ⟨_,ho2,rfl⟩ noFill_tuple_add seq_tuple_add PySem.F.slot_tuple_add PySem.F.entry_tuple_add (PySem.F.args_tuple_add_2 _ _)
   (tuple_addW1 t b vs.toArray ws.toArray n n2 dd dd2 sl sl2 (by simpa using hv) (by simp[hw])) ⟨ho,ho2,h1 hw⟩
 ·refine concat_meets ⟨_,ho,rfl⟩ ⟨_,ho2,rfl⟩ noFill_tuple_add seq_tuple_add PySem.F.slot_tuple_add PySem.F.entry_tuple_add (PySem.F.args_tuple_add_2 _ _)
   (tuple_addW2 t b vs.toArray ws.toArray n n2 dd dd2 sl sl2 (by simpa using hv) (by simpa using hw) (by rw[List.size_toArray,List.size_toArray];exact hsz)) ⟨ho,ho2,?_⟩
  rw[e];exact h2 hw
def sIx(n d:Nat):Option Int->Nat
 | none=>d
 | some v=>if v < 0 then (v+(n:Int)).toNat else min v.toNat n
theorem ava(n d:Nat)(hd:d<=n)(o:Option Int):sIx n d o<=n:=by
 cases o with
 | none=>exact hd
 | some v =>
  show(if v < 0 then (v+(n:Int)).toNat else min v.toNat n)<=n
  by_cases hv:v < 0
  ·rw[if_pos hv];omega
  ·rw[if_neg hv];exact Nat.min_le_right _ _
theorem aoh(v:Int)(n d:Nat):(if v < 0 then max (v+(n:Int)) 0 else min v (n:Int))=((sIx n d (some v):Nat):Int):=by
 show(if v < 0 then max (v+(n:Int)) 0 else min v (n:Int))=(((if v < 0 then (v+(n:Int)).toNat else min v.toNat n):Nat):Int)
 by_cases hv:v < 0
 ·simp only[if_pos hv];omega
 ·simp only[if_neg hv];omega
theorem al2(lo hi:Option Int)(n:Nat):Builtin.Slice.sliceAdjust lo hi 1 (n:Int)=(((sIx n 0 lo:Nat):Int),((sIx n n hi:Nat):Int)):=by
 have h1:¬((1:Int) < 0):=by omega
 unfold Builtin.Slice.sliceAdjust;simp only[h1,if_false];refine Prod.ext ?_ ?_
 ·cases lo with
  | none=>rfl
  | some v=>exact aoh v n 0
 ·cases hi with
  | none=>rfl
  | some v=>exact aoh v n n
theorem alf(i j:Nat):Builtin.Slice.slicePlaces (i:Int) (j:Int) 1=j - i:=by
 unfold Builtin.Slice.slicePlaces;have h1:(1:Int) > 0:=by omega
 simp only[h1,if_true,Int.ediv_one];split <;> omega
theorem afm{v:Value}{o:Option Int}{Q:Option Int->Shared->Prop}(p:IsPart v o)(h:Q o s):wpAny (model prog w) A (Builtin.Slice.slicePartIndex v) Q E s:=by
 cases p with
 | none=>exact slicePart_none h
 | int i t=>exact slicePart_int h
theorem yx{sl:Addr}{vl vu:Value}{lo hi:Option Int}{n:Nat}{Q:Int×Int×Nat->Shared->Prop}(hs:s.heap.IsSliceOf sl vl vu .none)(pl:IsPart vl lo)(pu:IsPart vu hi)
  (h:Q (((sIx n 0 lo:Nat):Int),1,sIx n n hi - sIx n 0 lo) s):wpAny (model prog w) A (Builtin.Slice.sliceApplied (.ref sl) (pure (n:Int))) Q E s:=by
 obtain⟨os,hos,hcs,hds⟩:=id hs;unfold Builtin.Slice.sliceApplied Builtin.Slice.sliceFields;refine wpAny_bind (wpAny_bind (wpAny_field hos hds (x:=vl) rfl (wpAny_bind (wpAny_field hos hds (x:=vu) rfl (wpAny_bind (wpAny_field hos hds (x:=.none) rfl (wpAny_pure ?_)))))));refine wpAny_bind (slicePart_none ?_);show wpAny _ _ (if ((1:Int)==0)=true then _ else _) _ _ s
 rw[if_neg (by decide)]
 refine wpAny_bind (afm pl (wpAny_bind (afm pu (wpAny_bind (wpAny_pure ?_)))));show wpAny _ _ (match Builtin.Slice.sliceAdjust lo hi 1 (n:Int) with | (lo,hi)=>pure (lo,(1:Int),Builtin.Slice.slicePlaces lo hi 1)) _ _ s
 rw[al2 lo hi n];show wpAny _ _ (pure (((sIx n 0 lo:Nat):Int),(1:Int),Builtin.Slice.slicePlaces ((sIx n 0 lo:Nat):Int) ((sIx n n hi:Nat):Int) 1)) _ _ s;rw[alf];exact wpAny_pure h
theorem apv(xs:Array Value)(i k:Nat):((List.range k).filterMap fun(m:Nat)=>xs[((i:Int)+(m:Int)*1).toNat]?).toArray=((xs.toList.drop i).take k).toArray:=by
 have e:(fun(m:Nat)=>xs[((i:Int)+(m:Int)*1).toNat]?)=fun m=>xs[i+m]? := by
  funext m
  have:((i:Int)+(m:Int)*1).toNat=i+m:=by omega
  rw[this]
 rw[e];have:=pick_run xs i k;rw[List.filterMap_map] at this;have e2:((fun x=>xs[x]?)∘fun x=>i+x)=fun m=>xs[i+m]? := rfl
 rw[e2] at this;rw[this]
theorem ac7{t sl:Addr}{items:Array Value}{vl vu:Value}{lo hi:Option Int}{Q:Value->Shared->Prop}(ht:IsTup s.heap t items)(hs:s.heap.IsSliceOf sl vl vu .none)(pl:IsPart vl lo)(pu:IsPart vu hi)
  (hw:¬(sIx items.size 0 lo=0/\sIx items.size items.size hi=items.size))
  (h:Q (.ref s.heap.objs.size) { s with heap:=s.heap.push { cls:=.type "tuple", data:=.seq ((items.toList.drop (sIx items.size 0 lo)).take (sIx items.size items.size hi - sIx items.size 0 lo)).toArray } })
  (hsz:items.size<=sizeLine):wpAny (model prog w) A (getItem (.ref t) (.ref sl)) Q E s:=by
 have htake:sizeOk (.seq ((items.toList.drop (sIx items.size 0 lo)).take (sIx items.size items.size hi - sIx items.size 0 lo)).toArray):=by
  show((items.toList.drop (sIx items.size 0 lo)).take (sIx items.size items.size hi - sIx items.size 0 lo)).toArray.size<=sizeLine;rw[List.size_toArray,List.length_take,List.length_drop,Array.length_toList];omega
 have hj:sIx items.size items.size hi<=items.size:=ava _ _ (Nat.le_refl _) hi;obtain⟨os,hos,hcs,hds⟩:=id hs;have hTs:s.TypeIs (.ref sl) "slice" := ⟨os,hos,hcs⟩;unfold getItem
 try with_reducible refine wpAny_holding ?_
 first | refine wpAny_bind (wpAny_pure ?_) | skip
 refine wpAny_bind (wpAny_sequenceKey ht.typeIs (by decide) ?_)
 refine wpAny_bind (wpAny_callSpecial?_slot (name:=Str.ofString "__getitem__") ht.typeIs PyProof.Rows.slot_tuple_getitem
  (wpAny_call_entry PyProof.Rows.slot_tuple_getitem ht.typeIs entry_tuple_getitem ?_ (args_tuple_getitem _ _)))
 show wpAny _ _ (Builtin.Tuple.tupleItemsOf (.ref t) >>= _) _ _ s;refine wpAny_bind (tupleItemsOf_ ht ?_);refine wpAny_bind (wpAny_typeOf hTs ?_);rw[if_pos (by decide)]
 refine wpAny_bind (yx hs pl pu ?_);have hno:¬((((sIx items.size 0 lo:Nat):Int)==0&&(1:Int)==1&&(sIx items.size items.size hi - sIx items.size 0 lo)==items.size)=true):=by
  intro q;rw[Bool.and_eq_true,Bool.and_eq_true] at q;have q1:((sIx items.size 0 lo:Nat):Int)=0:=eq_of_beq q.1.1;have q2:sIx items.size items.size hi - sIx items.size 0 lo=items.size:=eq_of_beq q.2;exact hw ⟨by omega,by omega⟩
 show wpAny _ _ (if (((sIx items.size 0 lo:Nat):Int)==0&&(1:Int)==1&&(sIx items.size items.size hi - sIx items.size 0 lo)==items.size)=true then _ else _) _ _ s
 rw[if_neg hno,apv]
 first
  | exact wpAny_bind (m:=Builtin.Tuple.tupleExact _) (wpAny_newObj_type (wpAny_pure ⟨_,rfl,wpAny_pure h⟩) htake)
  | exact wpAny_bind (m:=Builtin.Tuple.tupleExact _) (wpAny_newObj_type (wpAny_bind (wpAny_pure (wpAny_pure ⟨_,rfl,wpAny_pure h⟩))) htake)
  | exact wpAny_bind (wpAny_bind (m:=Builtin.Tuple.tupleExact _) (wpAny_newObj_type (wpAny_pure (wpAny_pure ⟨_,rfl,wpAny_pure h⟩)) htake))
  | exact wpAny_bind (wpAny_bind (m:=Builtin.Tuple.tupleExact _) (wpAny_newObj_type (wpAny_pure ⟨_,rfl,wpAny_pure h⟩) htake))
end
end HT
namespace L2
abbrev TO:=St->Hp->(Option Int->Hp->Prop)->Prop
def PO(X:Cx)(e:Option Expr)(t:TO):Prop :=
 ∀(jv:List (Addr×Obj)) (s:Shared) (σ:St) (H:Hp) (Q:Option Int->Hp->Prop),Inv X jv σ H s->t σ H Q ->
  wpAny (model X.prog X.w) X.A (evalPart e X.env) (fun u s'=>∃o H',Inv X jv σ H' s'/\IsPart u o/\Q o H') X.xe s
def ash:TO:=fun _ H Q=>Q none H
def ayp(t:TE):TO:=fun σ H Q=>t σ H fun x H1=>∃i,x=.int i/\Q (some i) H1
theorem intsAre_of{ns:List Int}:∀{us:List Value},Vals (ns.map V.int) us->IntsAre us ns:=by
 induction ns with
 | nil=>intro us r;rw[List.map_nil] at r;cases r;exact .nil
 | cons n ns ih =>
  intro us r;rw[List.map_cons] at r;cases r with
  | cons r1 r2 =>
   obtain⟨t,e⟩:=r1;subst e;exact .cons n t (ih r2)
section
variable{X:Cx}{e:Expr}{te:TE}{lo hi:Option Expr}{tl th:TO}{pos p2:Pos}
theorem as3:PO X none ash:=by
 intro jv s σ H Q I h;rw[evalPart_none];exact wpAny_pure ⟨none,H,I,.none,h⟩
theorem asz(h:PE X e te):PO X (some e) (ayp te):=by
 intro jv s σ H Q I hw;rw[evalPart_some];refine thn (h jv s σ H _ I hw) fun u s1 ⟨x,H1,I1,r1,q1⟩ =>?_
 obtain⟨i,rfl,q⟩:=q1;obtain⟨t,rfl⟩:=r1;exact⟨some i,H1,I1,.int i t,q⟩
def SlR(X:Cx)(r:V->Option Int->Option Int->Hp->VK->Prop):Prop :=
 ∀(jv:List (Addr×Obj)) (s:Shared) (σ:St) (H:Hp) (x:V) (v vl vu:Value) (lo hi:Option Int) (sl:Addr) (Q:VK),Inv X jv σ H s->RelV x v->s.heap.IsSliceOf sl vl vu .none->IsPart vl lo->IsPart vu hi->r x lo hi H Q ->
  ∃T id,typeLookup (.type T) "__getitem__" = pure (some (.builtin id))/\s.TypeIs v T/\wpAny (model X.prog X.w) X.A (getItem v (.ref sl)) (EP X jv σ Q) X.xe s
def tSl(r:V->Option Int->Option Int->Hp->VK->Prop)(te:TE)(tl th:TO):TE:=fun σ H Q=>te σ H fun x H1=>tl σ H1 fun l H2=>th σ H2 fun u H3=>r x l u H3 Q
theorem apy{r:V->Option Int->Option Int->Hp->VK->Prop}(hr:SlR X r)(he:PE X e te)(hl:PO X lo tl)(hu:PO X hi th):PE X (.Subscript e (.Slice lo hi none p2) pos) (tSl r te tl th):=by
 intro jv s σ H Q I h;refine Subscript_ (thn (he jv s σ H _ I h) fun v s1 ⟨x,H1,I1,r1,q1⟩ =>?_)
 refine wpAny_Slice (thn (hl jv s1 σ H1 _ I1 q1) fun vl s2 ⟨l,H2,I2,pl,q2⟩=>thn (hu jv s2 σ H2 _ I2 q2) fun vu s3 ⟨u,H3,I3,pu,q3⟩ =>?_)
 rw[evalPart_none];refine wpAny_pure ?_;have I4:Inv X jv σ H3 { s3 with heap:=s3.heap.push { cls:=.type "slice", data:=.fields #[vl,vu,.none] } }:=I3.kept (t':=s3.toks) fun b ob q=>Heap.get?_push_of_some _ q
 obtain⟨T,id,hT,ht,hg⟩:=hr jv { s3 with heap:=s3.heap.push { cls:=.type "slice", data:=.fields #[vl,vu,.none] } } σ H3 x v vl vu l u s3.heap.objs.size Q I4 r1 (Heap.IsSliceOf.new ..) pl pu q3
 show wpAny (model X.prog X.w) X.A (subscriptTail e (.Slice lo hi none p2) v (.ref s3.heap.objs.size)) (EP X jv σ Q) X.xe { s3 with heap:=s3.heap.push { cls:=.type "slice", data:=.fields #[vl,vu,.none] } }
 exact tail_any (ops:=[.ref s3.heap.objs.size,v]) ht hT hg (by with_unfolding_all rfl)
def cutV(xs:List V)(lo hi:Option Int):List V:=(xs.drop (HT.sIx xs.length 0 lo)).take (HT.sIx xs.length xs.length hi - HT.sIx xs.length 0 lo)
theorem ae2(xs:List V)(lo hi:Option Int):(cutV xs lo hi).length<=xs.length:=by
 unfold cutV;rw[List.length_take,List.length_drop];omega
def rSlT(K:Fg9):V->Option Int->Option Int->Hp->VK->Prop:=fun x lo hi H Q=>∃a xs,x=.ref a/\SqT K H a xs /\
 ¬(HT.sIx xs.length 0 lo=0/\HT.sIx xs.length xs.length hi=xs.length)/\∀p,H p=none->Q (.ref p) (upd H p (.tup (cutV xs lo hi)))
theorem au8:SlR X (rSlT X.K):=by
 intro jv s σ H x v vl vu lo hi sl Q I rx hs pl pu h;obtain⟨a,xs,rfl,hx,hw,q⟩:=h;cases rx;obtain⟨its,r,ht,hz⟩:=I.tuple hx;have hlen:its.toArray.size=xs.length:=by rw[List.size_toArray];exact r.length.symm
 refine⟨"tuple", _,PyProof.Rows.slot_tuple_getitem.lookup,ht.typeIs,?_⟩;refine HT.ac7 ht hs pl pu (by rw[hlen];exact hw) ?_ (by rw[hlen];exact hz)
 rw[hlen];refine⟨.ref s.heap.objs.size,_,I.laid (t':=s.toks) (o:=.tup (cutV xs lo hi)) (fun b ob q=>Heap.get?_push_of_some _ q) (Nat.le_refl _) ?_,rfl,q _ (I.hok.fresh (Nat.le_refl _))⟩
 exact⟨Nat.le_trans (ae2 xs lo hi) hz,_,(r.drop (HT.sIx xs.length 0 lo)).take (HT.sIx xs.length xs.length hi - HT.sIx xs.length 0 lo),IsTp.new _ _⟩
def ayy(K:Fg9):R2:=fun x y H Q=>∃a b xs ys,x=.ref a/\y=.ref b/\SqT K H a xs/\SqT K H b ys/\xs≠[]/\xs.length+ys.length<=sizeLine /\
 (ys=[]->Q (.ref a) H)/\(ys≠[]->∀p,H p=none->Q (.ref p) (upd H p (.tup (xs++ys))))
theorem Vals.nil_iff{xs:List V}{us:List Value}(r:Vals xs us):us=[]↔xs=[]:=by
 cases r with
 | nil=>simp
 | cons _ _=>simp
theorem ati:OpR X (binaryOp .Add) (ayy X.K):=by
 intro jv s σ H x y v u Q I rx ry h;obtain⟨a,b,xs,ys,rfl,rfl,ha,hb,hx,hz,q1,q2⟩:=h;cases rx;cases ry;obtain⟨its,r1,p1,_⟩:=I.tuple ha;obtain⟨its2,r2,p2,_⟩:=I.tuple hb;refine HT.auj p1 p2 (fun z=>hx (r1.nil_iff.mp z)) (fun z=>⟨.ref a,H,I,rfl,q1 (r2.nil_iff.mp z)⟩) (fun z =>?_) (by rw[<-r1.length,<-r2.length];exact hz)
 refine⟨.ref s.heap.objs.size,_,I.laid (t':=s.toks) (o:=.tup (xs++ys)) (fun b ob q=>Heap.get?_push_of_some _ q) (Nat.le_refl _) ?_,rfl,q2 (fun w=>z (r2.nil_iff.mpr w)) _ (I.hok.fresh (Nat.le_refl _))⟩
 exact⟨by rw[List.length_append];exact hz,_,r1.append r2,IsTp.new _ _⟩
end
def ixN(n:Nat)(i:Int):Option Nat:=if 0<=i then (if i < n then some i.toNat else none) else if -(n:Int)<=i then some (i+n).toNat else none
def atI{α:Type}(xs:List α)(i:Int):Option α:=(ixN xs.length i).bind fun j=>xs[j]?
theorem anl{n:Nat}{i:Int}{j:Nat}(h:ixN n i=some j):seqIndex? i n=some j/\j < n /\ -(n:Int)<=i/\i < n:=by
 unfold ixN at h
 by_cases h0:0<=i
 ·rw[if_pos h0] at h
  by_cases h1:i < n
  ·rw[if_pos h1] at h;have e:i.toNat=j:=Option.some.inj h;exact⟨by rw[seqIndex_of h0 h1,e],by omega,by omega,h1⟩
  ·rw[if_neg h1] at h;cases h
 ·rw[if_neg h0] at h
  by_cases h1 : -(n:Int)<=i
  ·rw[if_pos h1] at h;have e:(i+n).toNat=j:=Option.some.inj h;exact⟨by rw[seqIndex_neg (by omega) h1,e],by omega,h1,by omega⟩
  ·rw[if_neg h1] at h;cases h
theorem ao2{α:Type}{xs:List α}{i:Int}{v:α}(h:atI xs i=some v):∃j,seqIndex? i xs.length=some j/\xs[j]? = some v/\j < xs.length /\ -(xs.length:Int)<=i/\i < xs.length:=by
 unfold atI at h;cases e:ixN xs.length i with
 | none=>rw[e] at h;cases h
 | some j =>
  rw[e] at h;obtain⟨h1,h2,h3,h4⟩:=anl e;exact⟨j,h1,h,h2,h3,h4⟩
theorem abz{α:Type}{xs:List α}{j:Nat}{v:α}(h:xs[j]? = some v):atI xs (j:Int)=some v:=by
 have hj:j < xs.length:=(List.getElem?_eq_some_iff.mp h).1;have e:ixN xs.length (j:Int)=some j:=by
  unfold ixN;rw[if_pos (by omega),if_pos (by omega)];simp
 unfold atI;rw[e];exact h
def ao6(b:Expr):Prop:=∀o i,subscripted b false o i=operate [o,i] (getItem o i)
def IxR(X:Cx)(r:R2):Prop :=
 ∀(value slice:Expr) (jv:List (Addr×Obj)) (s:Shared) (σ:St) (H:Hp) (x y:V) (v u:Value) (Q:VK),Inv X jv σ H s->RelV x v->RelV y u->r x y H Q ->
  subscripted slice false v u=operate [v,u] (getItem v u)->wpAny (model X.prog X.w) X.A (subscriptTail value slice v u) (EP X jv σ Q) X.xe s
def MtR(X:Cx)(id:String)(r:V->List V->Hp->VK->Prop):Prop :=
 ∀(jv:List (Addr×Obj)) (s:Shared) (σ:St) (H:Hp) (x:V) (xs:List V) (v:Value) (us:List Value) (Q:VK),Inv X jv σ H s->RelV x v->Vals xs us->r x xs H Q ->
  wpAny (model X.prog X.w) X.A (call (.builtin id) (v::us)) (EP X jv σ Q) X.xe s
section
variable{X:Cx}{a b:Expr}{ta tb:TE}{pos:Pos}
theorem ay5{r:R2}(hr:IxR X r)(ha:PE X a ta)(hb:PE X b tb)(hs:ao6 b):PE X (.Subscript a b pos) (tOp r ta tb):=by
 intro jv s σ H Q I h;exact Subscript_ (binT ha hb I h fun v u s2 x y H2 I2 rx ry q=>hr a b jv s2 σ H2 x y v u Q I2 rx ry q (hs _ _))
def rIxL(K:Fg9):R2:=fun x y H Q=>∃p xs i v,x=.ref p/\y=.int i/\SqL K H p xs/\atI xs i=some v/\Q v H
def rIxT(K:Fg9):R2:=fun x y H Q=>∃p xs i v,x=.ref p/\y=.int i/\SqT K H p xs/\atI xs i=some v/\Q v H
theorem atw:IxR X (rIxL X.K):=by
 intro value slice jv s σ H x y v u Q I rx ry h hs;obtain⟨p,xs,i,z,rfl,rfl,hq,he,q⟩:=h;cases rx;obtain⟨t,rfl⟩:=ry;obtain⟨its,r,pl,hz⟩:=I.list hq;obtain⟨j,h1,h2,h3,h4,h5⟩:=ao2 he;obtain⟨w,ew,rw'⟩:=r.get h2;have hl:=r.length;have hn:=akd;have fin:EP X jv σ Q w s:=⟨z,H,I,rw',q⟩
 by_cases h0:0<=i
 ·have hj:i.toNat=j:=by
   rw[seqIndex_of h0 h5] at h1;exact Option.some.inj h1
  exact item_listR pl.isList h0 (by omega) (by rw[hj];simpa using ew) fin hs
 ·have hj:(i+(its.toArray.size:Int)).toNat=j:=by
   rw[seqIndex_neg (by omega) h4] at h1
   rw[List.size_toArray,<-hl];exact Option.some.inj h1
  exact subscriptTail_builtinR (x:=w) pl.isList.typeIs slot_list_getitem.lookup
   (wpAny_getItem_list_neg (Q:=fun r s'=>r=w/\EP X jv σ Q r s') pl.isList (by omega) (by rw[List.size_toArray] <;> omega) (by omega) (by rw[hj];simpa using ew) ⟨rfl,fin⟩) hs
theorem aww:IxR X (rIxT X.K):=by
 intro value slice jv s σ H x y v u Q I rx ry h hs;obtain⟨p,xs,i,z,rfl,rfl,hq,he,q⟩:=h;cases rx;obtain⟨t,rfl⟩:=ry;obtain⟨its,r,pl,hz⟩:=I.tuple hq;obtain⟨j,h1,h2,h3,h4,h5⟩:=ao2 he;obtain⟨w,ew,rw'⟩:=r.get h2;have hl:=r.length;have hn:=akd;have fin:EP X jv σ Q w s:=⟨z,H,I,rw',q⟩;exact subscriptTail_builtinR (x:=w) pl.typeIs slot_tuple_getitem.lookup
  (getItem_tuple (j:=j) (Q:=fun r s'=>r=w/\EP X jv σ Q r s') pl (by omega) (by omega) (by rw[List.size_toArray,<-hl];exact h1) (by simpa using ew) ⟨rfl,fin⟩) hs
theorem alp(its:List Value)(n j:Nat)(u:Value):Obj.mapSeq (·.setIfInBounds j u) { cls:=.type "list", data:=.seq its.toArray n }={ cls:=.type "list", data:=.seq (its.set j u).toArray n }:=by
 simp[Obj.mapSeq]
theorem Inv.lst{jv:List (Addr×Obj)}{σ:St}{H:Hp}{s:Shared}{p:Addr}{xs:List V}(I:Inv X jv σ H s)(h:H p=some (.lst xs)) :
  ∃(its:List Value) (n:Nat),Vals xs its/\s.heap.get? p=some { cls:=.type "list", data:=.seq its.toArray n }/\xs.length<=sizeLine:=by
 obtain⟨z,its,n,r,e⟩:=I.hok p _ h;exact⟨its,n,r,e,z⟩
theorem Inv.lstUpd{jv:List (Addr×Obj)}{σ:St}{H:Hp}{s:Shared}{p:Addr}{xs ys:List V}{its its':List Value}{n n':Nat}{f:Obj->Obj}(I:Inv X jv σ H s)(h:H p=some (.lst xs))
  (ho:s.heap.get? p=some { cls:=.type "list", data:=.seq its.toArray n }) (hf:f { cls:=.type "list", data:=.seq its.toArray n }={ cls:=.type "list", data:=.seq its'.toArray n' }) (r:Vals ys its') (hz:ys.length<=sizeLine) (t:Nat) :
  Inv X jv σ (upd H p (.lst ys)) { s with heap:=s.heap.update p f,toks:=t }:=by
 have e:(s.heap.update p f).get? p=some { cls:=.type "list", data:=.seq its'.toArray n' }:=by
  rw[Heap.get?_update_self f ho (by rw[hf] <;> rfl),hf]
 refine I.write (x:=p) (e:=p) (by rw[h];trivial) (.inl rfl) (fun b u hb q=>(Heap.get?_update_other _ _ (Ne.symm hb)).trans q) ⟨_,e⟩ ?_
 exact⟨hz,its',n',r,e⟩
def ayx:V->V->V->Hp->(Hp->Prop)->Prop:=fun o i v H Q=>∃p xs k j,o=.ref p/\i=.int k/\H p=some (.lst xs)/\ixN xs.length k=some j/\Q (upd H p (.lst (xs.set j v)))
theorem set_list:PSet X ayx:=by
 intro jv s σ H o i v ov iv u Q I ro ri rv h;obtain⟨p,xs,k,j,rfl,rfl,hp,hj,q⟩:=h;cases ro;obtain⟨t,rfl⟩:=ri;obtain⟨its,n,r,ho,hz⟩:=I.lst hp;obtain⟨h1,h2,h3,h4⟩:=anl hj;have hl:=r.length;have hn:=akd;have I':Inv X jv σ (upd H p (.lst (xs.set j v))) { s with heap:=s.heap.update p (Obj.mapSeq (·.setIfInBounds j u)) } :=
  I.lstUpd hp ho (alp its n j u) (r.set rv j) (by rw[List.length_set];exact hz) s.toks
 by_cases h0:0<=k
 ·have hk:k.toNat=j:=by
   rw[seqIndex_of h0 h4] at h1;exact Option.some.inj h1
  exact PySem.W.ki_setAt ho h0 (by omega) (by rw[List.size_toArray,<-hl];exact h4) (by rw[hk];exact⟨_,I',q⟩)
 ·have hk:(k+(its.toArray.size:Int)).toNat=j:=by
   rw[seqIndex_neg (by omega) h3] at h1
   rw[List.size_toArray,<-hl];exact Option.some.inj h1
  exact PySem.W.ki_setBack ho (by omega) (by rw[List.size_toArray,<-hl];exact h3) (by omega) (by rw[hk];exact⟨_,I',q⟩)
theorem ahd(lo hi:Option Int)(n:Nat):(sliceBounds lo hi none n).1=((HT.sIx n 0 lo:Nat):Int)/\(sliceBounds lo hi none n).2.1=((HT.sIx n n hi:Nat):Int)/\(sliceBounds lo hi none n).2.2=1:=by
 refine⟨?_,?_,rfl⟩
 ·cases lo with
  | none=>simp[sliceBounds,HT.sIx]
  | some i =>
   simp only[sliceBounds,HT.sIx,Option.getD_none,show(1:Int) > 0 by decide,if_true]
   by_cases h:i < 0
   ·simp only[h,if_true] <;> omega
   ·simp only[h,if_false] <;> omega
 ·cases hi with
  | none=>simp[sliceBounds,HT.sIx]
  | some i =>
   simp only[sliceBounds,HT.sIx,Option.getD_none,show(1:Int) > 0 by decide,if_true]
   by_cases h:i < 0
   ·simp only[h,if_true] <;> omega
   ·simp only[h,if_false] <;> omega
theorem af9(its:List Value)(lo hi:Option Int):slicePick its.toArray lo hi none=((its.drop (HT.sIx its.length 0 lo)).take (HT.sIx its.length its.length hi - HT.sIx its.length 0 lo)).toArray:=by
 obtain⟨h1,h2,h3⟩:=ahd lo hi its.toArray.size;unfold slicePick;rw[h1,h2,h3];simp only[sliceRange_one,pick_run,List.size_toArray] <;> rfl
def rSlL(K:Fg9):V->Option Int->Option Int->Hp->VK->Prop:=fun x lo hi H Q=>∃a xs,x=.ref a/\SqL K H a xs/\∀p,H p=none->Q (.ref p) (upd H p (.lst (cutV xs lo hi)))
theorem amg:SlR X (rSlL X.K):=by
 intro jv s σ H x v vl vu lo hi sl Q I rx hs pl pu h;obtain⟨a,xs,rfl,hx,q⟩:=h;cases rx;obtain⟨its,r,ht,hz⟩:=I.list hx;have hlen:=r.length;refine⟨"list", _,slot_list_getitem.lookup,ht.isList.typeIs,?_⟩;refine wpAny_getItem_list_slice ht.isList hs pl pu .none (by simp) ?_ (by rw[List.size_toArray] <;> omega)
 rw[af9,<-hlen];refine⟨.ref s.heap.objs.size,_,I.laid (t':=s.toks) (o:=.lst (cutV xs lo hi)) (fun b ob q=>Heap.get?_push_of_some _ q) (Nat.le_refl _) ?_,rfl,q _ (I.hok.fresh (Nat.le_refl _))⟩
 exact⟨Nat.le_trans (ae2 xs lo hi) hz,_,0,(r.drop (HT.sIx xs.length 0 lo)).take (HT.sIx xs.length xs.length hi - HT.sIx xs.length 0 lo),Heap.get?_push_size _ rfl⟩
theorem aik:aau X (.builtin "len") (fun xs H Q=>∃p ys,xs=[.ref p]/\(SqL X.K H p ys∨SqT X.K H p ys)/\Q (.int ys.length) H):=by
 intro jv s σ H xs us Q I r h;obtain⟨p,ys,rfl,hq,q⟩:=h;obtain⟨u,rfl,rx⟩:=vals1 r;cases rx;have hn:=akd;rcases hq with hq | hq
 ·obtain⟨its,r',pl,hz⟩:=I.list hq;have hlen:=r'.length;exact Calls.call_len_list pl.isList (by simp only[List.size_toArray] <;> omega) ⟨.int ys.length,H,I.tok _,⟨s.toks+1,by rw[List.size_toArray,hlen]⟩,q⟩
 ·obtain⟨its,r',pl,hz⟩:=I.tuple hq;have hlen:=r'.length;exact len_tuple pl (by simp only[List.size_toArray] <;> omega) ⟨.int ys.length,H,I.tok _,⟨s.toks+1,by rw[List.size_toArray,hlen]⟩,q⟩
theorem aij:aau X (.type "list") (fun xs H Q=>∃p ys,xs=[.ref p]/\(SqL X.K H p ys∨SqT X.K H p ys)/\∀l,H l=none->Q (.ref l) (upd H l (.lst ys))):=by
 intro jv s σ H xs us Q I r h;obtain⟨p,ys,rfl,hq,q⟩:=h;obtain⟨u,rfl,rx⟩:=vals1 r;cases rx;have fin:∀(its:List Value),Vals ys its->ys.length<=sizeLine->∀(h':Heap) (c':Nat),(∀b o',s.heap.get? b=some o'->h'.get? b=some o') ->
   h'.get? s.heap.objs.size=some { cls:=.type "list", dict:=none,data:=.seq its.toArray c',slots := #[] }->EP X jv σ Q (.ref s.heap.objs.size) { s with heap:=h' }:=fun its r' hz h' c' kp e =>
  ⟨.ref s.heap.objs.size,_,I.laid (t':=s.toks) kp (Nat.le_refl _) (show ut X.prog X.w _ h' _ (.lst ys) from⟨hz,its,c',r',e⟩),rfl,q _ (I.hok.fresh (Nat.le_refl _))⟩
 rcases hq with hq | hq
 ·obtain⟨its,r',pl,hz⟩:=I.list hq;have hlen:=r'.length;obtain⟨o,ho,hc,n,hd⟩:=pl.isList;exact call_list_seq p (.inl rfl) ho hc hd (fun h' c' kp e=>fin its r' hz h' c' kp e) (by simp only[List.size_toArray] <;> omega)
 ·obtain⟨its,r',pl,hz⟩:=I.tuple hq;have hlen:=r'.length;obtain⟨o,ho,hc,n,hd⟩:=pl;exact call_list_seq p (.inr rfl) ho hc hd (fun h' c' kp e=>fin its r' hz h' c' kp e) (by simp only[List.size_toArray] <;> omega)
theorem yu:aau X (.type "tuple") (fun xs H Q=>∃p ys,xs=[.ref p]/\((SqL X.K H p ys/\∀l,H l=none->Q (.ref l) (upd H l (.tup ys)))∨(SqT X.K H p ys/\Q (.ref p) H))):=by
 intro jv s σ H xs us Q I r h;obtain⟨p,ys,rfl,h⟩:=h;obtain⟨u,rfl,rx⟩:=vals1 r;cases rx;rcases h with⟨hq,q⟩ | ⟨hq,q⟩
 ·obtain⟨its,r',pl,hz⟩:=I.list hq;have hlen:=r'.length;refine call_tuple_list pl.isList (fun h' kp =>?_) (by simp only[List.size_toArray] <;> omega)
  have I1:Inv X jv σ H { s with heap:=h' }:=I.kept (t':=s.toks) kp
  have I2:Inv X jv σ (upd H h'.objs.size (.tup ys)) { s with heap:=h'.push { cls:=.type "tuple", data:=.seq its.toArray } } :=
   I1.laid (t':=s.toks) (fun b o e=>Heap.get?_push_of_some _ e) (Nat.le_refl _) (show ut X.prog X.w _ _ _ (.tup ys) from⟨hz,its,r',IsTp.new _ _⟩)
  exact⟨.ref h'.objs.size,_,I2,rfl,q _ (I1.hok.fresh (Nat.le_refl _))⟩
 ·obtain⟨its,r',pl,hz⟩:=I.tuple hq;exact call_tuple_same pl ⟨.ref p,H,I,rfl,q⟩
def tyV(K:Fg9)(T:String)(x:V)(H:Hp):Prop:=match x with
 | .str _=>T = "str"
 | .int _=>T = "int"
 | .ref p=>(T = "list" /\ ∃xs,SqL K H p xs)∨(T = "tuple" /\ ((∃o,K.lookup p=some o/\o.cls=.type "tuple" /\ o.dict=none)∨∃xs,H p=some (.tup xs))) ∨
   (T = "dict" /\ ((∃kvs,H p=some (.dK kvs))∨∃kvs,H p=some (.dT kvs)))∨(T = "set" /\ ∃S n,H p=some (.set S n))
 | _=>False
theorem auz{jv:List (Addr×Obj)}{σ:St}{H:Hp}{s:Shared}{T:String}{x:V}{v:Value}(I:Inv X jv σ H s)(r:RelV x v)(ty:tyV X.K T x H) :
  s.TypeIs v T/\∀a,v=.ref a->∃ob,s.heap.get? a=some ob/\ob.dict=none:=by
 cases x with
 | str z =>
  obtain⟨t,rfl⟩:=r;cases(show T = "str" from ty)
  exact⟨typeIs_str s z t,fun _ e=>nomatch e⟩
 | int i =>
  obtain⟨t,rfl⟩:=r;cases(show T = "int" from ty)
  exact⟨typeIs_int s i t,fun _ e=>nomatch e⟩
 | ref p =>
  cases r;rcases ty with⟨rfl,xs,hq⟩ | ⟨rfl,⟨o,hk,hc,hd⟩ | ⟨xs,hk⟩⟩ | ⟨rfl,hk⟩ | ⟨rfl,S,n,hk⟩
  ·obtain⟨its,_,pl,_⟩:=I.list hq;refine⟨pl.isList.typeIs,fun a e =>?_⟩
   cases e;obtain⟨o,n,e,c,hd,_⟩:=pl;exact⟨o,e,hd⟩
  ·refine⟨⟨o,I.kIn p o hk,hc⟩,fun a e =>?_⟩
   cases e;exact⟨o,I.kIn _ o hk,hd⟩
  ·obtain⟨_,_,_,o,e,hc,hd,_⟩:=I.hok p _ hk;refine⟨⟨o,e,hc⟩,fun a e2 =>?_⟩
   cases e2;exact⟨o,e,hd⟩
  ·have z:∃o,s.heap.get? p=some o/\o.ExactDict:=by
    rcases hk with⟨kvs,hk⟩ | ⟨kvs,hk⟩
    ·obtain⟨_,_,_,_,o,_,_,e,ex,_⟩:=I.hok p _ hk;exact⟨o,e,ex⟩
    ·obtain⟨_,_,_,_,o,_,_,e,ex,_⟩:=I.hok p _ hk;exact⟨o,e,ex⟩
   obtain⟨o,e,ex⟩:=z;refine⟨⟨o,e,ex.1⟩,fun a e2 =>?_⟩
   cases e2;exact⟨o,e,ex.2.1⟩
  ·obtain⟨o,_,_,_,e,ex,_⟩:=I.hok p _ hk;refine⟨⟨o,e,ex.1⟩,fun a e2 =>?_⟩
   cases e2;exact⟨o,e,ex.2.1⟩
 | _=>exact False.elim ty
def tBM(K:Fg9)(T:String)(r:V->List V->Hp->VK->Prop)(to:TE)(t:TA):TE:=fun σ H Q=>to σ H fun x H1=>tyV K T x H1/\t σ H1 fun xs H2=>r x xs H2 Q
variable{o e:Expr}{es:List Expr}{to:TE}{t:TA}{name:Str}{apos cpos:Pos}{T id:String}{r:V->List V->Hp->VK->Prop}
theorem ay7(pa:PlainAttrs T)(slot:Slot T name id)(hty:typeOf (.builtin id)=pure (.type "method_descriptor"))(hm:MtR X id r)(ho:PE X o to)(ha:PA X (e::es) t)
  (hbase:attributeBase o name X.env (eval o X.env)=eval o X.env:=by rfl)
  (hfew:((backTo cpos (starEach (e::es) X.env)).all (fun x => !x.1)&&(backToKw cpos (keywordEach [] X.env)).all (fun x=>x.1.isSome)
   && decide ((e::es).length+([]:List Keyword).length+(if ([]:List Keyword).isEmpty then 0 else 1) < 30))=true:=by rfl)
  (hline:(apos.endLine==cpos.line)=true:=by rfl) (hs:starEach (e::es) X.env=(false,eval e X.env)::starEach es X.env:=by rfl) (hplain:(backTo cpos (starEach es X.env)).any (·.1)=false:=by rfl) :
  PE X (.Call (.Attribute o name apos) (e::es) [] cpos) (tBM X.K T r to t):=by
 intro jv s σ H Q I h;refine wpAny_Call_method_late hbase hfew hline rfl (thn (ho jv s σ H _ I h) fun v s1 ⟨x,H1,I1,r1,ty,q1⟩ =>?_)
 obtain⟨h1,h2⟩:=auz I1 r1 ty;refine⟨T,id,pa,slot,hty,h1,h2,?_⟩;have hA:=ha cpos jv s1 σ H1 _ I1 q1;rw[hs] at hA ⊢
 refine Calls.callWith_builtin (by show(false||(backTo cpos (starEach es X.env)).any (·.1))=false;rw[hplain] <;> rfl) (Calls.evalArgs_plain ?_)
 exact thn hA fun us s2 ⟨vs,H2,I2,r2,q2⟩=>hm jv s2 σ H2 x vs v us Q I2 r1 r2 q2
end
def MtM(X:Cx)(id:String)(r:V->List V->Hp->VK->Prop):Prop :=
 ∀(jv:List (Addr×Obj)) (s:Shared) (σ:St) (H:Hp) (x:V) (xs:List V) (v:Value) (us:List Value) (Q:VK),Inv X jv σ H s->RelV x v->Vals xs us->r x xs H Q ->
  wpAny (model X.prog X.w) X.A (call (.builtin id) (v::us)) (EP X jv σ Q) X.xe s
theorem Vals.one:∀{x:V} {us:List Value},Vals [x] us->∃u,us=[u]/\RelV x u
 | _,_,.cons r .nil=>⟨_,rfl,r⟩
theorem Vals.rep{xs:List V}{us:List Value}(h:Vals xs us):∀k:Nat,Vals (List.replicate k xs).flatten (List.replicate k us).flatten
 | 0=>.nil
 | k+1=>by
  rw[List.replicate_succ,List.replicate_succ,List.flatten_cons,List.flatten_cons];exact Vals.append h (Vals.rep h k)
theorem foldl_rep(its:List Value):∀(k:Nat) (acc:List Value),
  List.foldl (fun x1 x2=>x1++x2) acc.toArray (List.replicate k its.toArray)=(acc++(List.replicate k its).flatten).toArray
 | 0,acc=>by simp
 | k+1,acc=>by
  have e:acc.toArray++its.toArray=(acc++its).toArray:=by simp
  have e2:(acc++its)++(List.replicate k its).flatten=acc++(List.replicate (k+1) its).flatten:=by
   rw[List.replicate_succ,List.flatten_cons,List.append_assoc]
  rw[<-e2,<-foldl_rep its k (acc++its),<-e,List.replicate_succ,List.foldl_cons]
section
variable{X:Cx}{jv:List (Addr×Obj)}{σ:St}{H:Hp}{s:Shared}{l b:Addr}{xs ys zs:List V}
theorem Inv.lset{its its':List Value}{n:Nat}{f:Array Value->Array Value}{t':Nat}(I:Inv X jv σ H s)(hH:H l=some (.lst xs))
  (e:s.heap.get? l=some { cls:=.type "list", data:=.seq its.toArray n }) (hf:f its.toArray=its'.toArray) (hv:Vals ys its') (hz:ys.length<=sizeLine) :
  Inv X jv σ (upd H l (.lst ys)) { s with heap:=s.heap.update l (Obj.mapSeq f),toks:=t' }:=by
 have q:=PySem.IsL.update e f;rw[hf] at q;refine I.write (x:=l) (e:=l) (by rw[hH];exact trivial) (.inl rfl) (fun b' u hb hu=>(Heap.get?_update_other s.heap (Obj.mapSeq f) (Ne.symm hb)).trans hu) ⟨_,q⟩ ?_
 exact⟨hz,its',_,hv,q⟩
theorem Inv.lnew{its:List Value}{t':Nat}(I:Inv X jv σ H s)(hv:Vals ys its)(hz:ys.length<=sizeLine) :
  Inv X jv σ (upd H s.heap.objs.size (.lst ys)) { s with heap:=s.heap.push { cls:=.type "list", data:=.seq its.toArray },toks:=t' } :=
 I.laid (fun _ _ q=>Heap.get?_push_of_some _ q) (Nat.le_refl _) ⟨hz,its,0,hv,Heap.get?_push_size _ rfl⟩
theorem Inv.fresh(I:Inv X jv σ H s):H s.heap.objs.size=none:=I.hok.fresh (Nat.le_refl _)
theorem Inv.lstM(I:Inv X jv σ H s)(hH:H l=some (.lst xs)):xs.length<=sizeLine/\∃(its:List Value) (n:Nat),Vals xs its/\xs.length=its.length/\s.heap.get? l=some { cls:=.type "list", data:=.seq its.toArray n }:=by
 obtain⟨z,its,n,r,e⟩:=I.hok l _ hH;exact⟨z,its,n,r,r.length,e⟩
theorem ap6{n:Nat}(h:n<=sizeLine):Builtin.List.listTooLong n=false:=by
 unfold Builtin.List.listTooLong;exact decide_eq_false (by omega)
end
section
variable{X:Cx}
def amt:V->List V->Hp->VK->Prop:=fun x vs H Q=>∃l xs y,x=.ref l/\vs=[y]/\H l=some (.lst xs)/\xs.length < sizeLine/\Q .non (upd H l (.lst (xs++[y])))
theorem ww:MtM X "list.append" amt:=by
 intro jv s σ H x vs v us Q I rx rv h;obtain⟨l,xs,y,rfl,rfl,hH,hz,q⟩:=h;cases rx;obtain⟨u,rfl,ru⟩:=rv.one;obtain⟨z,its,n,r,hl,e⟩:=I.lstM hH;refine call_meets F.slot_list_append ⟨_,e,rfl⟩ F.entry_list_append (F.args_list_append_2 _ _) (PySem.list_append l its.toArray n u (by rw[List.size_toArray];omega)) ⟨e,?_⟩
 refine⟨.non,_,I.lset (its':=its++[u]) hH e (by simp) (r.append (.cons ru .nil)) ?_,rfl,q⟩
 rw[List.length_append,List.length_singleton];omega
def rCat:R2:=fun x y H Q=>∃l b xs zs,x=.ref l/\y=.ref b/\H l=some (.lst xs)/\H b=some (.lst zs)/\xs.length+zs.length<=sizeLine/\∀p,H p=none->Q (.ref p) (upd H p (.lst (xs++zs)))
theorem av8:OpR X (binaryOp .Add) rCat:=by
 intro jv s σ H x y v u Q I rx ry h;obtain⟨l,b,xs,zs,rfl,rfl,hH,hB,hz,q⟩:=h;cases rx;cases ry;obtain⟨z,its,n,r,hl,e⟩:=I.lstM hH;obtain⟨z2,its2,n2,r2,hl2,e2⟩:=I.lstM hB;refine PySem.P.add_list e e2 ?_ (by rw[List.size_toArray,List.size_toArray];omega)
 have ea:its.toArray++its2.toArray=(its++its2).toArray:=by simp
 rw[ea];exact⟨.ref _,_,I.lnew (t':=s.toks) (r.append r2) (by rw[List.length_append];omega),rfl,q _ I.fresh⟩
def rRep:R2:=fun x y H Q=>∃l k xs,x=.ref l/\y=.int k/\H l=some (.lst xs) /\ -(2 ^ 63)<=k/\k < 2 ^ 63/\xs.length*k.toNat<=sizeLine /\
 ∀p,H p=none->Q (.ref p) (upd H p (.lst (List.replicate k.toNat xs).flatten))
theorem len_rep{α:Type}(xs:List α)(k:Nat):(List.replicate k xs).flatten.length=k*xs.length:=by
 induction k with
 | zero=>simp
 | succ k ih=>rw[List.replicate_succ,List.flatten_cons,List.length_append,ih,Nat.succ_mul,Nat.add_comm]
theorem av4:OpR X (binaryOp .Mult) rRep:=by
 intro jv s σ H x y v u Q I rx ry h;obtain⟨l,k,xs,rfl,rfl,hH,h1,h2,hz,q⟩:=h;cases rx;obtain⟨t,rfl⟩:=ry;obtain⟨z,its,n,r,hl,e⟩:=I.lstM hH;have hlen:its.toArray.size*k.toNat<=sizeLine:=by rw[List.size_toArray,<-hl];exact hz
 have hcap:¬its.toArray.size*k.toNat > (2 ^ 63 - 1) / 8:=by
  have:(sizeLine:Nat)<=(2 ^ 63 - 1) / 8:=by decide
  omega
 have hfit:¬(!Builtin.List.listFitsIndex k)=true:=by
  rw[fitsIndex_both h1 h2];exact Bool.false_ne_true
 have hlong:¬Builtin.List.listTooLong (its.toArray.size*k.toNat)=true:=by
  rw[ap6 hlen];exact Bool.false_ne_true
 have hnew:List.foldl (fun x1 x2=>x1++x2) #[] (List.replicate (if its.toArray.isEmpty=true then 0 else k.toNat) its.toArray)=(List.replicate k.toNat its).flatten.toArray:=by
  have f0:∀m:Nat,List.foldl (fun x1 x2=>x1++x2) #[] (List.replicate m its.toArray)=(List.replicate m its).flatten.toArray:=fun m=>by
   have:=foldl_rep its m [];rw[List.nil_append] at this;exact this
  rw[f0];cases its with
  | nil=>simp
  | cons a r'=>rw[if_neg (by simp)]
 refine wpAny_binaryOp_repeat_ref (T := "list") (U := "int") (by decide) ⟨_,e,rfl⟩ (fun s'=>typeIs_int s' k t) noFill_list_mul F.fills_int_mul F.slot_int_rmul repeat_list F.slot_int_index.lookup
  (call_meets F.slot_int_rmul (typeIs_int s k t) F.entry_int_rmul (F.args_int_rmul_2 _ _) (int___rmul___int_list k t l its.toArray n)
   ⟨e,rfl,⟨_,e,rfl⟩,call_meets F.slot_list_mul ⟨_,e,rfl⟩ F.entry_list_mul (F.args_list_mul_2 _ _) (AutoListH.list___mul___list_int_3 l its.toArray n k t hfit hcap hlong) ⟨e,?_⟩⟩)
 rw[hnew];exact⟨.ref _,_,I.lnew (t':=s.toks) (r.rep k.toNat) (by rw[len_rep,Nat.mul_comm];exact hz),rfl,q _ I.fresh⟩
end
section
variable{prog:Program}{w:World}{A:Around}{E:Value->Shared->Prop}{s:Shared}
end
section
variable{X:Cx}
end
end L2
namespace Att
open PySem PySem.W PySem.Calls PyProof.Rows
theorem aen{P:Params}{h:Heap}:∀(ns:List Int) (vs:List Value),WellAll P h vs (ns.map WData.int)->IntsAre vs ns:=by
 intro ns
 induction ns with
 | nil =>
  intro vs w;rw[List.map_nil] at w;cases w;exact .nil
 | cons n ns ih =>
  intro vs w;rw[List.map_cons] at w;cases w with
  | cons a b =>
   cases a;exact .cons _ _ (ih _ b)
theorem amm{l:OpenLaw}{n:Nat}(hn:l.most=some n){P:Params}{h:Heap}{args:List WData}{vals:List Value}
  (hpre:l.row.toRowW.claim.pre args=true) (hwl:WellAll P h vals args) :
  ∃a vs ns,vals=[Value.ref a]/\args=[WData.list (ns.map WData.int)]/\h.get? a=some { cls:=.type "list", data:=.seq vs.toArray }/\IntsAre vs ns/\ns.length<=n:=by
 have hsh:WShape.hasAll [] args [.list .int]=true:=(pre_splitW hpre).1;have hc:l.pre.holds [] { args:=args }=true:=(pre_splitW hpre).2;obtain⟨d,r,rfl,h1,h2⟩:=hasAllW_cons hsh;obtain rfl:=hasAllW_nil h2;obtain⟨xs,rfl,h3⟩:=hasW_list h1;obtain⟨ns,rfl⟩:=items_int h3;have hlen:ns.length<=n:=by
  unfold OpenLaw.pre at hc;have h4:(WTm.not (.lt (.lit (.int (n:Int))) (.len (.arg 0)))).holds [] { args:=[.list (ns.map .int)] }=true:=by
   have h4:=(holds_andW hc).1;rw[hn] at h4;exact h4
  have h5:=condW_of h4 (w_not (w_lt w_lit (w_len_list (w_arg rfl))));rw[List.length_map] at h5;refine Nat.le_of_not_lt fun q =>?_
  have q':(n:Int) < ((ns.length:Nat):Int):=by omega
  first
   | (rw[decide_eq_true q'] at h5;exact absurd h5 (by decide))
   | (simp at h5;omega)
 cases hwl with
 | cons w1 w2 =>
  cases w2;cases w1 with
  | list ho hall=>exact⟨_,_,ns,rfl,rfl,ho,aen ns _ hall,hlen⟩
theorem amu(l:OpenLaw)(args:List WData):l.row.toRowW.claim.post args (.bool true) args=true :=
 postW_of (r:=l.row.toRowW) (X:=(true==true))
  (show WShape.has [] (.bool true) .bool=true by first | rfl | decide | simp[WShape.has,WShape.arms,WShape.armsAll])
  (show(WTm.eq .res (.lit (.bool true))).value [] { args:=args,res:=some (.bool true),after:=args }=some (.bool (true==true)) from w_eq_bool (w_res rfl) w_lit) rfl
theorem ajw{l:OpenLaw}{n:Nat}{q:Program}{loose:List Str}{XP:(Str->Option Value)->Heap->Prop}{YP:World->Heap->Prop}{d:DefRec}
  (hn:l.most=some n) (hdf:d.params.defaults=[])
  (call:∀(w:World) (s₀ s₁:Shared) (mg mb:Str->Option Value) (fa:Addr) (o:Obj) (pm cd doc:Value) (a:Addr) (vs:List Value) (ns:List Int),
   Ground q loose [] XP w s₀ mg mb s₁.heap->YP w s₁.heap ->
   s₁.heap.get? fa=some o->o.data=.func (docDef d.name d.params d.body d.scope pm cd doc)->s₁.heap.CodeRec cd d.name->mg d.name=some (.ref fa) ->
   s₁.heap.get? a=some { cls:=.type "list", data:=.seq vs.toArray }->IntsAre vs ns->ns.length<=n->s₁.gens = #[] ->
   codeAny (model l.prog w) callerA (.call (.ref fa) ⟨[.ref a],[]⟩) (fun r s'=>r=.ok (.ret (.bool true))/\OldK s₁.heap s'.heap/\s'.os=s₁.os/\AllBare s'.gens) s₁) :
  WalkO q loose XP YP l.row.toRowW d [] (fun f vs=>PySem.call f vs):=by
 intro w s₀ s₁ mg mb G Y fa o pm cd doc dV kV ho hd hcd hD hmg hg args vals as hpre hlay hrd hwl hlo;obtain rfl:dV=.none:=Dflts.none hD hdf;obtain rfl:kV=.none:=Dflts.noKw hD;obtain⟨a,vs,ns,rfl,rfl,hobj,hints,hlen⟩:=amm hn hpre hwl;refine enter_call (codeAny_mono (call w s₀ s₁ mg mb fa o pm cd doc a vs ns G Y ho (fd_plain hd) hcd hmg hobj hints hlen hg) fun r s' hq =>?_)
 obtain⟨rfl,h2,h3,h4⟩:=hq;exact⟨.inl ⟨.bool true,.bool true,[],rfl,fun _=>rfl,.bool true,amu l _,fun _=>⟨List.Pairwise.nil,fun _ hm=>(nomatch hm)⟩⟩,h2,h3,h4⟩
section
variable{prog:Program}{w:World}{A:Around}{E:Value->Shared->Prop}{s:Shared}{K:Frag}
end
end Att
namespace L2
theorem ag8:∀{vs:List Value} {ns:List Int},IntsAre vs ns->Vals (ns.map V.int) vs
 | _,_,.nil=>.nil
 | _,_,.cons n t h=>.cons ⟨t,rfl⟩ (ag8 h)
def Only(H:Hp):Prop:=∀b,H b=none∨∃o xs,H b=some (.frz o (.lst xs))
theorem aqf{P:Program}{w:World}{K:Fg9}{mg mb:Str->Option Value}{CX:CXT}{k:Nat}{fa a:Addr}{fd:FuncData}{x:Str}{sp:Sp}{s₁:Shared}{vs:List Value}{ns:List Int}
  (KX:K.In s₁.heap) (hns:s₁.heap.Ns mainGlobals mg) (hb:s₁.heap.Ns builtinsNs mb) (hbb:∀x:Str,x ≠ "__name__" -> mb x=bootBuiltins x) (hlim:s₁.heap.NoLimit) (hg:s₁.gens = #[])
  (ha:s₁.heap.get? a=some { cls:=.type "list", data:=.seq vs.toArray }) (hi:IntsAre vs ns) (hl:ns.length<=sizeLine) (hr:Room k callerA)
  (F:∀base:Heap,K.In base->base.Ns mainGlobals mg->FnOk P w K mg base CX k fa fd [x] sp) (hbind:∀(s:Shared) (u:Value),BindsTo s fd ⟨[u],[]⟩ [(x,u)])
  (hsp:∀H:Hp,Only H->SqL K H a (ns.map V.int)->sp [.ref a] H (fun v _=>v=.bl true) fun _ _ _=>False)
  (hCX:∀H e s',CX [] H s₁ (fun _ _ _=>False) e s'->False) :
  codeAny (model P w) callerA (.call (.ref fa) ⟨[.ref a],[]⟩) (fun r s'=>r=.ok (.ret (.bool true))/\OldK s₁.heap s'.heap/\s'.os=s₁.os/\AllBare s'.gens) s₁:=by
 have rv:=ag8 hi;have lenV:=hi.length;have core:∀H:Hp,Only H->SqL K H a (ns.map V.int)->HOk P w H s₁.heap->(∀b,H b≠none->b=a)->(H a≠none->K.lookup a=none) ->
   codeAny (model P w) callerA (.call (.ref fa) ⟨[.ref a],[]⟩) (fun r s'=>r=.ok (.ret (.bool true))/\OldK s₁.heap s'.heap/\s'.os=s₁.os/\AllBare s'.gens) s₁:=by
  intro H hO hS hok hA hK;have base_of:∀{b:Addr} {o:Obj},s₁.heap.get? b=some o->H b=none->(hidT s₁.heap H).get? b=some o:=fun e n=>aqq e n
  have noA:∀{b:Addr} {o:Obj} {es:Array DictEntry} {ep:Nat},s₁.heap.get? b=some o->o.data=.dict es ep->H b=none:=fun{b o es ep} e d=>by
   cases q:H b with
   | none=>rfl
   | some u =>
    have e':b=a:=hA b (by rw[q];simp)
    subst e';rw[ha] at e;cases e;have d':Data.seq vs.toArray _=Data.dict es ep:=d;cases d'
  have nsK:∀{b:Addr} {m:Str->Option Value},s₁.heap.Ns b m->(hidT s₁.heap H).Ns b m:=fun{b m} ⟨o,es,ep,e,d,r⟩=>⟨o,es,ep,base_of e (noA e d),d,r⟩
  have hKb:K.In (hidT s₁.heap H):=fun b o e=>base_of (KX b o e) (by
   cases q:H b with
   | none=>rfl
   | some u =>
    have e':b=a:=hA b (by rw[q];simp)
    subst e';rw[hK (by rw[q];simp)] at e;cases e)
  have hM:Mod K mg (hidT s₁.heap H):=⟨hKb,nsK hns,⟨mb,nsK hb,hbb⟩,let ⟨mc,h1,h2⟩:=hlim;⟨mc,nsK h1,h2⟩⟩
  have e0:Env0 P w K mg (hidT s₁.heap H) callerA [] s₁ H:=⟨rfl,hM,fun b o e=>atj e,Nat.le_of_eq (anx _ _),trivial,fun b hb=>absurd (show b∈([]:List Addr) from hb) (by simp),hok,.of_eq hg⟩
  refine codeAny_mono ((F _ hKb (nsK hns)).run callerA [] s₁ H ⟨[.ref a],[]⟩ [.ref a] [.ref a] _ _ hr e0 (hbind s₁ (.ref a)) (.cons rfl .nil) (hsp H hO hS)) fun r s' h =>?_
  cases r with
  | error e=>exact(hCX H e s' h).elim
  | ok fl =>
   cases fl with
   | next=>exact False.elim h
   | brk=>exact False.elim h
   | cont=>exact False.elim h
   | ret u =>
    obtain⟨v,H',os,bare,un,hok',r',q⟩:=h;have q':v=.bl true:=q;subst q';obtain rfl:u=Value.bool true:=r';refine⟨rfl,OldK.of_keep fun b o e =>?_,os,bare⟩
    cases q:H b with
    | none=>exact un.keep b o e q (by intro z;exact absurd (show b∈([]:List Addr) from z) (by simp)) (by simp)
    | some u =>
     rcases hO b with z | ⟨ob,xs,z⟩
     ·rw[q] at z;cases z
     ·have z2:=un.frzs b ob _ z;obtain⟨e1,_⟩:=hok b _ z;obtain⟨e2,_⟩:=hok' b _ z2;rw[e] at e1;cases e1;exact e2
 cases hk:K.lookup a with
 | some o =>
  have e:=KX a o hk;rw[ha] at e;cases e;refine core (fun _=>none) (fun _=>.inl rfl) (.inr ⟨_,vs.toArray,_,hk,rfl,rfl,rfl,by rw[List.size_toArray,lenV];exact hl,by simpa using rv⟩) (fun b u z=>by have z':(none:Option HO)=some u:=z;cases z') (fun b z=>absurd rfl z) fun z=>absurd rfl z
 | none =>
  refine core (fun b=>if b=a then some (.frz { cls:=.type "list", data:=.seq vs.toArray } (.lst (ns.map V.int))) else none) (fun b =>?_) (.inl (.inr ⟨{ cls:=.type "list", data:=.seq vs.toArray },if_pos rfl⟩)) (fun b u z =>?_) (fun b z =>?_) fun _=>hk
  ·by_cases hb:b=a
   ·exact .inr ⟨_,_,if_pos hb⟩
   ·exact .inl (if_neg hb)
  ·by_cases hb:b=a
   ·have z':=(if_pos hb).symm.trans z;cases z';subst hb;exact⟨ha,by rw[List.length_map];exact hl,vs,_,rv,ha⟩
   ·have z':=(if_neg hb).symm.trans z;cases z'
  ·by_cases hb:b=a
   ·exact hb
   ·exact absurd (if_neg hb) z
theorem asa{l:PySem.W.OpenLaw}{n k:Nat}{q:Program}{loose:List Str}{XP:(Str->Option Value)->Heap->Prop}{YP:World->Heap->Prop}{d:DefRec}{K:Params->Fg9}{CX:World->CXT}{sp:World->Sp}{x:Str}
  (hn:l.most=some n) (hn2:n<=sizeLine) (hdf:d.params.defaults=[]) (hr:Room k callerA)
  (hY:∀(w:World) (h:Heap),YP w h->(K w.params).In h)
  (F:∀(w:World) (mg:Str->Option Value) (fa:Addr) (h:Heap),(K w.params).In h->h.Ns mainGlobals mg->mg d.name=some (.ref fa) ->
   ∃fd:FuncData,(∀(s:Shared) (u:Value),BindsTo s fd ⟨[u],[]⟩ [(x,u)]) /\
    ∀base:Heap,(K w.params).In base->base.Ns mainGlobals mg->FnOk l.prog w (K w.params) mg base (CX w) k fa fd [x] (sp w))
  (hsp:∀(w:World) (H:Hp) (a:Addr) (ns:List Int),ns.length<=n->Only H->SqL (K w.params) H a (ns.map V.int)->sp w [.ref a] H (fun v _=>v=.bl true) fun _ _ _=>False)
  (hCX:∀(w:World) (H:Hp) (s:Shared) (e:Value) (s':Shared),CX w [] H s (fun _ _ _=>False) e s'->False) :
  PySem.W.WalkO q loose XP YP l.row.toRowW d [] (fun f vs=>PySem.call f vs):=by
 refine Att.ajw hn hdf fun w s₀ s₁ mg mb fa o pm cd doc a vs ns G Y ho hd hcd hmg hobj hints hlen hg =>?_
 have KX:=hY w _ Y;obtain⟨fd,hb,hF⟩:=F w mg fa _ KX G.T.g hmg;exact aqf KX G.T.g G.T.b G.T.builtins G.T.nolimit hg hobj hints (Nat.le_trans hlen hn2) hr hF hb (fun H hO hS=>hsp w H a ns hlen hO hS) fun H e s'=>hCX w H s₁ e s'
def jw(s:Stmt):Arguments:=match s with
 | .FunctionDef _ a _ _ _ _ _ _ _ _=>a
 | _=>{ posonlyargs:=[],args:=[],vararg:=none,kwonlyargs:=[],kw_defaults:=[],kwarg:=none,defaults:=[] }
def jj(s:Stmt):List Stmt:=match s with
 | .FunctionDef _ _ b _ _ _ _ _ _ _=>b
 | _=>[]
def au(s:Stmt):Scope:=match s with
 | .FunctionDef _ _ _ _ _ _ sc _ _ _=>sc
 | _=>{ kind:=.function,names:=[],isGenerator:=false,isCoroutine:=false }
abbrev CX0:CXT:=fun _ _ _ _ _ _=>False
abbrev E0:XK:=fun _ _ _=>False
theorem ay9{X:Cx}:ao7 CX0 X E0:=fun _ _ _ _ _ _ _ h=>h.elim
structure Fun (K:Fg9) (x qual:Str) (st:Stmt) (f:Addr) (fd:FuncData):Prop where
 ex:∃(oc:Value) (od:Option Addr) (kV doc pm:Value) (an:Option Addr) (cdv ct:Value) (osl:Array (Option Value)),
  fd=fnOf x qual (jw st) (jj st) (au st) .none kV doc pm an cdv ct/\K.lookup f=some ⟨oc,od,.func fd,osl⟩/\codeIn K cdv qual=true
 kp:keepIn K (.ref f)=true
section
variable{P:Program}{w:World}{K:Fg9}{mg:Str->Option Value}{base:Heap}
theorem Fun.ok{x qual:Str}{st:Stmt}{f:Addr}{fd:FuncData}{N ps:List Str}{k:Nat}{sp:Sp}(F:Fun K x qual st f fd)(S:FnScope N ps (au st))(len:∀vs H Q E,sp vs H Q E->vs.length=ps.length)
  (hbody:∀(cdv:Value) (A:Around) (outer:List Env) (s:Shared) (H:Hp) (vs:List V) (Q:VK) (E:XK),Room k (A.deeper (envOfC qual (au st) s.heap.objs.size f cdv))->sp vs H Q E ->
   ∃t,PSs (cxOf CX0 P w K mg base N qual (au st) f cdv A outer s H E).nox (jj st) t/\t { nx:=fun _ H'=>Q .non H',rt:=Q } (start N vs) H):FnOk P w K mg base CX0 (k+1) f fd ps sp:=by
 obtain⟨oc,od,kV,doc,pm,an,cdv,ct,osl,rfl,lk,hcd⟩:=F.ex;refine az5 lk hcd S len fun A outer s H vs Q E hr hsp =>?_
 obtain⟨t,h,q⟩:=hbody cdv A outer s H vs Q E hr hsp;exact⟨t,h.nox,q⟩
theorem Fun.binds{x qual:Str}{st:Stmt}{f:Addr}{fd:FuncData}{ps:List Str}(F:Fun K x qual st f fd)
  (h:∀(kV doc pm:Value) (an:Option Addr) (cdv ct:Value) (us:List Value),us.length=ps.length->bindArgs (fnOf x qual (jw st) (jj st) (au st) .none kV doc pm an cdv ct) ⟨us,[]⟩=pure (ps.zip us)):Binds K fd ps []:=by
 obtain⟨oc,od,kV,doc,pm,an,cdv,ct,osl,rfl,lk,hcd⟩:=F.ex;exact .all (h kV doc pm an cdv ct)
theorem ar3{x qual:Str}{st:Stmt}{f:Addr}{oc:Value}{od an:Option Addr}{osl:Array (Option Value)}{kV doc pm cdv ct:Value}(l:K.lookup f=some ⟨oc,od,.func (fnOf x qual (jw st) (jj st) (au st) .none kV doc pm an cdv ct),osl⟩)
  (c:codeIn K cdv qual=true) (k:keepIn K (.ref f)=true):Fun K x qual st f (fnOf x qual (jw st) (jj st) (au st) .none kV doc pm an cdv ct):=⟨⟨oc,od,kV,doc,pm,an,cdv,ct,osl,rfl,l,c⟩,k⟩
end
theorem ab2{n:Nat}(h:n<=1000):n < sizeLine:=Nat.lt_of_le_of_lt h (by decide)
section
variable{X:Cx}
theorem pv(i:Nat){x:Str}{pos:Pos}(hN:X.N[i]? = some x:=by rfl)(hv:Vis X.env.scope x:=by first | exact Or.inl rfl | exact Or.inr (Or.inl rfl) | exact Or.inr (Or.inr rfl))(hd:(x==("__debug__" : Str))=false:=by decide)
  (hcd:(x==("__classdict__" : Str))=false:=by decide):PE X (.Name x pos) (tVar i):=avt hN hv hd hcd
end
theorem iteF{A B:Prop}(h:B):if false=true then A else B:=by
 rw[if_neg Bool.false_ne_true];exact h
theorem iteT{A B:Prop}(h:A):if true=true then A else B:=by
 rw[if_pos rfl];exact h
def Same(H H':Hp):Prop:=∀b o,H b=some o->H' b=some o
theorem Same.refl(H:Hp):Same H H:=fun _ _ h=>h
theorem Same.trans{H H1 H2:Hp}(a:Same H H1)(b:Same H1 H2):Same H H2:=fun c o h=>b c o (a c o h)
theorem Same.seq{K:Fg9}{H H':Hp}{a:Addr}{xs:List V}(e:Same H H')(h:SqL K H a xs):SqL K H' a xs:=by
 rcases h with(h | ⟨o,h⟩) | h
 ·exact .inl (.inl (e _ _ h))
 ·exact .inl (.inr ⟨o,e _ _ h⟩)
 ·exact .inr h
end L2
namespace Mn
open L2
def xq(env:Env)(fr:List Str):List (Str×Addr):=fr.filterMap fun n=>(env.cells.lookup n).map fun c=>(n,c)
theorem ae5{env:Env}{n:Str}{r:List Str}(e:env.cells.lookup n=none):xq env (n::r)=xq env r:=by
 unfold xq;rw[List.filterMap_cons,e];rfl
theorem aby{env:Env}{n:Str}{r:List Str}{c:Addr}(e:env.cells.lookup n=some c):xq env (n::r)=(n,c)::xq env r:=by
 unfold xq;rw[List.filterMap_cons,e];rfl
theorem look_same{x:Str}{c:Addr}{l:List (Str×Addr)}:List.lookup x ((x,c)::l)=some c:=by
 have hb:(x==x)=true:=beq_iff_eq.mpr rfl;simp only[List.lookup,hb]
theorem afp{x n:Str}{c:Addr}{l:List (Str×Addr)}(h:x≠n):List.lookup x ((n,c)::l)=l.lookup x:=by
 have hb:(x==n)=false:=beq_eq_false_iff_ne.mpr h;simp only[List.lookup,hb]
theorem qi{env:Env}:∀{fr:List Str} {x:Str} {c:Addr},(xq env fr).lookup x=some c->env.cells.lookup x=some c
 | [],x,c,h=>by
  have h':(none:Option Addr)=some c:=h;cases h'
 | n::r,x,c,h=>by
  cases e:env.cells.lookup n with
  | none =>
   rw[ae5 e] at h;exact qi h
  | some d =>
   rw[aby e] at h
   by_cases hx:x=n
   ·subst hx;rw[look_same] at h;rw[e];exact h
   ·rw[afp hx] at h;exact qi h
theorem aa5{env:Env}:∀{fr:List Str} {x:Str} {c:Addr},x∈fr->env.cells.lookup x=some c->(xq env fr).lookup x=some c
 | [],x,c,hm,h=>absurd hm (by simp)
 | n::r,x,c,hm,h=>by
  by_cases hx:x=n
  ·subst hx;rw[aby h,look_same]
  ·have hm':x∈r:=(List.mem_cons.mp hm).elim (fun e=>absurd e hx) id
   cases e:env.cells.lookup n with
   | none =>
    rw[ae5 e];exact aa5 hm' h
   | some d =>
    rw[aby e,afp hx];exact aa5 hm' h
def ad5(XN fr:List Str):List Str->List (Option Nat)->Bool
 | [],[]=>true
 | _::N,none::r=>ad5 XN fr N r
 | x::N,some j::r=>XN[j]? == some x&&fr.contains x&&ad5 XN fr N r
 | _,_=>false
theorem ad4{XN fr:List Str}:∀{N:List Str} {src:List (Option Nat)} {i j:Nat} {x:Str},ad5 XN fr N src=true->N[i]? = some x->src[i]? = some (some j)->XN[j]? = some x/\x∈fr
 | [],[],i,j,x,_,h,_=>by simp at h
 | [],_::_,i,j,x,_,h,_=>by simp at h
 | _::_,[],i,j,x,_,_,h=>by simp at h
 | y::N,none::r,0,j,x,_,_,h=>by simp at h
 | y::N,none::r,i+1,j,x,hk,h1,h2=>ad4 (N:=N) (src:=r) (i:=i) hk (by simpa using h1) (by simpa using h2)
 | y::N,some k::r,0,j,x,hk,h1,h2=>by
  simp only[ad5,Bool.and_eq_true] at hk;obtain⟨⟨a,b⟩,_⟩:=hk;simp at h1 h2;subst h1 h2;exact⟨by simpa using a,by simpa using b⟩
 | y::N,some k::r,i+1,j,x,hk,h1,h2=>by
  simp only[ad5,Bool.and_eq_true] at hk;exact ad4 (N:=N) (src:=r) (i:=i) hk.2 (by simpa using h1) (by simpa using h2)
theorem ad3{XN fr:List Str}:∀{N:List Str} {src:List (Option Nat)},ad5 XN fr N src=true->src.length=N.length
 | [],[],_=>rfl
 | [],_::_,h=>by simp[ad5] at h
 | _::_,[],h=>by simp[ad5] at h
 | _::N,none::r,h=>by
  have:=ad3 (N:=N) (src:=r) h;simp[this]
 | _::N,some k::r,h=>by
  simp only[ad5,Bool.and_eq_true] at h;have:=ad3 (N:=N) (src:=r) h.2;simp[this]
def pick(src:List (Option Nat))(σ:L2.St):L2.St:=src.map fun o=>o.bind fun j=>(σ[j]?).bind id
theorem apu{src:List (Option Nat)}{σ:L2.St}{i:Nat}{v:V}(h:(pick src σ)[i]? = some (some v)):∃j,src[i]? = some (some j)/\σ[j]? = some (some v):=by
 unfold pick at h;rw[List.getElem?_map] at h;cases e:src[i]? with
 | none=>rw[e] at h;cases h
 | some o =>
  rw[e] at h;have h':(o.bind fun j=>(σ[j]?).bind id)=some v:=Option.some.inj h
  cases o with
  | none=>cases h'
  | some j =>
   refine⟨j,rfl,?_⟩;have h2:(σ[j]?).bind id=some v:=h';cases q:σ[j]? with
   | none=>rw[q] at h2;cases h2
   | some z =>
    rw[q] at h2;have h3:z=some v:=h2;rw[h3]
def afz(env:Env)(XN:List Str)(scope:Scope)(fr N:List Str)(src:List (Option Nat)):Bool :=
 scope.names.all (fun y=>y.2 != .cell&&(y.2 != .local||scope.names.lookup y.1==some .local)&&(y.2 != .free||fr.contains y.1)) &&
 fr.all (fun x=>scope.names.lookup x==some .free&&(env.kindOf x==some .cell||env.kindOf x==some .free))&&ad5 XN fr N src
structure CompOk (env:Env) (XN:List Str) (scope:Scope) (fr N:List Str) (src:List (Option Nat)):Prop where
 cell:∀y∈scope.names,y.2≠.cell
 loc:∀y∈scope.names,y.2=.local->scope.names.lookup y.1=some .local
 free:∀y∈scope.names,y.2=.free->y.1∈fr
 frk:∀x∈fr,scope.names.lookup x=some .free
 out:∀x∈fr,env.kindOf x=some .cell∨env.kindOf x=some .free
 src:ad5 XN fr N src=true
theorem CompOk.of{env:Env}{XN:List Str}{scope:Scope}{fr N:List Str}{src:List (Option Nat)}(h:afz env XN scope fr N src=true):CompOk env XN scope fr N src:=by
 simp only[afz,Bool.and_eq_true,List.all_eq_true] at h;obtain⟨⟨h1,h2⟩,h3⟩:=h;refine⟨fun y hy =>?_,fun y hy e =>?_,fun y hy e =>?_,fun x hx =>?_,fun x hx =>?_,h3⟩
 ·have:=(h1 y hy).1.1
  simpa using this
 ·have:=(h1 y hy).1.2;rw[e] at this
  simpa using this
 ·have:=(h1 y hy).2;rw[e] at this
  simpa using this
 ·have:=(h2 x hx).1
  simpa using this
 ·have:=(h2 x hx).2
  simpa using this
theorem adi{env:Env}:∀{names:List (Str×NameKind)} {x:Str} {k:NameKind},
  (names.map fun(n,k)=>if (k==NameKind.free&&env.scope.kind==.function&&env.kindOf n==some .cell) then (n,NameKind.cell) else (n,k)).lookup x=some k ->
  ∃k0,names.lookup x=some k0/\(k=k0∨(k0=.free/\k=.cell))
 | [],x,k,h=>by simp at h
 | (n,q)::r,x,k,h=>by
  by_cases hx:x=n
  ·subst hx;have hb:(x==x)=true:=beq_iff_eq.mpr rfl;refine⟨q,by simp only[List.lookup,hb],?_⟩
   by_cases hc:(q==NameKind.free&&env.scope.kind==.function&&env.kindOf x==some .cell)=true
   ·rw[List.map_cons] at h;simp only[hc,if_true,List.lookup,hb] at h;simp only[Bool.and_eq_true] at hc;exact .inr ⟨by simpa using hc.1.1,(Option.some.inj h).symm⟩
   ·rw[List.map_cons] at h;simp only[hc,List.lookup,hb] at h;exact .inl (by simpa using h.symm)
  ·have hb:(x==n)=false:=beq_eq_false_iff_ne.mpr hx;have h':(r.map fun(n,k)=>if (k==NameKind.free&&env.scope.kind==.function&&env.kindOf n==some .cell) then (n,NameKind.cell) else (n,k)).lookup x=some k:=by
    rw[List.map_cons] at h
    by_cases hc:(q==NameKind.free&&env.scope.kind==.function&&env.kindOf n==some .cell)=true
    ·simp only[hc,if_true,List.lookup,hb] at h;exact h
    ·have h2:List.lookup x ((if (q==NameKind.free&&env.scope.kind==.function&&env.kindOf n==some .cell)=true then (n,NameKind.cell) else (n,q))::(r.map fun(n,k)=>if (k==NameKind.free&&env.scope.kind==.function&&env.kindOf n==some .cell) then (n,NameKind.cell) else (n,k)))=some k:=h
     rw[if_neg hc] at h2;simp only[List.lookup,hb] at h2;exact h2
   obtain⟨k0,e,d⟩:=adi h';exact⟨k0,by simp only[List.lookup,hb];exact e,d⟩
theorem aab{env:Env}:∀{names:List (Str×NameKind)} {x:Str},names.lookup x=some .free ->
  (names.map fun(n,k)=>if (k==NameKind.free&&env.scope.kind==.function&&env.kindOf n==some .cell) then (n,NameKind.cell) else (n,k)).lookup x=some .free ∨
  (names.map fun(n,k)=>if (k==NameKind.free&&env.scope.kind==.function&&env.kindOf n==some .cell) then (n,NameKind.cell) else (n,k)).lookup x=some .cell
 | [],x,h=>by simp at h
 | (n,q)::r,x,h=>by
  by_cases hx:x=n
  ·subst hx;have hb:(x==x)=true:=beq_iff_eq.mpr rfl;simp only[List.lookup,hb] at h;have hq:q=.free:=Option.some.inj h;subst hq
   by_cases hc:(NameKind.free==NameKind.free&&env.scope.kind==.function&&env.kindOf x==some .cell)=true
   ·right
    rw[List.map_cons];simp only[hc,if_true,List.lookup,hb]
   ·left
    show List.lookup x ((if (NameKind.free==NameKind.free&&env.scope.kind==.function&&env.kindOf x==some .cell)=true then (x,NameKind.cell) else (x,NameKind.free))::_)=some NameKind.free
    rw[if_neg hc];simp only[List.lookup,hb]
  ·have hb:(x==n)=false:=beq_eq_false_iff_ne.mpr hx;simp only[List.lookup,hb] at h;rw[List.map_cons]
   by_cases hc:(q==NameKind.free&&env.scope.kind==.function&&env.kindOf n==some .cell)=true
   ·simp only[hc,if_true,List.lookup,hb];exact aab h
   ·simp only[hc,List.lookup,hb]
    simpa[List.lookup,hb] using aab (env:=env) h
def cxC(X:Cx)(N:List Str)(scope:Scope)(fr:List Str)(fp:List Addr)(s:Shared)(H:Hp):Cx where
 prog:=X.prog
 w:=X.w
 K:=X.K
 mg:=X.mg
 base:=X.base
 A:=X.A
 N:=N
 s₀:=s
 H₀:=H
 env:=compEnvC scope (xq X.env fr) s.heap.objs.size X.env
 outer:=X.stack
 stack:=X.stack
 ex:=fp
 fn:=fun _=>false
 calm:=X.calm
 pn:=[]
 xe:=fun _ _=>False
section
variable{X:Cx}{jv:List (Addr×Obj)}{σ:L2.St}{H:Hp}{s:Shared}{scope:Scope}{fr N:List Str}{src:List (Option Nat)}{fp:List Addr}
theorem axd(I:Inv X jv σ H s)(C:CompOk X.env X.N scope fr N src)(hkind:scope.kind=.function)(hf:∀b∈fp,FpOk X jv H b)(hl:∀b∈fp,b < s.heap.objs.size):(cxC X N scope fr fp s H).Ok where
 mod:=I.ok.mod
 kind:=hkind
 glob:=I.ok.glob
 blt:=I.ok.blt
 above:=Nat.le_refl _
 inj:=fun x y c h1 h2=>I.ok.inj x y c (qi h1) (qi h2)
 has:=fun x hx=>by
  have mem:∀k,(k=NameKind.cell∨k=NameKind.free)->(cxC X N scope fr fp s H).env.kindOf x=some k->x∈fr:=fun k hk e=>by
   obtain⟨k0,e0,d⟩:=adi (env:=X.env) (names:=scope.names) e;have hm:=PySem.mem_of_lookup e0;rcases d with rfl | ⟨rfl,_⟩
   ·rcases hk with rfl | rfl
    ·exact absurd rfl (C.cell _ hm)
    ·exact C.free _ hm rfl
   ·exact C.free _ hm rfl
  have hm:x∈fr:=by
   rcases hx with e | e
   ·exact mem _ (.inl rfl) e
   ·exact mem _ (.inr rfl) e
  obtain⟨c,hc⟩:=I.ok.has x (C.out x hm);exact⟨c,aa5 hm hc⟩
 cab:=fun _ _ h _=>absurd h Bool.false_ne_true
 hd:=I.ok.hd
 frames:=I.ok.frames
 stk:=.inl rfl
 exf:=fun b hb=>⟨Nat.ne_of_lt (hl b hb),fun x c e=>(hf b hb).2.2.2.2.1 x c (qi e)⟩
 bs:=I.bs
 bsz:=Nat.le_trans I.ok.bsz I.sz
 noex:=fun b o e hb=>by
  rcases(hf b hb).2.2.2.1 with z | z
  ·exact I.ok.noex b o e z
  ·exact absurd (Nat.lt_of_lt_of_le (Heap.lt_size e) (Nat.le_trans I.ok.bsz z)) (Nat.lt_irrefl _)
 exfs:=fun b hb z=>by
  rcases List.mem_cons.mp (I.stkSub b z) with e | e
  ·exact(hf b hb).2.1 e
  ·exact(hf b hb).2.2.1 e
 funs:=I.stack
 frf:=I.stkFree
theorem akk(I:Inv X jv σ H s)(C:CompOk X.env X.N scope fr N src)(hkind:scope.kind=.function)(hf:∀b∈fp,FpOk X jv H b)(hl:∀b∈fp,b < s.heap.objs.size){h':Heap}{tk:Nat}{m:Str->Option Value}
  (hns:h'.Ns s.heap.objs.size m) (hk:∀b o,s.heap.get? b=some o->h'.get? b=some o):Inv (cxC X N scope fr fp s H) [] (pick src σ) H { s with heap:=h',toks:=tk } where
 ok:=axd I C hkind hf hl
 os:=rfl
 bare:=I.bare
 base:=Un.kept hk
 loc:=by
  refine⟨m,hns,fun i x v h1 h2 h3 =>?_⟩
  obtain⟨j,hj,hv⟩:=apu h2;obtain⟨hN,hm⟩:=ad4 C.src h1 hj;obtain⟨mo,_,hlo⟩:=I.loc;have vis:Vis X.env.scope x:=by
   rcases C.out x hm with e | e
   ·exact .inr (.inl e)
   ·exact .inr (.inr e)
  obtain⟨u,r,l⟩:=hlo j x v hN hv vis;refine⟨u,r,.inr ⟨?_,?_⟩⟩
  ·rcases aab (env:=X.env) (C.frk x hm) with e | e
   ·exact .inr e
   ·exact .inl e
  ·rcases l with⟨e,_⟩ | ⟨_,c,hc,z⟩
   ·rcases C.out x hm with q | q
    ·rw[q] at e;cases e
    ·rw[q] at e;cases e
   ·obtain⟨o,ho,hd⟩:=z;exact⟨c,aa5 hm hc,o,hk c o ho,hd⟩
 cell:=fun x c e=>by
  obtain⟨v,o,ho,hd⟩:=I.cell x c (qi e);exact⟨v,o,hk c o ho,hd⟩
 free:=I.hok.fresh (Nat.le_refl _)
 freeC:=fun x c e=>I.freeC x c (qi e)
 pin:=fun p hp=>absurd (show p∈([]:List (Addr×Obj)) from hp) (by simp)
 hok:=I.hok.kept hk
 len:=by
  unfold pick;rw[List.length_map];exact ad3 C.src
theorem akl{pins':List (Addr×Obj)}{σ':L2.St}{H':Hp}{s':Shared}{h'':Heap}(I:Inv X jv σ H s)(hf:∀b∈fp,FpOk X jv H b)(J:Inv (cxC X N scope fr fp s H) pins' σ' H' s')
  (hs:Heap.SameBut s.heap.objs.size s'.heap h''):Inv X jv σ H' { s' with heap:=h'' }:=by
 have k:∀b o,b≠s.heap.objs.size->s'.heap.get? b=some o->h''.get? b=some o:=fun b o hb e=>(hs.2 b hb).trans e
 have old:∀b o,s.heap.get? b=some o->b≠s.heap.objs.size:=fun b o e=>Nat.ne_of_lt (Heap.lt_size e)
 have un:Un (frs X.stack) fp H H' s.heap h'':=by
  have u:Un (frs X.stack) fp H H' s.heap s'.heap:=J.base;refine⟨fun b o e n hb hx=>k b o (old b o e) (u.keep b o e n hb hx),fun b o e n hb hx =>?_,u.free,fun b o e hx =>?_,u.tups,u.frzs,u.tbls⟩
  ·obtain⟨sl,q⟩:=u.slot b o e n hb hx;exact⟨sl,k b _ (old b o e) q⟩
  ·obtain⟨o',q⟩:=u.there b o e hx;exact⟨o',k b _ (old b o e) q⟩
 have hok:HOk X.prog X.w H' h'':=fun b u e=>by
  have nC:∀c z,H' c=some z->c≠s.heap.objs.size:=fun c z q w=>by
   have f:H' s.heap.objs.size=none:=J.free;rw[w,f] at q;cases q
  refine(J.hok b u e).stay (fun c v hc q=>k c v ?_ q) (fun _ q=>q) fun _ _ q=>q
  rcases hc with z | z
  ·rw[z];exact nC b u e
  ·exact nC c _ z
 have os:s'.os=s.os:=J.os;refine Inv.call' (s':={ s' with heap:=h'' }) I os un hok J.bare fun b hb =>?_
 obtain⟨_,f1,_,f3,f4,f5⟩:=hf b hb;exact⟨f3,f1,f4,f5⟩
end
def aiw(ifs:List Expr)(env:Env):Sem Bool:=forIn ifs true fun c r=>if r=true then do let ok <-isTrue c env (eval c env);pure (ForInStep.yield ok) else pure (ForInStep.yield r)
def PIf(X:Cx)(ifs:List Expr)(t:TT):Prop :=
 ∀(jv:List (Addr×Obj)) (s:Shared) (σ:L2.St) (H:Hp) (Q:Bool->Hp->Prop),Inv X jv σ H s->t σ H Q->wpAny (model X.prog X.w) X.A (aiw ifs X.env) (TP X jv σ Q) X.xe s
def tYes:TT:=fun _ H Q=>Q true H
theorem as5{X:Cx}:PIf X [] tYes:=fun jv s σ H Q I h=>by
 show wpAny _ _ (pure true) _ _ s;exact wpAny_pure ⟨H,I,h⟩
theorem as4{X:Cx}{c:Expr}{t:TT}(hc:PT X c t):PIf X [c] t:=fun jv s σ H Q I h=>by
 unfold aiw;rw[List.forIn_cons];rw[if_pos rfl];refine wpAny_bind (wpAny_bind (thn (hc jv s σ H _ I h) fun b s1 q=>wpAny_pure ?_))
 show wpAny _ _ (forIn [] b _) _ _ s1;exact wpAny_pure q
section
variable{prog:Program}{w:World}{A:Around}{R:Result->Shared->Prop}{s:Shared}
theorem compLoop{elt target iter:Expr}{ifs:List Expr}{scope:Scope}{pos:Pos}{it acc:Value}{env:Env}(I:Nat->Shared->Prop)
  (turn:∀n s,I n s->wpAny (model prog w) A (pyNext it) (fun r s₁=>match r with
   | none=>R (.ok .next) s₁
   | some v=>wpAny (model prog w) A (letOwnedTupleGo target it v) (fun _ s₁'=>wpAny (model prog w) A (assign target env v) (fun _ s₂ =>
     wpAny (model prog w) A (aiw ifs env) (fun ok s₃ =>
      if ok=true then wpAny (model prog w) A (eval elt env) (fun x s₄ =>
       wpAny (model prog w) A (call (.builtin "list.append") [acc,x]) (fun _ s₅=>∃m,m < n/\I m s₅) (fun _ _=>False) s₄) (fun _ _=>False) s₃
      else ∃m,m < n/\I m s₃) (fun _ _=>False) s₂) (fun _ _=>False) s₁') (fun _ _=>False) s₁) (fun _ _=>False) s)
  (n:Nat) (h:I n s) :
  codeAny (model prog w) A (.compLoop (.ListComp elt [⟨target,iter,ifs,0⟩] scope pos) 0 it acc env) R s:=by
 refine codeAny_loop rfl I (fun n s hI =>?_) n h
 show wpAny _ A ((compTurn (.ListComp elt [⟨target,iter,ifs,0⟩] scope pos) 0 it acc env).onRaise (fun x=>do noteFrame x env;theTreesLotGoes x)) _ _ s
 refine wpAny_noted ?_;rw[compTurn_list];refine wpAny_bind (wpAny_standAt (wpAny_bind (wpAny_mono (turn n s hI) (fun r s₁ h₁ =>?_) fun _ _ h'=>h'.elim)))
 cases r with
 | none=>exact wpAny_pure h₁
 | some v =>
  refine wpAny_bind (wpAny_mono h₁ (fun _ s₁' h₁' =>?_) fun _ _ h'=>h'.elim)
  refine wpAny_bind (wpAny_mono h₁' (fun _ s₂ h₂=>wpAny_bind (wpAny_mono h₂ (fun ok s₃ h₃ =>?_) fun _ _ h'=>h'.elim)) fun _ _ h'=>h'.elim)
  cases ok with
  | false=>exact wpAny_pure ⟨rfl,h₃⟩
  | true =>
   exact wpAny_bind (wpAny_bind (wpAny_mono h₃ (fun x s₄ h₄=>wpAny_bind (wpAny_mono h₄ (fun _ s₅ h₅=>wpAny_pure (wpAny_pure ⟨rfl,h₅⟩)) fun _ _ h'=>h'.elim)) fun _ _ h'=>h'.elim))
end
def axp(J:It)(g:TG)(ti:TT)(te:TE)(Q:VK)(d:Addr)(σ0:L2.St)(H1:Hp):Prop :=
 ∃W:Nat->Nat->List V->L2.St->Hp->Prop,(∃m,W 0 m [] σ0 (upd H1 d (.lst [])))/\∀i m ys σ H2,W i m ys σ H2->H2 d=some (.lst ys) /\
  ((J.stop i H2/\Q (.ref d) H2)∨(J.go i H2/\∀x H3,J.yld i H2 x H3->g x σ H3 fun σ4 H4=>ti σ4 H4 fun b H5 =>
   if b=true then te σ4 H5 fun y H6=>H6 d=some (.lst ys)/\ys.length < sizeLine/\∃m',m' < m/\W (i+1) m' (ys++[y]) σ4 (upd H6 d (.lst (ys++[y]))) else ∃m',m' < m/\W (i+1) m' ys σ4 H5))
def asi(wi:TI)(g:TG)(ti:TT)(te:TE)(src:List (Option Nat)):TE:=fun σ H Q=>wi σ H fun J H1=>∀d,H1 d=none->axp J g ti te Q d (pick src σ) H1
theorem aih{X:Cx}{tg iter elt:Expr}{ifs:List Expr}{scope:Scope}{pos:Pos}{J:It}{fp:List Addr}{it d:Addr}{tn:Nat->Heap->Prop}{g:TG}{ti:TT}{te:TE}{Q:VK}{R:Result->Shared->Prop}
  {W:Nat->Nat->List V->L2.St->Hp->Prop} {m0:Nat} {σ0:L2.St} {H0:Hp} {s:Shared} (hc:X.calm=true) (hE:X.xe=fun _ _=>False) (T:Turn X.prog X.w X.K tg J fp it tn)
  (hf:∀H':Hp,(∀b∈fp,H' b=none)->∀b∈fp,FpOk X [] H' b) (hg:PG X tg g) (ht:PIf X ifs ti) (he:PE X elt te)
  (turn:∀i m ys σ H2,W i m ys σ H2->H2 d=some (.lst ys) /\
   ((J.stop i H2/\Q (.ref d) H2)∨(J.go i H2/\∀x H3,J.yld i H2 x H3->g x σ H3 fun σ4 H4=>ti σ4 H4 fun b H5 =>
    if b=true then te σ4 H5 fun y H6=>H6 d=some (.lst ys)/\ys.length < sizeLine/\∃m',m' < m/\W (i+1) m' (ys++[y]) σ4 (upd H6 d (.lst (ys++[y]))) else ∃m',m' < m/\W (i+1) m' ys σ4 H5)))
  (w0:W 0 m0 [] σ0 H0) (I0:Inv X [] σ0 H0 s) (st0:tn 0 s.heap) (fr0:∀b∈fp,H0 b=none)
  (hR:∀σ' H' s',Inv X [] σ' H' s'->Q (.ref d) H'->R (.ok .next) s') :
  codeAny (model X.prog X.w) X.A (.compLoop (.ListComp elt [⟨tg,iter,ifs,0⟩] scope pos) 0 (.ref it) (.ref d) X.env) R s:=by
 have hE':∀e s',X.xe e s'->False:=fun e s' h=>by rw[hE] at h;exact h
 refine compLoop (fun n s'=>∃i ys σ' H',Inv X [] σ' H' s'/\tn i s'.heap/\(∀b∈fp,H' b=none)/\W i n ys σ' H') ?_ m0 ⟨0,[],σ0,H0,I0,st0,fr0,w0⟩
 rintro n s5 ⟨i,ys,σ5,H5,I5,st5,fr5,w5⟩
 obtain⟨hD,alt⟩:=turn i n ys σ5 H5 w5;rcases alt with⟨stop,qn⟩ | ⟨go,step⟩
 ·refine wpAny_mono (T.done X rfl rfl rfl hc i [] s5 σ5 H5 (fun _ _=>False) I5 (hf _ fr5) st5 stop) (fun r s6 ⟨hr,I6⟩ =>?_) fun _ _ e=>e
  subst hr;exact hR σ5 H5 s6 I6 qn
 ·refine wpAny_mono (T.item X rfl rfl rfl hc i [] s5 σ5 H5 (fun _ _=>False) I5 (hf _ fr5) st5 go) (fun r s6 ⟨u,hr,h6⟩ =>?_) fun _ _ e=>e
  subst hr;refine wpAny_mono h6 (fun _ s7 ⟨x,H7,I7,r7,y7,st7,fr7⟩ =>?_) fun _ _ e=>e
  have I7':=I7.pinned (hf _ fr7) (T.obj _ _ st7);have again:∀{σ':L2.St} {H':Hp} {s':Shared} {ys':List V} {m':Nat},Inv X ([]++ahm fp s7.heap) σ' H' s'->W (i+1) m' ys' σ' H'->∃i ys σ' H',Inv X [] σ' H' s'/\tn i s'.heap/\(∀b∈fp,H' b=none)/\W i m' ys σ' H':=fun{σ' H' s' ys' m'} Ia wa=>by
   refine⟨i+1,ys',σ',H',Ia.unpinned,T.keep _ _ _ st7 fun b hb o e=>(Ia.pin (b,o) (List.mem_append_right _ (List.mem_append_right _ (aay hb e)))).1,fun b hb =>?_,wa⟩
   obtain⟨o,e,d⟩:=T.obj _ _ st7 b hb;exact(Ia.pin (b,o) (List.mem_append_right _ (List.mem_append_right _ (aay hb e)))).2.1
  refine wpAny_mono (hg _ s7 σ5 H7 x u _ I7' r7 (step x H7 y7)) (fun _ s8 ⟨σ8,H8,I8,q8⟩ =>?_) hE'
  refine wpAny_mono (ht _ s8 σ8 H8 _ I8 q8) (fun ok s9 ⟨H9,I9,q9⟩ =>?_) hE'
  cases ok with
  | false =>
   rw[if_neg Bool.false_ne_true] at q9 ⊢
   obtain⟨m',hm,wa⟩:=q9;exact⟨m',hm,again I9 wa⟩
  | true =>
   rw[if_pos rfl] at q9 ⊢
   refine wpAny_mono (he _ s9 σ8 H9 _ I9 q9) (fun z s10 ⟨y,H10,I10,r10,hd10,hz,m',hm,wa⟩ =>?_) hE'
   refine wpAny_mono (ww _ s10 σ8 H10 (.ref d) [y] (.ref d) [z] (fun _ H'=>H'=upd H10 d (.lst (ys++[y]))) I10 rfl (.cons r10 .nil) ⟨d,ys,y,rfl,rfl,hd10,hz,rfl⟩) (fun _ s11 ⟨_,H11,I11,_,e11⟩ =>?_) hE'
   subst e11;exact⟨m',hm,again I11 wa⟩
theorem atb{X:Cx}{tg iter elt:Expr}{ifs:List Expr}{scope:Scope}{pos:Pos}{wi:TI}{g:TG}{ti:TT}{te:TE}(fr N:List Str)(src:List (Option Nat))(hc:X.calm=true)(hi:PI X tg iter wi)
  (hg:∀fp s H,PG (cxC X N scope fr fp s H) tg g) (ht:∀fp s H,PIf (cxC X N scope fr fp s H) ifs ti) (he:∀fp s H,PE (cxC X N scope fr fp s H) elt te)
  (hok:afz X.env X.N scope fr N src=true:=by rfl) (hkind:scope.kind=.function:=by rfl) (hclos:closureFor scope X.env=pure (xq X.env fr):=by rfl)
  (hs:∀x,foldedSetIterable iter X.env x=pure x:=by intro _;rfl):PE X (.ListComp elt [⟨tg,iter,ifs,0⟩] scope pos) (asi wi g ti te src):=by
 have C:=CompOk.of hok;intro jv s σ H Q I h;rw[eval_ListComp];refine wpAny_comprehension_free (use:=none) rfl hs hclos hkind C.loc (wpAny_mono (hi jv s σ H _ I h) (fun v s1 h1=>wpAny_mono h1 (fun itv s2 h2 =>?_) fun _ _ e=>e) fun _ _ e=>e)
 obtain⟨it,fp,tn,J,H2,e,I2,T,st2,f2,q2⟩:=h2;subst e;have hd0:H2 s2.heap.objs.size=none:=I2.hok.fresh (Nat.le_refl _);obtain⟨W,⟨m0,w0⟩,turn⟩:=q2 s2.heap.objs.size hd0;refine wpAny_newObj_type ?_;generalize hs3:({ s2 with heap:=s2.heap.push { cls:=.type "list", dict:=none,data:=.seq ([]:List Value).toArray } }:Shared)=s3
 have keep2:∀b o,s2.heap.get? b=some o->s3.heap.get? b=some o:=fun b o e=>by rw[<-hs3];exact Heap.get?_push_of_some _ e
 have I3:Inv X jv σ (upd H2 s2.heap.objs.size (.lst [])) s3:=by
  rw[<-hs3];exact I2.laid (t':=s2.toks) (fun b u q=>Heap.get?_push_of_some _ q) (Nat.le_refl _) ⟨Nat.zero_le _,[],0,.nil,Heap.get?_push_size _ rfl⟩
 have ne0:∀b∈fp,b≠s2.heap.objs.size:=fun b hb=>by
  obtain⟨o,e,_⟩:=T.obj _ _ st2 b hb;exact Nat.ne_of_lt (Heap.lt_size e)
 have f3:∀b∈fp,FpOk X jv (upd H2 s2.heap.objs.size (.lst [])) b:=fun b hb=>⟨by rw[cj (ne0 b hb)];exact(f2 b hb).1,(f2 b hb).2⟩
 have lt3:∀b∈fp,b < s3.heap.objs.size:=fun b hb=>by
  obtain⟨o,e,_⟩:=T.obj _ _ st2 b hb;exact Heap.lt_size (keep2 b o e)
 refine wpAny_newFunctionEnv C.cell (by intro y hy;simp at hy) (fun h₁ hns₁ hsb₁ =>?_) hkind
 have keep3:∀b o,s3.heap.get? b=some o->h₁.get? b=some o:=fun b o e=>hsb₁.extBut b o (Nat.ne_of_lt (Heap.lt_size e)) (Heap.get?_push_of_some _ e)
 have st4:tn 0 h₁:=T.keep _ _ _ st2 fun b hb o e=>keep3 b o (keep2 b o e)
 have I4:=akk (tk:=s3.toks+([]:List (Str×Value)).length) I3 C hkind f3 lt3 hns₁ keep3;have loop:=aih (X:=cxC X N scope fr fp s3 (upd H2 s2.heap.objs.size (.lst []))) (iter:=iter) (scope:=scope) (pos:=pos) (d:=s2.heap.objs.size)
  (R:=compPost (model X.prog X.w) X.A X.xe none (EP X jv σ Q) (.ref s2.heap.objs.size) s3.heap.objs.size) hc rfl T
  (fun H' hn b hb=>⟨hn b hb,Nat.ne_of_lt (lt3 b hb),I4.ok.exfs b hb,.inl hb,(I4.ok.exf b hb).2,fun p hp=>absurd (show p∈([]:List (Addr×Obj)) from hp) (by simp)⟩)
  (hg fp s3 _) (ht fp s3 _) (he fp s3 _) turn w0 I4 st4 (fun b hb=>(f3 b hb).1) (fun σ' H' s' I6 qn=>by
   obtain⟨m6,hn6,_⟩:=I6.loc;exact⟨m6,hn6,fun h'' hs''=>⟨.ref s2.heap.objs.size,H',akl I3 f3 I6 hs'',rfl,qn⟩⟩)
 exact codeAny_compStart_list loop (T.self _ 0 _ _ _ st4 loop)
theorem Same.new{H:Hp}{p:Addr}(h:H p=none)(o:HO):Same H (upd H p o):=fun b u q=>by rw[cj (gn q h)];exact q
structure ItOf (J:It) (xs:List V) (S:Hp->Prop):Prop where
 go:∀i H,S H->i < xs.length->J.go i H
 yld:∀i H x H',S H->J.yld i H x H'->H'=H/\(i < xs.length->xs[i]? = some x)
 stop:∀i H,S H->xs.length<=i->J.stop i H
theorem aqn{K:Fg9}{a:Addr}{xs:List V}:ItOf (Itt K a) xs fun H=>SqT K H a xs :=
 ⟨fun i H h hi=>⟨xs,xs[i],h,by simp[hi]⟩,fun i H x H' h y=>⟨y.1,fun _=>y.2 xs h⟩,fun i H h hi=>⟨xs,h,hi⟩⟩
theorem akh{K:Fg9}{a:Addr}{xs:List V}:ItOf (Itl K a) xs fun H=>SqL K H a xs :=
 ⟨fun i H h hi=>⟨xs,xs[i],h,by simp[hi]⟩,fun i H x H' h y=>⟨y.1,fun _=>y.2 xs h⟩,fun i H h hi=>⟨xs,h,hi⟩⟩
def ups(lo:Int)(n:Nat):List V:=(List.range n).map fun i=>V.int (lo+(i:Nat))
theorem af4(lo:Int)(n:Nat):(ups lo n).length=n:=by simp[ups]
theorem asb{lo:Int}{n i:Nat}(h:i < n):(ups lo n)[i]? = some (.int (lo+(i:Nat))):=by
 unfold ups;rw[List.getElem?_map,List.getElem?_range h];rfl
theorem aqo{lo:Int}{n:Nat}:ItOf (Itr lo n) (ups lo n) fun _=>True :=
 ⟨fun i H _ hi=>by rw[af4] at hi;exact hi,fun i H x H' _ y=>⟨y.1,fun hi=>by rw[af4] at hi;rw[asb hi,y.2]⟩,fun i H _ hi=>by rw[af4] at hi;exact hi⟩
section
variable{X:Cx}
def rAll(K:Fg9):List V->Hp->VK->Prop:=fun xs H Q=>∃(p:Addr) (bs:List Bool),xs=[.ref p]/\SqL K H p (bs.map V.bl)/\Q (.bl (bs.all id)) H
theorem ara(hc:X.calm=true):aau X (.builtin "all") (rAll X.K):=by
 intro jv s σ H xs us Q I r h;obtain⟨p,bs,rfl,hq,q⟩:=h;obtain⟨u,rfl,ru⟩:=vals1 r;cases ru;obtain⟨its,rv,pl,hz⟩:=I.list hq;have hl:=pl.isList;have hlen:=rv.length;rw[List.length_map] at hlen;have hlt:p < s.heap.objs.size:=by obtain⟨_,e,_⟩:=hl;exact Heap.lt_size e
 refine call_all_walk (wpAny_pyIter_list hl ?_);refine⟨s.heap.objs.size,[s.heap.objs.size,p],[s.heap.objs.size],its.toArray.size,_,_,fun i=>(bs[i]?).getD true,rfl,Walks.list (A:=X.A.in1) (I.ok.hd hc) _ p (Nat.ne_of_lt hlt) its.toArray,
  ⟨⟨_,Heap.get?_push_size _ rfl,rfl,rfl⟩,hl.push _⟩,fun i v s' Q' E' hP hQ =>?_,fun h' tk hk =>?_⟩
 ·have hi:its[i]? = some v:=by simpa using hP
  cases e:bs[i]? with
  | none =>
   have h1:bs.length<=i:=List.getElem?_eq_none_iff.mp e;have h2:i < its.length:=(List.getElem?_eq_some_iff.mp hi).1;omega
  | some b =>
   obtain⟨u,hu,ru⟩:=rv.get (i:=i) (x:=V.bl b) (by rw[List.getElem?_map,e];rfl)
   rw[hi] at hu;cases hu;obtain rfl:v=Value.bool b:=ru;simp only[e,Option.getD_some] at hQ;exact wpAny_truthy_bool hQ
 ·have e:((List.range its.toArray.size).all fun i=>(bs[i]?).getD true)=bs.all id:=by
   rw[List.size_toArray,<-hlen];exact LSm.range_all bs
  rw[e];exact⟨.bl (bs.all id),H,I.kept (t':=tk) (LSm.kept_iter hk),rfl,q⟩
end
def Dfn(P:Program)(w:World)(K:Fg9)(mg:Str->Option Value)(base:Heap)(x:Str)(ps:List Str)(k:Nat)(sp:Sp):Prop :=
 ∃(f:Addr) (fd:FuncData),FnOk P w K mg base CX0 k f fd ps sp/\mg x=some (.ref f)/\keepIn K (.ref f)=true/\Binds K fd ps []
section
variable{X:Cx}{x:Str}{ps:List Str}{k:Nat}{sp:Sp}{e:Expr}{es:List Expr}{t:TA}{p pos:Pos}
theorem ay6(F:Dfn X.prog X.w X.K X.mg X.base x ps k sp)(hr:Room k X.A)(hg:Gl X x)(ha:PA X (e::es) t)(hdb:(x==("__debug__" : Str))=false:=by decide)
  (he:starEach (e::es) X.env=(false,eval e X.env)::starEach es X.env:=by rfl) (hpl:(backTo pos (starEach es X.env)).any (·.1)=false:=by rfl):PE X (.Call (.Name x p) (e::es) [] pos) (au3 sp [] E0 t):=by
 obtain⟨f,fd,F,hm,hk,hb⟩:=F;exact atd F hr hg hm hk hb .nil ay9 ha hdb he hpl
theorem afd{T:String}(hg:Gl X x)(hm:X.mg x=none)(hv:bootBuiltins x=some (.type T))(hn:x ≠ "__name__" := by decide)(hd:(x==("__debug__" : Str))=false:=by decide):PE X (.Name x pos) (tC (.ty T)) :=
 ate hg hm hv rfl hn hd
end
section
variable{X:Cx}
end
section
variable{prog:Program}{w:World}{A:Around}{E:Value->Shared->Prop}{s:Shared}
theorem aq9{t b:Addr}{vs ws:List Value}{Q:Value->Shared->Prop}(ht:IsTup s.heap t vs.toArray)(hb:IsTup s.heap b ws.toArray)(hv:vs=[])(h:Q (.ref b) s):wpAny (model prog w) A (binaryOp .Add (.ref t) (.ref b)) Q E s:=by
 obtain⟨⟨cls,dd,data,sl⟩,ho,hc,n,hd⟩:=id ht;obtain⟨⟨cls2,dd2,data2,sl2⟩,ho2,hc2,n2,hd2⟩:=id hb;simp only at hc hd hc2 hd2;subst hc hd hc2 hd2;exact concat_meets ⟨_,ho,rfl⟩ ⟨_,ho2,rfl⟩ noFill_tuple_add seq_tuple_add PySem.F.slot_tuple_add PySem.F.entry_tuple_add (PySem.F.args_tuple_add_2 _ _)
  (tuple_addW0 t b vs.toArray ws.toArray n n2 dd dd2 sl sl2 (by simp[hv])) ⟨ho,ho2,h⟩
end
section
variable{X:Cx}
end
section
variable{X:Cx}
def au2(x:Str)(n:Int):TE:=fun _ H Q=>∀p,H p=none->Q (.ref p) (upd H p (.dK [(Sum.inr x,.int n)]))
theorem apz{x:Str}{n:Int}{j1 j2:Nat}{p1 p2 pos:Pos}:PE X (.Dict [some (.Constant (.str x) j1 p1)] [.Constant (.int n) j2 p2] pos) (au2 x n):=by
 intro jv s σ H Q I q;have big:sysModules < s.heap.objs.size:=by
  have h:mainGlobals < s.heap.objs.size:=(I.mod.glob.keeps I.bk).lt;exact Nat.lt_trans (by decide) h
 have hn:=I.hok.fresh (Nat.le_refl s.heap.objs.size);refine wpAny_Dict_walk (knd:=agr X.prog X.w) rfl rfl (by simp) (by show 1<=15;decide) ?_
 refine pairTrees_cons_walk (Calls.Constant_str (wpAny_Constant_int (pairTrees_nil_walk ?_)));refine⟨[((Sum.inr x:Key),Value.int n (s.toks+1))],⟨ajc X.prog X.w x s.toks,rfl,True.intro⟩,Heap.DictOf.new s.heap,fun h' dd hs =>?_⟩
 refine⟨.ref s.heap.objs.size,upd H s.heap.objs.size (.dK [(Sum.inr x,.int n)]),?_,rfl,q _ hn⟩;refine I.laid (fun b u e=>hs.extBut b u (Nat.ne_of_lt (Heap.lt_size e)) (Heap.get?_push_of_some _ e)) (Nat.le_refl _) ?_
 exact⟨by show 1<=sizeLine;decide,beq_eq_false_iff_ne.mpr (Ne.symm (Nat.ne_of_lt big)),_,.cons ⟨rfl,_,rfl⟩ .nil,dd⟩
end
theorem zb:fillsNumberSlot (.type "tuple") "mul" = pure false :=
 PySem.fillsNumberSlot_seq (id := "tuple.__mul__") (r:=some (.builtin "tuple.__rmul__")) F.slot_tuple_mul.lookup (by decide +kernel) F.slot_tuple_rmul.lookup (by decide +kernel)
theorem adh:seqRepeat? (.type "tuple")=pure (some (.builtin "tuple.__mul__")):=by
 unfold seqRepeat?;rw[PySem.seqSlot_of (T := "tuple") (name := "__mul__") (id := "tuple.__mul__") F.slot_tuple_mul.lookup (by decide +kernel),PySem.seqSlot_of (T := "tuple") (name := "__rmul__") (id := "tuple.__rmul__") F.slot_tuple_rmul.lookup (by decide +kernel)]
 rfl
theorem aba(a:Int)(t:Tok)(l:Addr)(items:Array Value)(n:Nat)(dd:Option Addr)(sl:Array (Option Value)) :
  Meets (Builtin.«int.__rmul__» ⟨[.int a t,.ref l],[]⟩) (fun _ R s=>s.heap.get? l=some { cls:=.type "tuple", dict:=dd,data:=.seq items n,slots:=sl }/\R (.ok (.ret Value.notImplemented)) s) :=
 .of_wp fun prog w A R s h=>by obtain⟨hp,g,d,tk,os⟩:=s;obtain⟨hl,h⟩:=h;wp_walk;exact⟨_,rfl,h⟩
theorem ak2(l:Addr)(items:Array Value)(n:Nat)(dd:Option Addr)(sl:Array (Option Value))(x:Int)(u:Tok)(h0:items.isEmpty=false)(h2:2<=x)(h63:x < 2 ^ 63)(hsz:items.size*x.toNat<=sizeLine) :
  Meets (Builtin.«tuple.__mul__» ⟨[.ref l,.int x u],[]⟩) (fun _ R s=>s.heap.get? l=some { cls:=.type "tuple", dict:=dd,data:=.seq items n,slots:=sl } /\
   R (.ok (.ret (Value.ref s.heap.objs.size))) { s with heap:=s.heap.push { cls:=Value.type "tuple", data:=Data.seq (List.foldl (fun x1 x2=>x1++x2) #[] (List.replicate x.toNat items)) },toks:=s.toks }) :=
 .of_wp fun prog w A R s h=>by
  obtain⟨hp,g,d,tk,os⟩:=s;obtain⟨hl,h⟩:=h;have c1:(decide (x < -2 ^ 63)||decide (x≥2 ^ 63))=false:=by
   rw[Bool.or_eq_false_iff];exact⟨decide_eq_false (by omega),decide_eq_false (by omega)⟩
  have c2:(items.isEmpty||x==1)=false:=by
   rw[h0,Bool.false_or,beq_eq_false_iff_ne];omega
  have c3:(decide (x<=0)||items.isEmpty)=false:=by
   rw[h0,Bool.or_false];exact decide_eq_false (by omega)
  have e4:((items.size:Int)*x)=((items.size*x.toNat:Nat):Int):=by
   have:x=(x.toNat:Int):=by omega
   rw[Int.natCast_mul,<-this]
  have h4:(sizeLine:Int)<=(2 ^ 63 - 1) / 8:=by decide
  have c4:¬((items.size:Int)*x > (2 ^ 63 - 1) / 8):=by rw[e4];omega
  have c5:Builtin.Tuple.tupleTooMany ((items.size:Int)*x)=false:=by
   unfold Builtin.Tuple.tupleTooMany;rw[e4];exact decide_eq_false (by omega)
  wp_walk;refine wpAny_ite_false (by rw[c1];rfl) ?_
  wp_walk;refine wpAny_ite_false (by rw[c2];rfl) ?_
  try dsimp only
  refine wpAny_ite_false (by rw[c3];rfl) ?_
  try dsimp only
  refine wpAny_ite_false (decide_eq_false c4) ?_
  try dsimp only
  refine wpAny_ite_false (by rw[c5];rfl) ?_
  have hso:sizeOk (.seq (List.foldl (fun x1 x2=>x1++x2) #[] (List.replicate x.toNat items))):=by
   show(List.foldl (fun x1 x2=>x1++x2) #[] (List.replicate x.toNat items)).size<=sizeLine
   have hn:=foldl_rep items.toList x.toNat [];rw[List.nil_append] at hn;have hn':List.foldl (fun x1 x2=>x1++x2) #[] (List.replicate x.toNat items)=(List.replicate x.toNat items.toList).flatten.toArray:=hn
   rw[hn',List.size_toArray,len_rep,Array.length_toList,Nat.mul_comm];exact hsz
  refine wpAny_bind (m:=Builtin.Tuple.tupleExact _) (wpAny_newObj_type (wpAny_pure ⟨_,rfl,h⟩) hso)
theorem ak3(l:Addr)(items:Array Value)(n:Nat)(dd:Option Addr)(sl:Array (Option Value))(x:Int)(u:Tok)(hx:x=1) :
  Meets (Builtin.«tuple.__mul__» ⟨[.ref l,.int x u],[]⟩) (fun _ R s=>s.heap.get? l=some { cls:=.type "tuple", dict:=dd,data:=.seq items n,slots:=sl }/\R (.ok (.ret (Value.ref l))) s) :=
 .of_wp fun prog w A R s h=>by
  obtain⟨hp,g,d,tk,os⟩:=s;obtain⟨hl,h⟩:=h;have c1:(decide (x < -2 ^ 63)||decide (x≥2 ^ 63))=false:=by
   rw[Bool.or_eq_false_iff];exact⟨decide_eq_false (by omega),decide_eq_false (by omega)⟩
  have c2:(items.isEmpty||x==1)=true:=by rw[hx];simp
  wp_walk;exact⟨_,rfl,h⟩
section
variable{X:Cx}
theorem ath:OpR X (binaryOp .Mult) (fun x y H Q=>∃a xs,x=.ref a/\y=.int 1/\H a=some (.tup xs)/\Q (.ref a) H):=by
 intro jv s σ H x y v u Q I rx ry h;obtain⟨a,xs,rfl,rfl,ha,q⟩:=h;cases rx;obtain⟨t,rfl⟩:=ry;obtain⟨its,r1,p1,_⟩:=I.tuple (SqT.of ha);obtain⟨⟨cls,dd,data,sl⟩,ho,hc,n,hd⟩:=id p1;simp only at hc hd;subst hc hd;exact wpAny_binaryOp_repeat_ref (T := "tuple") (U := "int") (by decide) ⟨_,ho,rfl⟩ (fun s'=>typeIs_int s' 1 t) zb F.fills_int_mul F.slot_int_rmul adh F.slot_int_index.lookup
  (call_meets F.slot_int_rmul (typeIs_int s 1 t) F.entry_int_rmul (F.args_int_rmul_2 _ _) (aba 1 t a its.toArray n dd sl)
   ⟨ho,rfl,⟨_,ho,rfl⟩,call_meets F.slot_tuple_mul ⟨_,ho,rfl⟩ F.entry_tuple_mul (F.args_tuple_mul_2 _ _) (ak3 a its.toArray n dd sl 1 t rfl) ⟨ho,⟨.ref a,H,I,rfl,q⟩⟩⟩)
def ave:R2:=fun x y H Q=>∃a xs k,x=.ref a/\y=.int k/\H a=some (.tup xs)/\xs≠[]/\2<=k/\k < 2 ^ 63/\xs.length*k.toNat<=sizeLine/\∀p,H p=none->Q (.ref p) (upd H p (.tup (List.replicate k.toNat xs).flatten))
theorem ap3:OpR X (binaryOp .Mult) ave:=by
 intro jv s σ H x y v u Q I rx ry h;obtain⟨a,xs,k,rfl,rfl,ha,hx,h2,h63,hz,q⟩:=h;cases rx;obtain⟨t,rfl⟩:=ry;obtain⟨its,r1,p1,_⟩:=I.tuple (SqT.of ha);obtain⟨⟨cls,dd,data,sl⟩,ho,hc,n,hd⟩:=id p1;simp only at hc hd;subst hc hd;have hnew:List.foldl (fun x1 x2=>x1++x2) #[] (List.replicate k.toNat its.toArray)=(List.replicate k.toNat its).flatten.toArray:=by
  have:=foldl_rep its k.toNat [];rw[List.nil_append] at this;exact this
 refine wpAny_binaryOp_repeat_ref (T := "tuple") (U := "int") (by decide) ⟨_,ho,rfl⟩ (fun s'=>typeIs_int s' k t) zb F.fills_int_mul F.slot_int_rmul adh F.slot_int_index.lookup
  (call_meets F.slot_int_rmul (typeIs_int s k t) F.entry_int_rmul (F.args_int_rmul_2 _ _) (aba k t a its.toArray n dd sl)
   ⟨ho,rfl,⟨_,ho,rfl⟩,call_meets F.slot_tuple_mul ⟨_,ho,rfl⟩ F.entry_tuple_mul (F.args_tuple_mul_2 _ _) (ak2 a its.toArray n dd sl k t ?_ h2 h63 ?_) ⟨ho,?_⟩⟩)
 ·cases its with
  | nil=>exact absurd (r1.nil_iff.mp rfl) hx
  | cons _ _=>rfl
 ·rw[List.size_toArray,<-r1.length];exact hz
 ·rw[hnew];refine⟨.ref s.heap.objs.size,_,I.laid (t':=s.toks) (o:=.tup (List.replicate k.toNat xs).flatten) (fun b ob q=>Heap.get?_push_of_some _ q) (Nat.le_refl _) ?_,rfl,q _ (I.hok.fresh (Nat.le_refl _))⟩
  exact⟨by rw[len_rep,Nat.mul_comm];exact hz,_,r1.rep k.toNat,IsTp.new _ _⟩
end
section
variable{prog:Program}{w:World}{A:Around}{E:Value->Shared->Prop}{s:Shared}
theorem abr{t sl:Addr}{items:Array Value}{vl vu:Value}{lo hi:Option Int}{Q:Value->Shared->Prop}(ht:IsTup s.heap t items)(hs:s.heap.IsSliceOf sl vl vu .none)(pl:IsPart vl lo)(pu:IsPart vu hi)
  (h1:HT.sIx items.size 0 lo=0) (h2:HT.sIx items.size items.size hi=items.size) (h:Q (.ref t) s):wpAny (model prog w) A (getItem (.ref t) (.ref sl)) Q E s:=by
 obtain⟨os,hos,hcs,hds⟩:=id hs;have hTs:s.TypeIs (.ref sl) "slice" := ⟨os,hos,hcs⟩;unfold getItem
 try with_reducible refine wpAny_holding ?_
 first | refine wpAny_bind (wpAny_pure ?_) | skip
 refine wpAny_bind (wpAny_sequenceKey ht.typeIs (by decide) ?_)
 refine wpAny_bind (wpAny_callSpecial?_slot (name:=Str.ofString "__getitem__") ht.typeIs PyProof.Rows.slot_tuple_getitem
  (wpAny_call_entry PyProof.Rows.slot_tuple_getitem ht.typeIs entry_tuple_getitem ?_ (args_tuple_getitem _ _)))
 show wpAny _ _ (Builtin.Tuple.tupleItemsOf (.ref t) >>= _) _ _ s;refine wpAny_bind (tupleItemsOf_ ht ?_);refine wpAny_bind (wpAny_typeOf hTs ?_);rw[if_pos (by decide)]
 refine wpAny_bind (HT.yx hs pl pu ?_);have hyes:(((HT.sIx items.size 0 lo:Nat):Int)==0&&(1:Int)==1&&(HT.sIx items.size items.size hi - HT.sIx items.size 0 lo)==items.size)=true:=by
  rw[h1,h2];simp
 show wpAny _ _ (if (((HT.sIx items.size 0 lo:Nat):Int)==0&&(1:Int)==1&&(HT.sIx items.size items.size hi - HT.sIx items.size 0 lo)==items.size)=true then _ else _) _ _ s
 rw[if_pos hyes];refine wpAny_bind (wpAny_bind (wpAny_typeOf ht.typeIs (wpAny_pure ?_)));rw[if_pos (by decide)]
 exact wpAny_bind (wpAny_rule (wpAny_pure ⟨_,rfl,wpAny_pure h⟩))
end
section
variable{X:Cx}
end
section
variable{X:Cx}(K:Fg9)(hK:X.K=K)
include hK
variable{tg:Expr}
end
theorem j8:bootBuiltins "len" = some (.builtin "len"):=by decide +kernel
theorem af3:bootBuiltins "all" = some (.builtin "all"):=by decide +kernel
theorem gf:bootBuiltins "isinstance" = some (.builtin "isinstance"):=by decide +kernel
theorem axi:bootBuiltins "max" = some (.builtin "max"):=by decide +kernel
theorem ar6:bootBuiltins "min" = some (.builtin "min"):=by decide +kernel
theorem aas:bootBuiltins "sorted" = some (.builtin "sorted"):=by decide +kernel
theorem aoy:bootBuiltins "divmod" = some (.builtin "divmod"):=by decide +kernel
theorem aox:bootBuiltins "int" = some (.type "int"):=by decide +kernel
theorem aju:bootBuiltins "bool" = some (.type "bool"):=by decide +kernel
theorem nj:bootBuiltins "tuple" = some (.type "tuple"):=by decide +kernel
theorem aow:bootBuiltins "list" = some (.type "list"):=by decide +kernel
theorem arb:bootBuiltins "range" = some (.type "range"):=by decide +kernel
theorem aou:bootBuiltins "set" = some (.type "set"):=by decide +kernel
theorem axh:bootBuiltins "str" = some (.type "str"):=by decide +kernel
theorem ain:bootBuiltins "enumerate" = some (.type "enumerate"):=by decide +kernel
structure ExcK (K:Fg9) (C:Addr):Prop where
 ga:findIn K (.ref C) "__getattribute__" = some (some (.builtin "BaseException.__getattribute__"))
 gh:findIn K (.ref C) "__getattr__" = some none
 be:PySem.W.mroIn K C (.type "BaseException")=some true
 hd:PySem.W.hasDictIn K C=true
 cl:findIn K (.ref C) "__class__" = some (some (.builtin "object.__class__"))
 sp:PySem.W.specialIn K (.builtin "object.__class__") "__get__" = some (some (.builtin "getset_descriptor.__get__"))
 tk:PySem.W.takesIn K (.builtin "object.__class__")=some true
 ob:PySem.W.mroIn K C (.type "object")=some true
 no:∀T∈["int","bool","tuple","list","str","dict"],PySem.W.subIn K (.ref C) (.type T)=some false
theorem ajr{K:Fg9}{C:Addr}{od:Option Obj}{name:Str}{a g:Value}(hc:(PySem.W.clsIn K C).isSome=true)(ha:findIn K (.ref C) name=some (some a))(hg:PySem.W.specialIn K a "__get__" = some (some g))(ht:PySem.W.takesIn K a=some true):PySem.W.findObj K C od name=some (.bind g a):=by
 obtain⟨cd,hc⟩:=Option.isSome_iff_exists.mp hc;unfold PySem.W.findObj;rw[hc,Option.bind_some,ha,Option.bind_some];simp[hg,ht]
section
variable{prog:Program}{w:World}{A:Around}{E:Value->Shared->Prop}{s:Shared}{K:Fg9}{x D:Addr}{ox:Obj}{od:Option Obj}{name:Str}
theorem aq0{fill expr:Bool}{tk:Tok}{Q:Value->Shared->Prop}(X:K.In s.heap)(I:PySem.W.InstAt s.heap x ox D od)(k:ExcK K D)
  (h:wpAny (model prog w) A.in1 (Builtin.«object.__getattribute__» ⟨[.ref x,.str name tk],[]⟩)
   (fun fin s'=>match fin with | .done (.ret v)=>wpAny (model prog w) A (handedOut v) Q E s' | _=>False) (fun _ _=>False) s) :
  wpAny (model prog w) A (getAttrBy (.ref x) (.str name tk) fill expr) Q E s:=by
 obtain⟨hh,g,d,t,os⟩:=s;have L0:=I.type (M:=model prog w);have L1:=PySem.W.looks_findIn (M:=model prog w) X k.ga;have L2:=PySem.W.looks_findIn (M:=model prog w) X k.gh;have L3:PySem.W.Looks (model prog w) hh (isInstance (.ref x) (.type "BaseException")) true:=L0.andThen (PySem.W.looks_mroIn X k.be);unfold getAttrBy;refine wpAny_holding (wpAny_bind (L0.at (wpAny_bind (L1.at ?_))));have hx2:(Value.builtin "BaseException.__getattribute__" == Value.builtin "object.__getattribute__")=false:=by decide +kernel
 have hx1:(onTheHeap (Value.ref D)&&Value.builtin "BaseException.__getattribute__" == Value.builtin "object.__getattribute__")=false:=by rw[hx2,Bool.and_false]
 simp only[hx1,Bool.false_eq_true,if_false];unfold getAttrByItsOwn hookBefore;rw[if_pos (show onTheHeap (Value.ref D)=true from rfl)]
 refine wpAny_bind ?_;refine L2.at (wpAny_bind (wpAny_attempt (wpAny_holding ?_)));have hx0:(expr&&onTheHeap (Value.builtin "BaseException.__getattribute__"))=false:=by cases expr <;> rfl
 unfold callGetattribute;rw[if_neg (by rw[hx0];exact Bool.false_ne_true)]
 unfold boundAndCalled;refine wpAny_bind (wpAny_of_eq (PySem.F.attr_ValueError.ga.bind (.ref x)) ?_);have hk1:builtinKind "BaseException.__getattribute__" = some .slot:=by decide +kernel
 have hs1:splitId "BaseException.__getattribute__" = some ("BaseException","__getattribute__"):=by decide +kernel
 have ha1:=PySem.F.args_bexc_ga (.ref x) (.str name tk);dsimp only[List.cons_append,List.nil_append];refine wpAny_call (codeAny_call_builtin (id := "BaseException.__getattribute__") (args:=⟨[.ref x,.str name tk],[]⟩) PySem.F.attr_ValueError.ga.plain PySem.F.entry_bexc_ga ?_);refine PySem.W.check_slot (i := "BaseException.__getattribute__") (owner := "BaseException") (n := "__getattribute__") (self:=.ref x) (rest:=[.str name tk]) (kw:=[]) hk1 hs1 L3 ha1 ?_;refine wpAny_mono h (fun fin s' z =>?_) fun _ _ z=>z.elim
 rcases fin with(_ | _ | _ | _) | _ <;> first | exact z | exact z.elim
theorem aq1{g a:Value}{tk:Tok}{P:Value->Shared->Prop}(X:K.In s.heap)(I:PySem.W.InstAt s.heap x ox D od)(hf:PySem.W.findObj K D od name=some (.bind g a))
  (h:wpAny (model prog w) A (call g [a,.ref x,.ref D]) P E s) :
  wpAny (model prog w) A (Builtin.«object.__getattribute__» ⟨[.ref x,.str name tk],[]⟩) (fun fin s'=>match fin with | .done (.ret v)=>P v s' | _=>False) E s:=by
 obtain⟨hh,gg,d,t,os⟩:=s;have L0:=I.type (M:=model prog w);have L1:=PySem.W.looks_find (M:=model prog w) X I hf;unfold Builtin.«object.__getattribute__»
 refine wpAny_bind (wpAny_pure (wpAny_bind (wpAny_pure (wpAny_bind (L0.at (wpAny_bind (L1.at ?_)))))));show wpAny _ _ (Builtin.ObjectAttr.bindTo g a (.ref x) (.ref D)) _ _ _;show wpAny _ _ (holding [a] (call g [a,.ref x,.ref D]) >>= ret) _ _ _;exact wpAny_bind (wpAny_holding (wpAny_mono h (fun v s' z=>wpAny_pure z) fun _ _ z=>z))
end
theorem aqg{K:Fg9}{x D:Addr}(k:ExcK K D):PySem.W.KitX K (.ref x) (.ref D) (fun h=>∃ox od,PySem.W.InstAt h x ox D od) where
 ty:=fun _ _ _ ⟨_,_,I⟩=>I.type
 it:=fun _ _ X _=>by
  obtain⟨cdD,hcD,_⟩:=PySem.W.any_some k.hd;unfold PySem.W.clsIn at hcD;split at hcD
  ·rename_i c' d' cd' sl' ho;intro A' Q' E' s' k q;unfold isType loadHead;exact wpAny_bind (wpAny_loadPart (k _ _ (X _ _ ho)) (wpAny_pure q))
  ·cases hcD
 ne:=fun h tp dd its n sl X htp=>by
  obtain⟨cdD,hcD,_⟩:=PySem.W.any_some k.hd;refine Bool.eq_false_iff.mpr fun q =>?_
  have e:D=tp:=Value.ref.inj (beq_iff_eq.mp q);subst e;unfold PySem.W.clsIn at hcD;split at hcD
  ·rename_i c' d' cd' sl' ho;have z:=(X _ _ ho).symm.trans htp;cases z
  ·cases hcD
 ca:=fun{prog w A E Q s} X ⟨ox,od,I⟩ q=>by
  have hf:PySem.W.findObj K D od "__class__" = some (.bind (.builtin "getset_descriptor.__get__") (.builtin "object.__class__")):=ajr (by obtain⟨cd,hc,_⟩:=PySem.W.any_some k.hd;rw[hc];rfl) k.cl k.sp k.tk
  unfold getAttr? getAttrBy?;refine wpAny_bind (wpAny_mkText (wpAny_bind (wpAny_attempt (aq0 (s:={ s with toks:=s.toks+1 }) X I k (aq1 (s:={ s with toks:=s.toks+1 }) X I hf
   (wpAny_call (PySem.W.class_get (s:={ s with toks:=s.toks+1 }) (ox:=ox) (od:=od) X I k.ob (PySem.W.handed_on rfl (wpAny_pure q)))))))))
end Mn
namespace Dn
open L2 Mn
inductive D where
 | non | bl (b:Bool) | int (i:Int) | str (x:Str) | tup (l:List D) | lst (l:List D) | kst (l:List D) | dct (kvs:List (Key×D)) | exn (c:Str) (fs:List (Str×Int))
def exO(a C:Addr)(dx:Option Addr):Heap->Prop:=fun h=>∃oe vs,h.get? a=some oe/\oe.cls=.ref C/\oe.dict=dx/\oe.data=.fields vs
section
variable(K:Fg9)(F:Hp)
mutual
inductive Is:D->V->Prop
 | non:Is .non .non
 | bl (b:Bool):Is (.bl b) (.bl b)
 | int (i:Int):Is (.int i) (.int i)
 | str (x:Str):Is (.str x) (.str x)
 | tup {a:Addr} {vs:List V} {ds:List D} (e:F a=some (.tup vs)) (h:IsL ds vs):Is (.tup ds) (.ref a)
 | lst {a:Addr} {vs:List V} {ds:List D} (e:F a=some (.lst vs)) (h:IsL ds vs):Is (.lst ds) (.ref a)
 | kst {a:Addr} {vs:List V} {ds:List D} (e:SqL K F a vs) (h:IsL ds vs):Is (.kst ds) (.ref a)
 | dct {a:Addr} {kvs:List (Key×V)} {ds:List (Key×D)} (e:F a=some (.dK kvs)) (h:IsK ds kvs):Is (.dct ds) (.ref a)
 | exn {a C:Addr} {c:Str} {dx:Option Addr} {fs:List (Str×Int)} (e:F a=some (.ext (exO a C dx))) (hc:nsIn K mainGlobals c=some (some (.ref C))) (hk:ExcK K C)
   (hf:(dx=none/\fs=[])∨∃d,dx=some d/\F d=some (.xd (fs.map fun p=>(p.1,V.int p.2)))):Is (.exn c fs) (.ref a)
inductive IsL:List D->List V->Prop
 | nil:IsL [] []
 | cons {d:D} {v:V} {ds:List D} {vs:List V} (h:Is d v) (t:IsL ds vs):IsL (d::ds) (v::vs)
inductive IsK:List (Key×D)->List (Key×V)->Prop
 | nil:IsK [] []
 | cons {k:Key} {d:D} {v:V} {ds:List (Key×D)} {vs:List (Key×V)} (h:Is d v) (t:IsK ds vs):IsK ((k,d)::ds) ((k,v)::vs)
end
end
section
variable{K:Fg9}{F F':Hp}
mutual
theorem Is.mono(g:Same F F'):∀{d:D} {v:V},Is K F d v->Is K F' d v
 | _,_,.non=>.non
 | _,_,.bl b=>.bl b
 | _,_,.int i=>.int i
 | _,_,.str x=>.str x
 | _,_,.tup e h=>.tup (g _ _ e) (IsL.mono g h)
 | _,_,.lst e h=>.lst (g _ _ e) (IsL.mono g h)
 | _,_,.kst e h=>.kst (L2.Same.seq g e) (IsL.mono g h)
 | _,_,.dct e h=>.dct (g _ _ e) (IsK.mono g h)
 | _,_,.exn e hc hk hf=>.exn (g _ _ e) hc hk (hf.imp id fun⟨d,h1,h2⟩=>⟨d,h1,g _ _ h2⟩)
theorem IsL.mono(g:Same F F'):∀{ds:List D} {vs:List V},IsL K F ds vs->IsL K F' ds vs
 | _,_,.nil=>.nil
 | _,_,.cons h t=>.cons (Is.mono g h) (IsL.mono g t)
theorem IsK.mono(g:Same F F'):∀{ds:List (Key×D)} {vs:List (Key×V)},IsK K F ds vs->IsK K F' ds vs
 | _,_,.nil=>.nil
 | _,_,.cons h t=>.cons (Is.mono g h) (IsK.mono g t)
end
theorem IsL.length:∀{ds:List D} {vs:List V},IsL K F ds vs->ds.length=vs.length
 | _,_,.nil=>rfl
 | _,_,.cons _ t=>by simp[IsL.length t]
theorem IsL.append:∀{ds es:List D} {vs ws:List V},IsL K F ds vs->IsL K F es ws->IsL K F (ds++es) (vs++ws)
 | _,_,_,_,.nil,h=>h
 | _,_,_,_,.cons h t,k=>.cons h (IsL.append t k)
theorem IsL.take:∀{ds:List D} {vs:List V} (n:Nat),IsL K F ds vs->IsL K F (ds.take n) (vs.take n)
 | _,_,0,_=>by simpa using IsL.nil
 | _,_,_+1,.nil=>.nil
 | _,_,n+1,.cons h t=>.cons h (IsL.take n t)
theorem IsL.drop:∀{ds:List D} {vs:List V} (n:Nat),IsL K F ds vs->IsL K F (ds.drop n) (vs.drop n)
 | _,_,0,h=>h
 | _,_,_+1,.nil=>.nil
 | _,_,n+1,.cons _ t=>IsL.drop n t
theorem IsL.get:∀{ds:List D} {vs:List V} {i:Nat} {d:D},IsL K F ds vs->ds[i]? = some d->∃v,vs[i]? = some v/\Is K F d v
 | _,_,_,_,.nil,e=>by simp at e
 | _,_,0,_,.cons h _,e=>by simp at e;subst e;exact⟨_,rfl,h⟩
 | _,_,i+1,v,.cons _ t,e=>by
  obtain⟨d,h1,h2⟩:=IsL.get (i:=i) (d:=v) t (by simpa using e)
  exact⟨d,by simpa using h1,h2⟩
theorem IsL.set{d:D}{v:V}(h:Is K F d v):∀{ds:List D} {vs:List V} (i:Nat),IsL K F ds vs->IsL K F (ds.set i d) (vs.set i v)
 | _,_,_,.nil=>.nil
 | _,_,0,.cons _ t=>.cons h t
 | _,_,i+1,.cons q t=>.cons q (IsL.set h i t)
theorem IsL.rep{ds:List D}{vs:List V}(h:IsL K F ds vs):∀k:Nat,IsL K F (List.replicate k ds).flatten (List.replicate k vs).flatten
 | 0=>by simpa using IsL.nil
 | k+1=>by
  rw[List.replicate_succ,List.replicate_succ,List.flatten_cons,List.flatten_cons];exact h.append (IsL.rep h k)
theorem IsL.int_inv:∀{ns:List Int} {vs:List V},IsL K F (ns.map D.int) vs->vs=ns.map V.int
 | [],_,.nil=>rfl
 | n::r,_,.cons (.int _) t=>by rw[List.map_cons,IsL.int_inv t]
theorem IsL.bl_inv:∀{ns:List Bool} {vs:List V},IsL K F (ns.map D.bl) vs->vs=ns.map V.bl
 | [],_,.nil=>rfl
 | n::r,_,.cons (.bl _) t=>by rw[List.map_cons,IsL.bl_inv t]
theorem aa0:∀ns:List Int,IsL K F (ns.map D.int) (ns.map V.int)
 | []=>.nil
 | n::r=>.cons (.int n) (aa0 r)
end
inductive Sl where
 | emp | val (d:D) | own (t:Option Nat) (l:List D) | box (c:Str) (fs:List (Str×(Nat ⊕ D)))
abbrev Ro:=List Sl
def Owns(ρ:Ro)(σ:L2.St)(i:Nat)(a:Addr):Prop:=(∃t l,ρ[i]? = some (.own t l))/\σ[i]? = some (some (.ref a))
def Own(ρ:Ro)(σ:L2.St)(a:Addr):Prop:=∃i,Owns ρ σ i a
def SlOk(K:Fg9)(tg:Nat->Addr)(F H:Hp):Sl->Option V->Prop
 | .emp,_=>True
 | .val d,o=>∃v,o=some v/\Is K F d v
 | .own t l,o=>∃a vs,o=some (.ref a)/\F a=none/\H a=some (.lst vs)/\IsL K F l vs/\∀k,t=some k->tg k=a
 | .box c fs,o=>∃a C dx fvs,o=some (.ref a)/\F a=none/\H a=some (.ins C dx fvs)/\nsIn K mainGlobals c=some (some (.ref C))/\(∀f,fs.lookup f=none->fvs.lookup f=none)/\(∀f k,fs.lookup f=some (.inl k)->fvs.lookup f=some (.ref (tg k)))/\∀f d,fs.lookup f=some (.inr d)->∃v,fvs.lookup f=some v/\Is K F d v
structure Good (K:Fg9) (tg:Nat->Addr) (F H:Hp) (ρ:Ro) (σ:L2.St):Prop where
 sub:Same F H
 len:ρ.length=σ.length
 sl:∀(i:Nat) (s:Sl) (o:Option V),ρ[i]? = some s->σ[i]? = some o->SlOk K tg F H s o
 inj:∀(i j:Nat) (a:Addr),Owns ρ σ i a->Owns ρ σ j a->i=j
structure Ext (O O':Addr->Prop) (F H F' H':Hp):Prop where
 sub:Same F F'
 new:∀a o,F' a=some o->F a=some o∨H a=none∨O a
 keep:∀a o,H a=some o->¬O a->H' a=some o
 own:∀a,O' a->O a∨H a=none
 there:∀a,H' a=none->H a=none
theorem Ext.refl(O:Addr->Prop)(F H:Hp):Ext O O F H F H:=⟨fun _ _ e=>e,fun _ _ e=>.inl e,fun _ _ e _=>e,fun _ h=>.inl h,fun _ h=>h⟩
theorem Ext.trans{O O1 O2:Addr->Prop}{F H F1 H1 F2 H2:Hp}(a:Ext O O1 F H F1 H1)(b:Ext O1 O2 F1 H1 F2 H2):Ext O O2 F H F2 H2 where
 sub:=a.sub.trans b.sub
 new:=fun c o e=>by
  rcases b.new c o e with q | q | q
  ·exact a.new c o q
  ·exact .inr (.inl (a.there c q))
  ·rcases a.own c q with z | z
   ·exact .inr (.inr z)
   ·exact .inr (.inl z)
 keep:=fun c o e n=>b.keep c o (a.keep c o e n) fun z=>by
  rcases a.own c z with q | q
  ·exact n q
  ·rw[e] at q;cases q
 own:=fun c z=>by
  rcases b.own c z with q | q
  ·exact a.own c q
  ·exact .inr (a.there c q)
 there:=fun c z=>a.there c (b.there c z)
section
variable{K:Fg9}{tg:Nat->Addr}{F H F' H':Hp}{ρ ρ':Ro}{σ:L2.St}
theorem Good.ownAt(G:Good K tg F H ρ σ){a:Addr}(h:Own ρ σ a):F a=none/\∃vs,H a=some (.lst vs):=by
 obtain⟨i,⟨t,l,e⟩,q⟩:=h;obtain⟨b,vs,e1,f,e2,_⟩:=G.sl i _ _ e q;cases e1;exact⟨f,vs,e2⟩
theorem Good.grow(G:Good K tg F H ρ σ)(s:Same F F')(s':Same F' H')(k:∀a,Own ρ σ a->F' a=none/\H' a=H a)(kb:∀a C dx fvs,F a=none->H a=some (.ins C dx fvs)->F' a=none/\H' a=H a):Good K tg F' H' ρ σ where
 sub:=s'
 len:=G.len
 inj:=G.inj
 sl:=fun i sl o e q=>by
  have z:=G.sl i sl o e q;cases sl with
  | emp=>trivial
  | val d =>
   obtain⟨v,e1,h⟩:=z;exact⟨v,e1,h.mono s⟩
  | box c fs =>
   obtain⟨a,C,dx,fvs,e1,e2,e3,e4,e7,e5,e6⟩:=z;obtain⟨f1,f2⟩:=kb a C dx fvs e2 e3;exact⟨a,C,dx,fvs,e1,f1,f2.trans e3,e4,e7,e5,fun f d h=>(e6 f d h).imp fun v h=>⟨h.1,h.2.mono s⟩⟩
  | own t l =>
   obtain⟨a,vs,e1,f,e2,h,ht⟩:=z;have w:=k a ⟨i,⟨t,l,e⟩,by rw[q,e1]⟩
   exact⟨a,vs,e1,w.1,by rw[w.2];exact e2,h.mono s,ht⟩
theorem Same.put{p:Addr}(s:Same F H)(h:H p=none)(o:HO):Same (upd F p o) (upd H p o):=fun b u e=>by
 by_cases hb:b=p
 ·subst hb;rw[gb] at e ⊢
  exact e
 ·rw[cj hb] at e ⊢
  exact s b u e
theorem Good.freeF(G:Good K tg F H ρ σ){p:Addr}(h:H p=none):F p=none:=by
 cases e:F p with
 | none=>rfl
 | some o=>rw[G.sub p o e] at h;cases h
theorem Good.own_ne(G:Good K tg F H ρ σ){p a:Addr}(h:H p=none)(w:Own ρ σ a):a≠p:=by
 obtain⟨_,vs,e⟩:=G.ownAt w;exact gn e h
theorem Good.new(G:Good K tg F H ρ σ){p:Addr}(h:H p=none)(o:HO):Good K tg (upd F p o) (upd H p o) ρ σ :=
 G.grow (Same.new (G.freeF h) o) (Same.put G.sub h o) (fun a w=>by
  rw[cj (G.own_ne h w),cj (G.own_ne h w)];exact⟨(G.ownAt w).1,rfl⟩) fun a C dx fvs h1 h2=>by
  rw[cj (gn h2 h),cj (gn h2 h)];exact⟨h1,rfl⟩
theorem Good.newX(G:Good K tg F H ρ σ){p:Addr}(h:H p=none)(o:HO):Ext (Own ρ σ) (Own ρ σ) F H (upd F p o) (upd H p o) where
 sub:=Same.new (G.freeF h) o
 new:=fun a u e=>by
  by_cases ha:a=p
  ·subst ha;exact .inr (.inl h)
  ·rw[cj ha] at e;exact .inl e
 keep:=fun a u e _=>by rw[cj (gn e h)];exact e
 own:=fun a w=>.inl w
 there:=fun a e=>by
  by_cases ha:a=p
  ·subst ha;exact h
  ·rw[cj ha] at e;exact e
theorem Good.fresh(G:Good K tg F H ρ σ){p:Addr}(h:H p=none)(o:HO):Good K tg F (upd H p o) ρ σ :=
 G.grow (Same.refl F) (fun b u e=>by rw[cj (gn (G.sub b u e) h)];exact G.sub b u e) (fun a w=>by
  rw[cj (G.own_ne h w)];exact⟨(G.ownAt w).1,rfl⟩) fun a C dx fvs h1 h2=>⟨h1,cj (gn h2 h)⟩
theorem Good.freshX(G:Good K tg F H ρ σ){p:Addr}(h:H p=none)(o:HO):Ext (Own ρ σ) (Own ρ σ) F H F (upd H p o) where
 sub:=Same.refl F
 new:=fun a u e=>.inl e
 keep:=fun a u e _=>by rw[cj (gn e h)];exact e
 own:=fun a w=>.inl w
 there:=fun a e=>by
  by_cases ha:a=p
  ·subst ha;exact h
  ·rw[cj ha] at e;exact e
theorem Good.freeze(G:Good K tg F H ρ σ){p:Addr}{o:HO}(h:H p=some o)(n:¬Own ρ σ p)(hf:F p=none)(hi:∀C dx fs,o≠.ins C dx fs:=by intro _ _ _ z;cases z):Good K tg (upd F p o) H ρ σ :=
 G.grow (Same.new hf o) (fun b u e=>by
  by_cases hb:b=p
  ·subst hb;rw[gb] at e;cases e;exact h
  ·rw[cj hb] at e;exact G.sub b u e) (fun a w=>by
  have:a≠p:=fun z=>n (z▸w)
  rw[cj this];exact⟨(G.ownAt w).1,rfl⟩) fun a C dx fvs h1 h2=>by
  have:a≠p:=fun z=>by
   subst z;rw[h] at h2;exact hi _ _ _ (Option.some.inj h2)
  rw[cj this];exact⟨h1,rfl⟩
end
end Dn
namespace Dn
open L2 Mn
structure Exn where
 cls:Str
 fs:List (Str×Int)
inductive Out (α:Type) where
 | ok (a:α) | exc (x:Exn)
abbrev M(α:Type):=Ro->Option (Out α×Ro)
noncomputable def M.bind{α β:Type}(m:M α)(k:α->M β):M β:=fun ρ=>match m ρ with
 | some (.ok a,ρ1)=>k a ρ1
 | some (.exc x,ρ1)=>some (.exc x,ρ1)
 | none=>none
noncomputable def ret{α:Type}(a:α):M α:=fun ρ=>some (.ok a,ρ)
noncomputable def lift{α:Type}(o:Option α):M α:=fun ρ=>match o with
 | some a=>some (.ok a,ρ)
 | none=>none
section
variable{α β:Type}
theorem bh{m:M α}{k:α->M β}{ρ ρ2:Ro}{b:β}(h:m.bind k ρ=some (.ok b,ρ2)):∃a ρ1,m ρ=some (.ok a,ρ1)/\k a ρ1=some (.ok b,ρ2):=by
 unfold M.bind at h;split at h
 ·exact⟨_,_,by assumption,h⟩
 ·cases h
 ·cases h
theorem jc{o:Option α}{ρ ρ2:Ro}{b:α}(h:lift o ρ=some (.ok b,ρ2)):o=some b/\ρ2=ρ:=by
 unfold lift at h;split at h
 ·cases h;exact⟨rfl,rfl⟩
 ·cases h
theorem jk{a b:α}{ρ ρ2:Ro}(h:ret a ρ=some (.ok b,ρ2)):a=b/\ρ2=ρ:=by
 unfold ret at h;cases h;exact⟨rfl,rfl⟩
@[simp] theorem axq(a:α)(k:α->M β):(ret a).bind k=k a:=rfl
@[simp] theorem awq(a:α):lift (some a)=ret a:=rfl
end
inductive Rv where
 | v (d:D) | fr (l:List D)
 | tf (d:D) (l:List D)
abbrev Rel(α:Type):=α->V->(H:Hp)->(O:Addr->Prop)->(F' H':Hp)->(O':Addr->Prop)->Prop
def relD(K:Fg9):Rel D:=fun d v _ _ F' _ _=>Is K F' d v
def Bor(K:Fg9)(F H:Hp)(d:D)(v:V):Prop:=Is K F d v∨∃a vs l,d=.lst l/\v=.ref a/\H a=some (.lst vs)/\IsL K F l vs
def relB(K:Fg9):Rel D:=fun d v _ _ F' H' _=>Bor K F' H' d v
def relR(K:Fg9):Rel Rv:=fun r v H O F' H' O'=>match r with
 | .v d=>Is K F' d v
 | .fr l=>∃a vs,v=.ref a/\(H a=none∨O a)/\F' a=none/\H' a=some (.lst vs)/\IsL K F' l vs/\¬O' a
 | .tf d l=>∃t u a vs,v=.ref t/\F' t=some (.tup [u,.ref a])/\Is K F' d u/\(H a=none∨O a)/\F' a=none/\H' a=some (.lst vs)/\IsL K F' l vs/\¬O' a
def T{α:Type}(K:Fg9)(rel:Rel α)(m:M α):TE:=fun σ H Q=>∃tg F ρ a ρ',Good K tg F H ρ σ/\m ρ=some (.ok a,ρ') /\
 ∀v H' F',Good K tg F' H' ρ' σ->Ext (Own ρ σ) (Own ρ' σ) F H F' H'->rel a v H (Own ρ σ) F' H' (Own ρ' σ)->Q v H'
structure EV (K:Fg9) (X:Cx) (e:Expr) (m:M D):Prop where
 go:X.K=K->PE X e (T K (relD K) m)
instance {K:Fg9} {X:Cx} {e:Expr} {m:M D}:CoeFun (EV K X e m) fun _=>X.K=K->PE X e (T K (relD K) m):=⟨EV.go⟩
structure EB (K:Fg9) (X:Cx) (e:Expr) (m:M D):Prop where
 go:X.K=K->PE X e (T K (relB K) m)
instance {K:Fg9} {X:Cx} {e:Expr} {m:M D}:CoeFun (EB K X e m) fun _=>X.K=K->PE X e (T K (relB K) m):=⟨EB.go⟩
structure ER (K:Fg9) (X:Cx) (e:Expr) (m:M Rv):Prop where
 go:X.K=K->PE X e (T K (relR K) m)
instance {K:Fg9} {X:Cx} {e:Expr} {m:M Rv}:CoeFun (ER K X e m) fun _=>X.K=K->PE X e (T K (relR K) m):=⟨ER.go⟩
theorem PE.imp{X:Cx}{e:Expr}{t t':TE}(h:PE X e t)(w:∀σ H Q,t' σ H Q->t σ H Q):PE X e t':=fun jv s σ H Q I q=>h jv s σ H Q I (w σ H Q q)
section
variable{K:Fg9}{X:Cx}{e a b:Expr}{pos:Pos}
theorem EV.toB{m:M D}(h:EV K X e m):EB K X e m:=EB.mk fun hk=>PE.imp (h hk) fun σ H Q ⟨tg,F,ρ,d,ρ',G,em,q⟩=>⟨tg,F,ρ,d,ρ',G,em,fun v H' F' G' x r=>q v H' F' G' x (.inl r)⟩
def M.v(m:M D):M Rv:=m.bind fun d=>ret (.v d)
theorem EV.toR{m:M D}(h:EV K X e m):ER K X e m.v:=ER.mk fun hk=>PE.imp (h hk) fun σ H Q z9=>by
 obtain⟨tg,F,ρ,r,ρ',G,em,q⟩:=z9;obtain⟨d,ρ1,e1,e2⟩:=bh em;obtain⟨rfl,rfl⟩:=jk e2;exact⟨tg,F,ρ,d,_,G,e1,fun v H' F' G' x r=>q v H' F' G' x r⟩
def Rv.d:Rv->D
 | .v d=>d
 | .fr l=>.lst l
 | .tf d l=>.tup [d,.lst l]
def M.d(m:M Rv):M D:=m.bind fun r=>ret r.d
theorem frz{tg:Nat->Addr}{O:Addr->Prop}{F H F' H':Hp}{ρ':Ro}{σ':L2.St}{r:Rv}{v:V}(G:Good K tg F' H' ρ' σ')(x:Ext O (Own ρ' σ') F H F' H')(h:relR K r v H O F' H' (Own ρ' σ')) :
  ∃F2,Good K tg F2 H' ρ' σ'/\Ext O (Own ρ' σ') F H F2 H'/\Is K F2 r.d v:=by
 cases r with
 | v d=>exact⟨F',G,x,h⟩
 | fr l =>
  obtain⟨a,vs,rfl,ha,hf,hh,hl,hn⟩:=h;refine⟨upd F' a (.lst vs),G.freeze hh hn hf,⟨x.sub.trans (Same.new hf _),fun b o e =>?_,x.keep,x.own,x.there⟩,.lst gb (hl.mono (Same.new hf _))⟩
  by_cases hb:b=a
  ·subst hb;exact .inr ha
  ·rw[cj hb] at e;exact x.new b o e
 | tf d l =>
  obtain⟨t,u,a,vs,rfl,ht,hd,ha,hf,hh,hl,hn⟩:=h;have hta:t≠a:=fun z=>by rw[z,hf] at ht;cases ht
  refine⟨upd F' a (.lst vs),G.freeze hh hn hf,⟨x.sub.trans (Same.new hf _),fun b o e =>?_,x.keep,x.own,x.there⟩,.tup (by rw[cj hta];exact ht) (.cons (hd.mono (Same.new hf _)) (.cons (.lst gb (hl.mono (Same.new hf _))) .nil))⟩
  by_cases hb:b=a
  ·subst hb;exact .inr ha
  ·rw[cj hb] at e;exact x.new b o e
theorem ER.toD{m:M Rv}(h:ER K X e m):EV K X e m.d:=EV.mk fun hk=>PE.imp (h hk) fun σ H Q z9=>by
 obtain⟨tg,F,ρ,d,ρ',G,em,q⟩:=z9;obtain⟨r,ρ1,e1,e2⟩:=bh em;obtain⟨rfl,rfl⟩:=jk e2;refine⟨tg,F,ρ,r,_,G,e1,fun v H' F' G' x w =>?_⟩
 obtain⟨F2,G2,x2,i2⟩:=frz G' x w;exact q v H' F2 G2 x2 i2
noncomputable def jb(i:Nat):M D:=fun ρ=>match ρ[i]? with
 | some (.val d)=>some (.ok d,ρ)
 | some (.own _ l)=>some (.ok (.lst l),ρ)
 | _=>none
theorem Good.at{tg:Nat->Addr}{F H:Hp}{ρ:Ro}{σ:L2.St}(G:Good K tg F H ρ σ){i:Nat}{s:Sl}(e:ρ[i]? = some s):∃o,σ[i]? = some o/\SlOk K tg F H s o:=by
 have hi:i < σ.length:=by rw[<-G.len];exact(List.getElem?_eq_some_iff.mp e).1
 exact⟨σ[i],List.getElem?_eq_getElem hi,G.sl i s _ e (List.getElem?_eq_getElem hi)⟩
theorem zr{tg:Nat->Addr}{F H:Hp}{ρ ρ':Ro}{σ:L2.St}(G:Good K tg F H ρ σ){i:Nat}{d:D}(em:jb i ρ=some (.ok d,ρ')):ρ'=ρ/\∃v,σ[i]? = some (some v)/\Bor K F H d v:=by
 unfold jb at em;split at em
 ·rename_i d' e';cases em;obtain⟨o,ho,v,rfl,hv⟩:=G.at e';exact⟨rfl,v,ho,.inl hv⟩
 ·rename_i t l e';cases em;obtain⟨o,ho,a,vs,rfl,hf,hh,hl,_⟩:=G.at e';exact⟨rfl,_,ho,.inr ⟨a,vs,l,rfl,rfl,hh,hl⟩⟩
 ·cases em
theorem jg{i:Nat}(h:PE X e (tVar i)):EB K X e (jb i):=EB.mk fun _=>PE.imp h fun σ H Q z9=>by
 obtain⟨tg,F,ρ,d,ρ',G,em,q⟩:=z9;obtain⟨rfl,v,ho,hv⟩:=zr G em;exact⟨v,ho,q v H F G (Ext.refl _ _ _) hv⟩
def am8(i:Nat):M Rv:=fun ρ=>match ρ[i]? with
 | some (.val d)=>some (.ok (.v d),ρ)
 | some (.own none l)=>some (.ok (.fr l),ρ.set i .emp)
 | _=>none
theorem Good.drop{tg:Nat->Addr}{F H:Hp}{ρ:Ro}{σ:L2.St}(G:Good K tg F H ρ σ)(i:Nat):Good K tg F H (ρ.set i .emp) σ:=by
 have sub:∀j t l,(List.set ρ i Sl.emp)[j]? = some (Sl.own t l)->(ρ:List Sl)[j]? = some (Sl.own t l):=fun j t l e=>by
  rw[List.getElem?_set] at e;split at e
  ·split at e <;> cases e
  ·exact e
 refine⟨G.sub,by rw[List.length_set];exact G.len,fun j s o e q =>?_,fun j k a ⟨⟨t,l,e⟩,q⟩ ⟨⟨t',l',e'⟩,q'⟩=>G.inj j k a ⟨⟨t,l,sub _ _ _ e⟩,q⟩ ⟨⟨t',l',sub _ _ _ e'⟩,q'⟩⟩
 rw[List.getElem?_set] at e;split at e
 ·split at e
  ·cases e;trivial
  ·cases e
 ·exact G.sl j s o e q
theorem ady{ρ:Ro}{σ:L2.St}{i:Nat}{a:Addr}(h:Own (ρ.set i .emp) σ a):Own ρ σ a/\∀t l,ρ[i]? = some (.own t l)->∀(inj:∀i j a,Owns ρ σ i a->Owns ρ σ j a->i=j),¬Owns ρ σ i a:=by
 obtain⟨j,⟨t,l,e⟩,q⟩:=h;rw[List.getElem?_set] at e;split at e
 ·split at e <;> cases e
 ·rename_i hne;have w:Owns ρ σ j a:=⟨⟨t,l,e⟩,q⟩;exact⟨⟨j,w⟩,fun t' l' _ inj z=>hne (inj _ _ _ z w)⟩
theorem an9{i:Nat}(h:PE X e (tVar i)):ER K X e (am8 i):=ER.mk fun _=>PE.imp h fun σ H Q z9=>by
 obtain⟨tg,F,ρ,d,ρ',G,em,q⟩:=z9;unfold am8 at em;split at em
 ·rename_i d' e';cases em;obtain⟨o,ho,v,rfl,hv⟩:=G.at e';exact⟨v,ho,q v H F G (Ext.refl _ _ _) hv⟩
 ·rename_i l e';cases em;obtain⟨o,ho,a,vs,rfl,hf,hh,hl,_⟩:=G.at e';have w:Owns ρ σ i a:=⟨⟨_,_,e'⟩,ho⟩;refine⟨_,ho,q _ H F (G.drop i) ⟨Same.refl _,fun _ _ e=>.inl e,fun _ _ e _=>e,fun b z=>.inl (ady z).1,fun _ z=>z⟩ ⟨a,vs,rfl,.inr ⟨i,w⟩,hf,hh,hl,fun z=>(ady z).2 _ _ e' G.inj w⟩⟩
 ·cases em
noncomputable def mVar(i:Nat):M D:=fun ρ=>match ρ[i]? with
 | some (.val d)=>some (.ok d,ρ)
 | some (.own none l)=>some (.ok (.lst l),ρ.set i (.val (.lst l)))
 | _=>none
theorem ap1{ρ:Ro}{σ:L2.St}{i:Nat}{d:D}{a:Addr}(h:Own (ρ.set i (.val d)) σ a):Own (ρ.set i .emp) σ a:=by
 obtain⟨j,⟨t,l,e⟩,q⟩:=h;refine⟨j,⟨t,l,?_⟩,q⟩;rw[List.getElem?_set] at e ⊢
 split at e
 ·split at e <;> cases e
 ·rename_i hne;rw[if_neg hne];exact e
theorem Good.setv{tg:Nat->Addr}{F H:Hp}{ρ:Ro}{σ:L2.St}{i:Nat}{d:D}{v:V}(G:Good K tg F H (ρ.set i .emp) σ)(e:σ[i]? = some (some v))(h:Is K F d v):Good K tg F H (ρ.set i (.val d)) σ:=by
 have sub:∀j t l,(List.set ρ i (Sl.val d))[j]? = some (Sl.own t l)->(List.set ρ i Sl.emp)[j]? = some (Sl.own t l):=fun j t l z=>by
  rw[List.getElem?_set] at z ⊢
  split at z
  ·split at z <;> cases z
  ·rename_i hne;rw[if_neg hne];exact z
 refine⟨G.sub,by have:=G.len;rw[List.length_set] at this ⊢;exact this,fun j s o z q =>?_,fun j k a ⟨⟨t,l,z⟩,q⟩ ⟨⟨t',l',z'⟩,q'⟩=>G.inj j k a ⟨⟨t,l,sub _ _ _ z⟩,q⟩ ⟨⟨t',l',sub _ _ _ z'⟩,q'⟩⟩
 by_cases hij:i=j
 ·subst hij;rw[List.getElem?_set,if_pos rfl] at z;split at z
  ·cases z;rw[e] at q;cases q;exact⟨v,rfl,h⟩
  ·cases z
 ·refine G.sl j s o ?_ q;rw[List.getElem?_set,if_neg hij] at z ⊢
  exact z
theorem aq{i:Nat}(h:PE X e (tVar i)):EV K X e (mVar i):=EV.mk fun _=>PE.imp h fun σ H Q z9=>by
 obtain⟨tg,F,ρ,d,ρ',G,em,q⟩:=z9;unfold mVar at em;split at em
 ·rename_i d' e';cases em;obtain⟨o,ho,v,rfl,hv⟩:=G.at e';exact⟨v,ho,q v H F G (Ext.refl _ _ _) hv⟩
 ·rename_i l e';cases em;obtain⟨o,ho,a,vs,rfl,hf,hh,hl,_⟩:=G.at e';have w:Owns ρ σ i a:=⟨⟨_,_,e'⟩,ho⟩;have nown:¬Own (ρ.set i .emp) σ a:=fun z=>(ady z).2 _ _ e' G.inj w
  have G2:=(G.drop i).freeze hh nown hf;have i2:Is K (upd F a (.lst vs)) (.lst l) (.ref a):=.lst gb (hl.mono (Same.new hf _));refine⟨_,ho,q _ H _ (G2.setv ho i2) ⟨Same.new hf _,fun b o z =>?_,fun _ _ z _=>z,fun b z=>.inl (ady (ap1 z)).1,fun _ z=>z⟩ i2⟩
  by_cases hb:b=a
  ·subst hb;exact .inr (.inr ⟨i,w⟩)
  ·rw[cj hb] at z;exact .inl z
 ·cases em
theorem ev_c{d:D}{v:V}(h:PE X e (tC v))(hi:∀F,Is K F d v):EV K X e (ret d):=EV.mk fun _=>PE.imp h fun σ H Q z9=>by
 obtain⟨tg,F,ρ,d',ρ',G,em,q⟩:=z9;obtain⟨rfl,rfl⟩:=jk em;exact q v H F G (Ext.refl _ _ _) (hi F)
theorem ak{i:Int}{j:Nat}:EV K X (.Constant (.int i) j pos) (ret (.int i)):=ev_c av1 fun _=>.int i
theorem zq{i:Bool}{j:Nat}:EV K X (.Constant (.bool i) j pos) (ret (.bl i)):=ev_c ay8 fun _=>.bl i
theorem an8{j:Nat}:EV K X (.Constant .none j pos) (ret .non):=ev_c avz fun _=>.non
theorem lu{i:Str}{j:Nat}:EV K X (.Constant (.str i) j pos) (ret (.str i)):=ev_c avv fun _=>.str i
def T2(K:Fg9)(m:M (D×D))(σ:L2.St)(H:Hp)(R:V->V->Hp->Prop):Prop:=∃tg F ρ p ρ',Good K tg F H ρ σ/\m ρ=some (.ok p,ρ') /\
 ∀x y H' F',Good K tg F' H' ρ' σ->Ext (Own ρ σ) (Own ρ' σ) F H F' H'->Bor K F' H' p.1 x->Bor K F' H' p.2 y->R x y H'
structure E2 (K:Fg9) (X:Cx) (a b:Expr) (m:M (D×D)):Prop where
 go:X.K=K->∃ta tb,PE X a ta/\PE X b tb/\∀σ H R,T2 K m σ H R->ta σ H fun x H1=>tb σ H1 fun y H2=>R x y H2
instance {K:Fg9} {X:Cx} {a b:Expr} {m:M (D×D)}:CoeFun (E2 K X a b m) fun _=>X.K=K->∃ta tb,PE X a ta/\PE X b tb/\∀σ H R,T2 K m σ H R->ta σ H fun x H1=>tb σ H1 fun y H2=>R x y H2:=⟨E2.go⟩
def gj(m1 m2:M D):M (D×D):=m1.bind fun x=>m2.bind fun y=>ret (x,y)
def bj(i:Nat)(m2:M D):M (D×D):=(jb i).bind fun _=>m2.bind fun y=>(jb i).bind fun x=>ret (x,y)
theorem e2_v{m1 m2:M D}(ha:EV K X a m1)(hb:EB K X b m2):E2 K X a b (gj m1 m2):=E2.mk fun hk=>⟨_,_,ha hk,hb hk,fun σ H R z9=>by
 obtain⟨tg,F,ρ,p,ρ',G,em,q⟩:=z9;obtain⟨d1,ρ1,e1,em⟩:=bh em;obtain⟨d2,ρ2,e2,em⟩:=bh em;obtain⟨rfl,rfl⟩:=jk em;exact⟨tg,F,ρ,d1,ρ1,G,e1,fun x H1 F1 G1 x1 r1=>⟨tg,F1,ρ1,d2,_,G1,e2,fun y H2 F2 G2 x2 r2=>q x y H2 F2 G2 (x1.trans x2) (.inl (r1.mono x2.sub)) r2⟩⟩⟩
theorem e2_n{i:Nat}{m2:M D}(ha:PE X a (tVar i))(hb:EB K X b m2):E2 K X a b (bj i m2):=E2.mk fun hk=>⟨_,_,ha,hb hk,fun σ H R z9=>by
 obtain⟨tg,F,ρ,p,ρ',G,em,q⟩:=z9;obtain⟨d0,ρ0,e0,em⟩:=bh em;obtain⟨d2,ρ2,e2,em⟩:=bh em;obtain⟨d1,ρ1,e1,em⟩:=bh em;obtain⟨rfl,rfl⟩:=jk em;obtain⟨rfl,v,hv,_⟩:=zr G e0;exact⟨v,hv,tg,F,ρ0,d2,ρ2,G,e2,fun y H2 F2 G2 x2 r2=>by
  obtain⟨rfl,v',hv',b'⟩:=zr G2 e1;rw[hv] at hv';cases hv';exact q v y H2 F2 G2 x2 b' r2⟩⟩
end
section
variable{K:Fg9}{X:Cx}{e a b c:Expr}{es:List Expr}{pos p:Pos}
section
variable{F H:Hp}{x:V}
theorem Bor.lst{l:List D}(g:Same F H)(h:Bor K F H (.lst l) x):∃a vs,x=.ref a/\H a=some (.lst vs)/\IsL K F l vs:=by
 rcases h with h | ⟨a,vs,l',e1,e2,e3,h⟩
 ·cases h with
  | lst e h=>exact⟨_,_,rfl,g _ _ e,h⟩
 ·cases e1;exact⟨a,vs,e2,e3,h⟩
theorem Bor.tup{l:List D}(h:Bor K F H (.tup l) x):∃a vs,x=.ref a/\F a=some (.tup vs)/\IsL K F l vs:=by
 rcases h with h | ⟨a,vs,l',e1,_⟩
 ·cases h with
  | tup e h=>exact⟨_,_,rfl,e,h⟩
 ·cases e1
theorem Bor.kst{l:List D}(h:Bor K F H (.kst l) x):∃a vs,x=.ref a/\SqL K F a vs/\IsL K F l vs:=by
 rcases h with h | ⟨a,vs,l',e1,_⟩
 ·cases h with
  | kst e h=>exact⟨_,_,rfl,e,h⟩
 ·cases e1
theorem Bor.int{i:Int}(h:Bor K F H (.int i) x):x=.int i:=by
 rcases h with h | ⟨a,vs,l',e1,_⟩
 ·cases h;rfl
 ·cases e1
theorem Bor.bl{i:Bool}(h:Bor K F H (.bl i) x):x=.bl i:=by
 rcases h with h | ⟨a,vs,l',e1,_⟩
 ·cases h;rfl
 ·cases e1
theorem Bor.str{i:Str}(h:Bor K F H (.str i) x):x=.str i:=by
 rcases h with h | ⟨a,vs,l',e1,_⟩
 ·cases h;rfl
 ·cases e1
theorem Bor.non(h:Bor K F H .non x):x=.non:=by
 rcases h with h | ⟨a,vs,l',e1,_⟩
 ·cases h;rfl
 ·cases e1
end
def Res(K:Fg9)(tg:Nat->Addr)(F H:Hp)(ρ:Ro)(σ:L2.St)(r:Rv)(Q:VK):Prop :=
 ∀v H' F',Good K tg F' H' ρ σ->Ext (Own ρ σ) (Own ρ σ) F H F' H'->relR K r v H (Own ρ σ) F' H' (Own ρ σ)->Q v H'
section
variable{tg:Nat->Addr}{F H:Hp}{ρ:Ro}{σ:L2.St}{Q:VK}
theorem Res.same{d:D}{v:V}(G:Good K tg F H ρ σ)(q:Res K tg F H ρ σ (.v d) Q)(h:Is K F d v):Q v H:=q v H F G (Ext.refl _ _ _) h
theorem Res.tup{l:List D}{vs:List V}(G:Good K tg F H ρ σ)(q:Res K tg F H ρ σ (.v (.tup l)) Q)(h:IsL K F l vs){p:Addr}(hp:H p=none):Q (.ref p) (upd H p (.tup vs)) :=
 q _ _ _ (G.new hp _) (G.newX hp _) (.tup gb (h.mono (Same.new (G.freeF hp) _)))
theorem Res.lst{l:List D}{vs:List V}(G:Good K tg F H ρ σ)(q:Res K tg F H ρ σ (.fr l) Q)(h:IsL K F l vs){p:Addr}(hp:H p=none):Q (.ref p) (upd H p (.lst vs)) :=
 q _ _ _ (G.fresh hp _) (G.freshX hp _) ⟨p,vs,rfl,.inl hp,G.freeF hp,gb,h,fun z=>G.own_ne hp z rfl⟩
end
def rOf(K:Fg9)(g:D->D->Option Rv):R2:=fun x y H Q=>∃tg F ρ σ d1 d2 r,Good K tg F H ρ σ/\Bor K F H d1 x/\Bor K F H d2 y/\g d1 d2=some r/\Res K tg F H ρ σ r Q
structure OpD (K:Fg9) (X:Cx) (f:Value->Value->Sem Value) (g:D->D->Option Rv):Prop where
 go:X.K=K->OpR X f (rOf K g)
instance {K:Fg9} {X:Cx} {f:Value->Value->Sem Value} {g:D->D->Option Rv}:CoeFun (OpD K X f g) fun _=>X.K=K->OpR X f (rOf K g):=⟨OpD.go⟩
def mOp(g:D->D->Option Rv)(m:M (D×D)):M Rv:=m.bind fun p=>lift (g p.1 p.2)
theorem aka{g:D->D->Option Rv}{m:M (D×D)}{ta tb:TE}(h:∀σ H R,T2 K m σ H R->ta σ H fun x H1=>tb σ H1 fun y H2=>R x y H2)(σ:L2.St)(H:Hp)(Q:VK)(t:T K (relR K) (mOp g m) σ H Q):tOp (rOf K g) ta tb σ H Q:=by
 obtain⟨tg,F,ρ,r,ρ',G,em,q⟩:=t;obtain⟨p,ρ1,e1,em⟩:=bh em;obtain⟨e2,rfl⟩:=jc em;refine h σ H _ ⟨tg,F,ρ,p,_,G,e1,fun x y H' F' G' x' bx by'=>⟨tg,F',_,σ,p.1,p.2,r,G',bx,by',e2,fun v H2 F2 G2 x2 rr=>q v H2 F2 G2 (x'.trans x2) ?_⟩⟩
 cases r with
 | v d=>exact rr
 | fr l =>
  obtain⟨a,vs,ev,ha,w⟩:=rr;refine⟨a,vs,ev,?_,w⟩;rcases ha with ha | ha
  ·exact .inl (x'.there a ha)
  ·exact(x'.own a ha).symm
 | tf d l =>
  obtain⟨t,u,a,vs,ev,ht,hd,ha,w⟩:=rr;refine⟨t,u,a,vs,ev,ht,hd,?_,w⟩;rcases ha with ha | ha
  ·exact .inl (x'.there a ha)
  ·exact(x'.own a ha).symm
theorem dq{op:Operator}{g:D->D->Option Rv}{m:M (D×D)}(ho:OpD K X (binaryOp op) g)(h:E2 K X a b m):ER K X (.BinOp a op b pos) (mOp g m):=ER.mk fun hk=>by
 obtain⟨ta,tb,ha,hb,h⟩:=h hk;exact PE.imp (ay4 (ho hk) ha hb) (aka h)
theorem vg{op:CmpOp}{g:D->D->Option Rv}{m:M (D×D)}(ho:OpD K X (compareOp op) g)(h:E2 K X a b m)(hm:behindInMarks op b=false):ER K X (.Compare a [op] [b] pos) (mOp g m):=ER.mk fun hk=>by
 obtain⟨ta,tb,ha,hb,h⟩:=h hk;exact PE.imp (atc (ho hk) ha hb hm) (aka h)
def capS:Nat:=16777216
theorem ae6{n:Nat}(h:n<=capS):n<=sizeLine:=by rw[sizeLine_eq];exact h
def gAdd:D->D->Option Rv
 | .int i,.int j=>some (.v (.int (i+j)))
 | .tup l,.tup k=>if l.length+k.length<=capS then some (.v (.tup (l++k))) else none
 | .lst l,.lst k=>if l.length+k.length<=capS then some (.fr (l++k)) else none
 | .str i,.str j=>if i.length+j.length<=capS then some (.v (.str (i++j))) else none
 | _,_=>none
theorem jr:OpD K X (binaryOp .Add) gAdd:=OpD.mk fun hk=>by
 intro jv s σ0 H x y v u Q I rx ry ⟨tg,F,ρ,σ,d1,d2,r,G,b1,b2,eg,q⟩;subst hk;unfold gAdd at eg;split at eg
 ·cases eg;obtain rfl:=b1.int;obtain rfl:=b2.int;exact av9 jv s σ0 H _ _ v u Q I rx ry ⟨_,_,rfl,rfl,Res.same G q (.int _)⟩
 ·split at eg
  ·rename_i hz;cases eg;obtain⟨a1,vs1,rfl,s1,i1⟩:=b1.tup;obtain⟨a2,vs2,rfl,s2,i2⟩:=b2.tup;have l1:=i1.length;have l2:=i2.length
   by_cases hx:vs1=[]
   ·subst hx;cases i1;cases rx;cases ry;obtain⟨its,r1,p1,_⟩:=I.tuple (SqT.of (G.sub _ _ s1));obtain⟨its2,r2,p2,_⟩:=I.tuple (SqT.of (G.sub _ _ s2));exact aq9 p1 p2 (r1.nil_iff.mpr rfl) ⟨.ref a2,H,I,rfl,Res.same G q (.tup s2 i2)⟩
   ·refine ati jv s σ0 H _ _ v u Q I rx ry ⟨a1,a2,vs1,vs2,rfl,rfl,SqT.of (G.sub _ _ s1),SqT.of (G.sub _ _ s2),hx,by rw[<-l1,<-l2];exact ae6 hz,fun e =>?_,fun _ p hp=>Res.tup G q (i1.append i2) hp⟩
    subst e;cases i2;exact Res.same G q (.tup s1 (by simpa using i1))
  ·cases eg
 ·split at eg
  ·rename_i hz;cases eg;obtain⟨a1,vs1,rfl,s1,i1⟩:=b1.lst G.sub;obtain⟨a2,vs2,rfl,s2,i2⟩:=b2.lst G.sub;have l1:=i1.length;have l2:=i2.length;exact av8 jv s σ0 H _ _ v u Q I rx ry ⟨a1,a2,vs1,vs2,rfl,rfl,s1,s2,by rw[<-l1,<-l2];exact ae6 hz,fun p hp=>Res.lst G q (i1.append i2) hp⟩
  ·cases eg
 ·split at eg
  ·rename_i hz;cases eg;obtain rfl:=b1.str;obtain rfl:=b2.str;exact alh jv s σ0 H _ _ v u Q I rx ry ⟨_,_,rfl,rfl,ae6 hz,Res.same G q (.str _)⟩
  ·cases eg
 ·cases eg
def gInt(f:Int->Int->Option Int):D->D->Option Rv
 | .int i,.int j=>(f i j).map fun k=>.v (.int k)
 | _,_=>none
theorem ai7{op:Operator}{f:Int->Int->Option Int}{C:Int->Int->Prop}{g:Int->Int->Int}(h:OpR X (binaryOp op) (rI C fun i j=>.int (g i j)))(hf:∀i j k,f i j=some k->C i j/\k=g i j):OpD K X (binaryOp op) (gInt f):=OpD.mk fun hk=>by
 intro jv s σ0 H x y v u Q I rx ry ⟨tg,F,ρ,σ,d1,d2,r,G,b1,b2,eg,q⟩;unfold gInt at eg;split at eg
 ·rename_i i j;obtain rfl:=b1.int;obtain rfl:=b2.int;cases z:f i j with
  | none=>rw[z] at eg;cases eg
  | some k =>
   rw[z] at eg;cases eg;obtain⟨h1,rfl⟩:=hf i j k z;exact h jv s σ0 H _ _ v u Q I rx ry ⟨_,_,rfl,rfl,h1,Res.same G q (.int _)⟩
 ·cases eg
def fSub(i j:Int):Option Int:=some (i - j)
def fMul(i j:Int):Option Int:=if (-18446744073709551616 < i/\i < 18446744073709551616)∨(-18446744073709551616 < j/\j < 18446744073709551616) then some (i*j) else none
theorem awf{i j:Int}(h0:0 < j)(h:j < 1000000000000000000000000000000000000000000000000000000000000):Builtin.divisionGoesByPylong i j=false:=by
 have e2:(2:Nat) ^ 200=1606938044258990275541962092341162602522202993782792835301376:=by decide +kernel
 have hl:j.natAbs.log2 < 200:=(Nat.log2_lt (by omega)).2 (by rw[e2];omega)
 have hd:¬(j.natAbs.log2 / 30+1 > 300):=by omega
 have hj:(j==0)=false:=by
  rw[beq_eq_false_iff_ne];omega
 unfold Builtin.divisionGoesByPylong;simp only[hj,Bool.false_eq_true,if_false,hd,decide_false,Bool.false_and]
theorem ap5:OpR X (binaryOp .FloorDiv) (rI (fun _ j=>0 < j/\j < 1000000000000000000000000000000000000000000000000000000000000) fun i j=>.int (i / j)):=opI fun i j _ _ _ _ _ hc q=>by
 have h1:(0:Int) < j:=hc.1;exact floordiv_int (by omega) (by rw[Int.fdiv_eq_ediv_of_nonneg i (by omega)];exact q) (.inl (awf hc.1 hc.2))
def fDiv(i j:Int):Option Int:=if 0 < j/\j < 1000000000000000000000000000000000000000000000000000000000000 then some (i / j) else none
def fMod(i j:Int):Option Int:=if 0 < j then some (i % j) else none
def fPow(i j:Int):Option Int:=if 0<=j/\j<=1000000/\i.natAbs < 18446744073709551616 then some (i ^ j.toNat) else none
theorem acx:OpD K X (binaryOp .Sub) (gInt fSub):=OpD.mk fun hk=>by
 intro jv s σ0 H x y v u Q I rx ry ⟨tg,F,ρ,σ,d1,d2,r,G,b1,b2,eg,q⟩;unfold gInt at eg;split at eg
 ·obtain rfl:=b1.int;obtain rfl:=b2.int;cases eg;exact av3 jv s σ0 H _ _ v u Q I rx ry ⟨_,_,rfl,rfl,Res.same G q (.int _)⟩
 ·cases eg
end
mutual
def toPy:D->PyData
 | .non=>.none
 | .bl b=>.bool b
 | .int i=>.int i
 | .str x=>.str x
 | .tup l=>.tuple (uv l)
 | .lst l=>.list (uv l)
 | .kst l=>.list (uv l)
 | .dct _=>.dict []
 | .exn _ _=>.dict []
def uv:List D->List PyData
 | []=>[]
 | d::r=>toPy d::uv r
end
def okD:Nat->D->Bool
 | _,.non=>true
 | _,.bl _=>true
 | _,.int _=>true
 | _,.str x=>PyData.strOk x
 | n+1,.tup l=>l.all (okD n)
 | n+1,.lst l=>l.all (okD n)
 | n+1,.kst l=>l.all (okD n)
 | _,_=>false
theorem agp{n:Nat}(ih:∀d,okD n d=true->(toPy d).canLay0=true/\(toPy d).depth<=n):∀l:List D,l.all (okD n)=true->PyData.canLayAll0 (uv l)=true/\PyData.depthAll (uv l)<=n
 | [],_=>⟨rfl,Nat.zero_le _⟩
 | d::r,h=>by
  rw[List.all_cons,Bool.and_eq_true] at h;obtain⟨h1,h2⟩:=ih d h.1;obtain⟨h3,h4⟩:=agp ih r h.2;refine⟨?_,?_⟩
  ·show(PyData.canLay0 (toPy d)&&PyData.canLayAll0 (uv r))=true;rw[h1,h3];rfl
  ·show max (PyData.depth (toPy d)) (PyData.depthAll (uv r))<=n;omega
theorem aa9:∀(n:Nat) (d:D),okD n d=true->(toPy d).canLay0=true/\(toPy d).depth<=n
 | n,.non,_=>⟨rfl,Nat.zero_le _⟩
 | n,.bl _,_=>⟨rfl,Nat.zero_le _⟩
 | n,.int _,_=>⟨rfl,Nat.zero_le _⟩
 | n,.str x,h=>by
  refine⟨?_,Nat.zero_le _⟩;cases n <;> exact h
 | n+1,.tup l,h=>by
  obtain⟨h1,h2⟩:=agp (aa9 n) l h;exact⟨h1,Nat.succ_le_succ h2⟩
 | n+1,.lst l,h=>by
  obtain⟨h1,h2⟩:=agp (aa9 n) l h;exact⟨h1,Nat.succ_le_succ h2⟩
 | n+1,.kst l,h=>by
  obtain⟨h1,h2⟩:=agp (aa9 n) l h;exact⟨h1,Nat.succ_le_succ h2⟩
 | 0,.tup l,h=>by cases h
 | 0,.lst l,h=>by cases h
 | 0,.kst l,h=>by cases h
 | 0,.dct l,h=>by cases h
 | n+1,.dct l,h=>by cases h
 | 0,.exn _ _,h=>by cases h
 | n+1,.exn _ _,h=>by cases h
def eqD(a b:D):Bool:=PyData.eqv (toPy a) (toPy b)
def eqDs:List D->List D->Bool
 | [],[]=>true
 | a::r,b::t=>eqD a b&&eqDs r t
 | _,_=>false
theorem aob:∀a b:List D,PyData.eqvAll (uv a) (uv b)=eqDs a b
 | [],[]=>rfl
 | a::r,b::t=>by
  show(PyData.eqv (toPy a) (toPy b)&&PyData.eqvAll (uv r) (uv t))=_;rw[aob r t];rfl
 | [],_::_=>rfl
 | _::_,[]=>rfl
section
variable{K:Fg9}{X:Cx}
section
variable{jv:List (Addr×Obj)}{σ:L2.St}{F H:Hp}{s:Shared}
mutual
theorem agg(I:Inv X jv σ H s)(g:Same F H):∀{n:Nat} {d:D} {v:V} {u:Value},Is X.K F d v->okD n d=true->RelV v u->∃as,Reads s.heap u (toPy d) as
 | _,_,_,_,.non,_,r=>by cases r;exact⟨_,.none⟩
 | _,_,_,_,.bl b,_,r=>by cases r;exact⟨_,.bool b⟩
 | _,_,_,_,.int i,_,r=>by obtain⟨t,rfl⟩:=r;exact⟨_,.int i t⟩
 | _,_,_,_,.str i,_,r=>by obtain⟨t,rfl⟩:=r;exact⟨_,.str i t⟩
 | 0,_,_,_,.tup e h,k,r=>by cases k
 | n+1,_,_,_,.tup e h,k,r=>by
  cases r;obtain⟨its,rv,p1,_⟩:=I.tuple (SqT.of (g _ _ e));obtain⟨o,ho,hc,m,hd⟩:=p1;obtain⟨as,ra⟩:=aac I g h k rv;exact⟨_,.tuple ho hc hd (by simpa using ra)⟩
 | 0,_,_,_,.lst e h,k,r=>by cases k
 | n+1,_,_,_,.lst e h,k,r=>by
  cases r;obtain⟨its,rv,p1,_⟩:=I.list (SqL.of (g _ _ e));obtain⟨o,ho,hc,m,hd⟩:=p1.isList;obtain⟨as,ra⟩:=aac I g h k rv;exact⟨_,.list ho hc hd (by simpa using ra)⟩
 | 0,_,_,_,.kst e h,k,r=>by cases k
 | n+1,_,_,_,.kst e h,k,r=>by
  cases r;obtain⟨its,rv,p1,_⟩:=I.list (L2.Same.seq g e);obtain⟨o,ho,hc,m,hd⟩:=p1.isList;obtain⟨as,ra⟩:=aac I g h k rv;exact⟨_,.list ho hc hd (by simpa using ra)⟩
 | 0,_,_,_,.dct e h,k,r=>by cases k
 | n+1,_,_,_,.dct e h,k,r=>by cases k
 | 0,_,_,_,.exn ..,k,r=>by cases k
 | n+1,_,_,_,.exn ..,k,r=>by cases k
theorem aac(I:Inv X jv σ H s)(g:Same F H):∀{n:Nat} {ds:List D} {vs:List V} {us:List Value},IsL X.K F ds vs->ds.all (okD n)=true->Vals vs us->∃as,ReadsAll s.heap us (uv ds) as
 | _,_,_,_,.nil,_,r=>by cases r;exact⟨_,.nil⟩
 | n,_,_,_,.cons h t,k,r=>by
  rw[List.all_cons,Bool.and_eq_true] at k;cases r with
  | cons r1 r2 =>
   obtain⟨as,ra⟩:=agg I g h k.1 r1;obtain⟨bs,rb⟩:=aac I g t k.2 r2;exact⟨_,.cons ra rb⟩
end
theorem ue(I:Inv X jv σ H s)(g:Same F H){n:Nat}{d:D}{v:V}{u:Value}(h:Bor X.K F H d v)(k:okD n d=true)(r:RelV v u):∃as,Reads s.heap u (toPy d) as:=by
 rcases h with h | ⟨a,vs,l,rfl,rfl,e,h⟩
 ·exact agg I g h k r
 ·cases r;cases n with
  | zero=>cases k
  | succ n =>
   obtain⟨its,rv,p1,_⟩:=I.list (SqL.of e);obtain⟨o,ho,hc,m,hd⟩:=p1.isList;obtain⟨as,ra⟩:=aac I g h k rv;exact⟨_,.list ho hc hd (by simpa using ra)⟩
end
def gEq(neg:Bool)(a b:D):Option Rv:=if okD 30 a&&okD 30 b then some (.v (.bl (if neg then !eqD a b else eqD a b))) else none
theorem yz(hu:X.A.units+64 < cLine):OpD K X (compareOp .Eq) (gEq false):=OpD.mk fun hk=>by
 intro jv s σ0 H x y v u Q I rx ry ⟨tg,F,ρ,σ,d1,d2,r,G,b1,b2,eg,q⟩;subst hk;unfold gEq at eg;split at eg
 ·rename_i ho;rw[Bool.and_eq_true] at ho;cases eg;obtain⟨as,ra⟩:=ue I G.sub b1 ho.1 rx;obtain⟨bs,rb⟩:=ue I G.sub b2 ho.2 ry;obtain⟨c1,p1⟩:=aa9 _ _ ho.1;obtain⟨c2,p2⟩:=aa9 _ _ ho.2;exact PySem.SeqAt.compareEq_reads ra rb c1 c2 (by omega) ⟨.bl _,H,I,rfl,Res.same G q (.bl _)⟩
 ·cases eg
theorem afo(hu:X.A.units+64 < cLine):OpD K X (compareOp .NotEq) (gEq true):=OpD.mk fun hk=>by
 intro jv s σ0 H x y v u Q I rx ry ⟨tg,F,ρ,σ,d1,d2,r,G,b1,b2,eg,q⟩;subst hk;unfold gEq at eg;split at eg
 ·rename_i ho;rw[Bool.and_eq_true] at ho;cases eg;obtain⟨as,ra⟩:=ue I G.sub b1 ho.1 rx;obtain⟨bs,rb⟩:=ue I G.sub b2 ho.2 ry;obtain⟨c1,p1⟩:=aa9 _ _ ho.1;obtain⟨c2,p2⟩:=aa9 _ _ ho.2;exact PySem.SeqAt.compareNe_reads ra rb c1 c2 (by omega) ⟨.bl _,H,I,rfl,Res.same G q (.bl _)⟩
 ·cases eg
def itemsD:D->Option (List D)
 | .tup l=>some l
 | .lst l=>some l
 | .kst l=>some l
 | _=>none
def gIn(neg:Bool)(a b:D):Option Rv:=match itemsD b with
 | some l=>if okD 30 a&&l.all (okD 30) then some (.v (.bl (if neg then !l.any (fun y=>eqD y a) else l.any (fun y=>eqD y a)))) else none
 | none=>none
open Classical in
noncomputable def aa6(h:Heap)(dx:PyData)(u:Value):Bool:=decide (∃d as,Reads h u d as/\d.canLay0=true/\PyData.eqv d dx=true)
open Classical in
theorem aks{h:Heap}{dx d:PyData}{u:Value}{as:List Addr}(r:Reads h u d as)(c:d.canLay0=true):aa6 h dx u=PyData.eqv d dx:=by
 unfold aa6;cases e:PyData.eqv d dx with
 | true=>exact decide_eq_true ⟨d,as,r,c,e⟩
 | false =>
  refine decide_eq_false ?_
  rintro⟨d',as',r',c',e'⟩
  rw[<-PySem.SeqAt.Reads.unique d d' u as as' c r r'] at e';rw[e] at e';cases e'
theorem aat{jv:List (Addr×Obj)}{σ:L2.St}{F H:Hp}{s:Shared}(I:Inv X jv σ H s)(g:Same F H){a:D}{n:Nat}:∀{ds:List D} {vs:List V} {us:List Value},IsL X.K F ds vs->ds.all (okD n)=true->Vals vs us ->
  us.any (aa6 s.heap (toPy a))=ds.any (fun y=>eqD y a)/\∀u∈us,∃d as,Reads s.heap u d as/\d.canLay0=true/\d.depth<=n
 | _,_,_,.nil,_,r=>by cases r;exact⟨rfl,fun u hu=>by cases hu⟩
 | _,_,_,.cons h t,k,r=>by
  rw[List.all_cons,Bool.and_eq_true] at k;cases r with
  | cons r1 r2 =>
   obtain⟨as,ra⟩:=agg I g h k.1 r1;obtain⟨c,p⟩:=aa9 _ _ k.1;obtain⟨e,z⟩:=aat I g (a:=a) t k.2 r2;refine⟨?_,fun u hu =>?_⟩
   ·rw[List.any_cons,List.any_cons,e,aks ra c];rfl
   ·rcases List.mem_cons.mp hu with rfl | hu
    ·exact⟨_,as,ra,c,p⟩
    ·exact z u hu
theorem aa2{s:Shared}{A:Around}(hu:A.units+64 < cLine){us:List Value}{a:D}{v:Value}{as:List Addr}(ra:Reads s.heap v (toPy a) as)(ka:okD 30 a=true)(z:∀u∈us,∃d as,Reads s.heap u d as/\d.canLay0=true/\d.depth<=30) :
  ∀u∈us,SeqAt.EqAt A.in1 s u v (aa6 s.heap (toPy a) u):=fun u hm=>by
 obtain⟨d,bs,rb,c,p⟩:=z u hm;obtain⟨c2,p2⟩:=aa9 _ _ ka;rw[aks rb c];refine PySem.SeqAt.eqAt_reads d (toPy a) A.in1 s u v bs as rb ra c c2 ?_;show A.units+1+_ < _;omega
theorem aid{a b:D}{neg:Bool}{r:Rv}(h:gIn neg a b=some r):∃l,itemsD b=some l/\okD 30 a=true/\l.all (okD 30)=true/\r=.v (.bl (if neg then !l.any (fun y=>eqD y a) else l.any (fun y=>eqD y a))):=by
 unfold gIn at h;split at h
 ·rename_i l e;split at h
  ·rename_i ho;rw[Bool.and_eq_true] at ho;cases h;exact⟨l,e,ho.1,ho.2,rfl⟩
  ·cases h
 ·cases h
theorem ad6{F H:Hp}{d:D}{l:List D}{x:V}(g:Same F H)(e:itemsD d=some l)(h:Bor K F H d x):∃a vs,x=.ref a/\IsL K F l vs/\(SqL K H a vs∨SqT K H a vs):=by
 cases d with
 | tup k =>
  cases e;obtain⟨a,vs,rfl,e,h⟩:=h.tup;exact⟨a,vs,rfl,h,.inr (SqT.of (g _ _ e))⟩
 | lst k =>
  cases e;obtain⟨a,vs,rfl,e,h⟩:=h.lst g;exact⟨a,vs,rfl,h,.inl (SqL.of e)⟩
 | kst k =>
  cases e;obtain⟨a,vs,rfl,e,h⟩:=h.kst;exact⟨a,vs,rfl,h,.inl (L2.Same.seq g e)⟩
 | _=>cases e
theorem aj9(hu:X.A.units+64 < cLine):OpD K X (compareOp .In) (gIn false):=OpD.mk fun hk=>by
 intro jv s σ0 H x y v u Q I rx ry ⟨tg,F,ρ,σ,d1,d2,r,G,b1,b2,eg,q⟩;subst hk;obtain⟨l,e,k1,k2,rfl⟩:=aid eg;obtain⟨as,ra⟩:=ue I G.sub b1 k1 rx;obtain⟨p,vs,rfl,hl,hs⟩:=ad6 G.sub e b2;cases ry;rcases hs with hs | hs
 ·obtain⟨its,rv,pl,_⟩:=I.list hs;obtain⟨ea,z⟩:=aat I G.sub (a:=d1) hl k2 rv;refine SeqAt.in_listAt (aa6 s.heap (toPy d1)) pl.isList (fun w hw=>aa2 hu ra k1 z w (by simpa using hw)) ⟨.bl _,H,I,rfl,?_⟩
  rw[show its.toArray.any (aa6 s.heap (toPy d1))=its.any (aa6 s.heap (toPy d1)) by simp,ea]
  exact Res.same G q (.bl _)
 ·obtain⟨its,rv,pl,_⟩:=I.tuple hs;obtain⟨ea,z⟩:=aat I G.sub (a:=d1) hl k2 rv;refine SeqAt.in_tupleAt (aa6 s.heap (toPy d1)) pl (fun w hw=>aa2 hu ra k1 z w (by simpa using hw)) ⟨.bl _,H,I,rfl,?_⟩
  rw[show its.toArray.any (aa6 s.heap (toPy d1))=its.any (aa6 s.heap (toPy d1)) by simp,ea]
  exact Res.same G q (.bl _)
theorem wk(hu:X.A.units+64 < cLine):OpD K X (compareOp .NotIn) (gIn true):=OpD.mk fun hk=>by
 intro jv s σ0 H x y v u Q I rx ry ⟨tg,F,ρ,σ,d1,d2,r,G,b1,b2,eg,q⟩;subst hk;obtain⟨l,e,k1,k2,rfl⟩:=aid eg;obtain⟨as,ra⟩:=ue I G.sub b1 k1 rx;obtain⟨p,vs,rfl,hl,hs⟩:=ad6 G.sub e b2;cases ry;rcases hs with hs | hs
 ·obtain⟨its,rv,pl,_⟩:=I.list hs;obtain⟨ea,z⟩:=aat I G.sub (a:=d1) hl k2 rv;refine SeqAt.notIn_listAt (aa6 s.heap (toPy d1)) pl.isList (fun w hw=>aa2 hu ra k1 z w (by simpa using hw)) ⟨.bl _,H,I,rfl,?_⟩
  rw[show its.toArray.any (aa6 s.heap (toPy d1))=its.any (aa6 s.heap (toPy d1)) by simp,ea]
  exact Res.same G q (.bl _)
 ·obtain⟨its,rv,pl,_⟩:=I.tuple hs;obtain⟨ea,z⟩:=aat I G.sub (a:=d1) hl k2 rv;refine SeqAt.notIn_tupleAt (aa6 s.heap (toPy d1)) pl (fun w hw=>aa2 hu ra k1 z w (by simpa using hw)) ⟨.bl _,H,I,rfl,?_⟩
  rw[show its.toArray.any (aa6 s.heap (toPy d1))=its.any (aa6 s.heap (toPy d1)) by simp,ea]
  exact Res.same G q (.bl _)
end
end Dn
namespace Dn
open L2 Mn
section
variable{K:Fg9}{X:Cx}{e a b c:Expr}{es:List Expr}{pos p:Pos}
theorem atg:OpD K X (binaryOp .FloorDiv) (gInt fDiv):=ai7 ap5 fun i j k h=>by
 unfold fDiv at h;split at h
 ·cases h;exact⟨by assumption,rfl⟩
 ·cases h
theorem aae:OpD K X (binaryOp .Mod) (gInt fMod):=ai7 av7 fun i j k h=>by
 unfold fMod at h;split at h
 ·cases h;exact⟨by assumption,rfl⟩
 ·cases h
theorem amz:OpD K X (binaryOp .Pow) (gInt fPow):=ai7 av5 fun i j k h=>by
 unfold fPow at h;split at h
 ·rename_i hc;cases h;exact⟨⟨hc.1,hc.2.1,hc.2.2⟩,rfl⟩
 ·cases h
def gMul:D->D->Option Rv
 | .int i,.int j=>(fMul i j).map fun k=>.v (.int k)
 | .tup l,.int k=>if k=1 then some (.v (.tup l)) else if l≠[]/\2<=k/\k < 9223372036854775808/\l.length*k.toNat<=capS then some (.v (.tup (List.replicate k.toNat l).flatten)) else none
 | .lst l,.int k=>if k.natAbs < 9223372036854775808/\l.length*k.toNat<=capS then some (.fr (List.replicate k.toNat l).flatten) else none
 | _,_=>none
theorem ai6:OpD K X (binaryOp .Mult) gMul:=OpD.mk fun hk=>by
 intro jv s σ0 H x y v u Q I rx ry ⟨tg,F,ρ,σ,d1,d2,r,G,b1,b2,eg,q⟩;subst hk;unfold gMul at eg;split at eg
 ·rename_i i j;obtain rfl:=b1.int;obtain rfl:=b2.int;unfold fMul at eg;split at eg
  ·rename_i hc;cases eg;exact av6 jv s σ0 H _ _ v u Q I rx ry ⟨_,_,rfl,rfl,hc,Res.same G q (.int _)⟩
  ·cases eg
 ·rename_i l k;split at eg
  ·rename_i hk1;subst hk1;cases eg;obtain⟨a1,vs1,rfl,s1,i1⟩:=b1.tup;obtain rfl:=b2.int;exact ath jv s σ0 H _ _ v u Q I rx ry ⟨a1,vs1,rfl,rfl,G.sub _ _ s1,Res.same G q (.tup s1 i1)⟩
  split at eg
  ·rename_i hc;obtain⟨h0,h2,h3,hz⟩:=hc;cases eg;obtain⟨a1,vs1,rfl,s1,i1⟩:=b1.tup;obtain rfl:=b2.int;have l1:=i1.length;refine ap3 jv s σ0 H _ _ v u Q I rx ry ⟨a1,vs1,k,rfl,rfl,G.sub _ _ s1,?_,h2,h3,by rw[<-l1];exact ae6 hz,fun p hp=>Res.tup G q (i1.rep _) hp⟩
   intro z;subst z;cases i1;exact h0 rfl
  ·cases eg
 ·rename_i l k;split at eg
  ·rename_i hc;obtain⟨hab,hz⟩:=hc;have h0 : -9223372036854775808<=k:=by omega
   have h2:k < 9223372036854775808:=by omega
   cases eg;obtain⟨a1,vs1,rfl,s1,i1⟩:=b1.lst G.sub;obtain rfl:=b2.int;have l1:=i1.length;exact av4 jv s σ0 H _ _ v u Q I rx ry ⟨a1,k,vs1,rfl,rfl,s1,h0,h2,by rw[<-l1];exact ae6 hz,fun p hp=>Res.lst G q (i1.rep _) hp⟩
  ·cases eg
 ·cases eg
def gCmp(f:Int->Int->Bool):D->D->Option Rv
 | .int i,.int j=>some (.v (.bl (f i j)))
 | _,_=>none
theorem am1{op:CmpOp}{f:Int->Int->Bool}(h:OpR X (compareOp op) (rI0 fun i j=>.bl (f i j))):OpD K X (compareOp op) (gCmp f):=OpD.mk fun hk=>by
 intro jv s σ0 H x y v u Q I rx ry ⟨tg,F,ρ,σ,d1,d2,r,G,b1,b2,eg,q⟩;unfold gCmp at eg;split at eg
 ·cases eg;obtain rfl:=b1.int;obtain rfl:=b2.int;exact h jv s σ0 H _ _ v u Q I rx ry ⟨_,_,rfl,rfl,Res.same G q (.bl _)⟩
 ·cases eg
theorem am0:OpD K X (compareOp .Lt) (gCmp fun i j=>decide (i < j)):=am1 aza
theorem aho:OpD K X (compareOp .GtE) (gCmp fun i j=>decide (j<=i)):=am1 azb
def gNeg:D->Option D
 | .int i=>some (.int (-i))
 | _=>none
def mUn(g:D->Option D)(m:M D):M D:=m.bind fun d=>lift (g d)
theorem adq{m:M D}(h:EV K X a m):EV K X (.UnaryOp .USub a pos) (mUn gNeg m):=EV.mk fun hk=>PE.imp (ay3 auy (h hk)) fun σ H Q z9=>by
 obtain⟨tg,F,ρ,d,ρ',G,em,q⟩:=z9;obtain⟨d1,ρ1,e1,em⟩:=bh em;obtain⟨e2,rfl⟩:=jc em;refine⟨tg,F,ρ,d1,_,G,e1,fun v H' F' G' x r =>?_⟩
 cases d1 with
 | int i =>
  cases e2;cases r;exact⟨i,rfl,q _ H' F' G' x (.int _)⟩
 | _=>cases e2
def asB:D->Option Bool
 | .bl b=>some b
 | _=>none
def gNot(d:D):Option D:=(asB d).map fun k=>.bl (!k)
theorem ao5{d:D}{k:Bool}(h:asB d=some k):d=.bl k:=by
 cases d with
 | bl b=>cases h;rfl
 | _=>cases h
theorem ar4{m:M D}(h:EV K X a m):EV K X (.UnaryOp .Not a pos) (mUn gNot m):=EV.mk fun hk=>PE.imp (avy (h hk)) fun σ H Q z9=>by
 obtain⟨tg,F,ρ,d,ρ',G,em,q⟩:=z9;obtain⟨d1,ρ1,e1,em⟩:=bh em;obtain⟨e2,rfl⟩:=jc em;refine⟨tg,F,ρ,d1,_,G,e1,fun v H' F' G' x r =>?_⟩
 cases d1 with
 | bl i =>
  cases e2;cases r;exact⟨i,rfl,q _ H' F' G' x (.bl _)⟩
 | _=>cases e2
def mAnd(m1 m2:M D):M D:=m1.bind fun d=>(lift (asB d)).bind fun k=>if k=true then m2 else ret (.bl false)
theorem abd{op}{m:M D}(h:EV K X a m):EV K X (.BoolOp op [a] pos) m:=EV.mk fun hk=>avx (h hk)
theorem zg{m1 m2:M D}{rest:List Expr}(h1:EV K X a m1)(h2:EV K X (.BoolOp .And (b::rest) pos) m2):EV K X (.BoolOp .And (a::b::rest) pos) (mAnd m1 m2):=EV.mk fun hk=>PE.imp (av2 (h1 hk) (h2 hk)) fun σ H Q z9=>by
 obtain⟨tg,F,ρ,d,ρ',G,em,q⟩:=z9;obtain⟨d1,ρ1,e1,em⟩:=bh em;obtain⟨k,ρ2,e2,em⟩:=bh em;obtain⟨e3,rfl⟩:=jc e2;obtain rfl:=ao5 e3;refine⟨tg,F,ρ,_,_,G,e1,fun v H' F' G' x r =>?_⟩
 cases r;refine⟨k,rfl,?_⟩;cases k with
 | true=>exact iteT ⟨tg,F',_,d,ρ',G',em,fun v2 H2 F2 G2 x2 r2=>q v2 H2 F2 G2 (x.trans x2) r2⟩
 | false =>
  obtain⟨rfl,rfl⟩:=jk (show ret (D.bl false) _=_ from em)
  exact iteF (q _ H' F' G' x (.bl _))
def TB(K:Fg9)(m:M Bool):TT:=fun σ H Q=>∃tg F ρ k ρ',Good K tg F H ρ σ/\m ρ=some (.ok k,ρ')/\∀H' F',Good K tg F' H' ρ' σ->Ext (Own ρ σ) (Own ρ' σ) F H F' H'->Q k H'
structure ET (K:Fg9) (X:Cx) (e:Expr) (m:M Bool):Prop where
 go:X.K=K->PT X e (TB K m)
instance {K:Fg9} {X:Cx} {e:Expr} {m:M Bool}:CoeFun (ET K X e m) fun _=>X.K=K->PT X e (TB K m):=⟨ET.go⟩
structure EW (K:Fg9) (X:Cx) (e:Expr) (m:M Bool):Prop where
 go:X.K=K->PW X e (TB K m)
instance {K:Fg9} {X:Cx} {e:Expr} {m:M Bool}:CoeFun (EW K X e m) fun _=>X.K=K->PW X e (TB K m):=⟨EW.go⟩
theorem PT.imp{t t':TT}(h:PT X e t)(w:∀σ H Q,t' σ H Q->t σ H Q):PT X e t':=fun jv s σ H Q I q=>h jv s σ H Q I (w σ H Q q)
theorem PW.imp{t t':TT}(h:PW X e t)(w:∀σ H Q,t' σ H Q->t σ H Q):PW X e t':=fun wh jv s σ H Q I q=>h wh jv s σ H Q I (w σ H Q q)
theorem EW.pt{m:M Bool}(h:EW K X e m):ET K X e m:=ET.mk fun hk=>(h hk).pt
def uw(m:M D):M Bool:=m.bind fun d=>lift (asB d)
theorem apf{m:M D}(σ:L2.St)(H:Hp)(Q:Bool->Hp->Prop)(t:TB K (uw m) σ H Q):tB (T K (relD K) m) σ H Q:=by
 obtain⟨tg,F,ρ,k,ρ',G,em,q⟩:=t;obtain⟨d1,ρ1,e1,em⟩:=bh em;obtain⟨e3,rfl⟩:=jc em;obtain rfl:=ao5 e3;refine⟨tg,F,ρ,_,_,G,e1,fun v H' F' G' x r =>?_⟩
 cases r;exact⟨k,rfl,q H' F' G' x⟩
theorem qt{m:M D}(h:EV K X e m)(he:∀whole,isTrue e X.env whole=(do let v <-whole;standAt e.pos;holding [v] (truthy v)):=by intro _;rfl):ET K X e (uw m):=ET.mk fun hk=>PT.imp (avk (h hk) he) apf
def jy(g:D->D->Option Rv)(m:M (D×D)):M Bool:=uw (mOp g m).d
theorem j7{op:CmpOp}{g:D->D->Option Rv}{m:M (D×D)}(ho:OpD K X (compareOp op) g)(h:E2 K X a b m)(hm:behindInMarks op b=false):ET K X (.Compare a [op] [b] pos) (jy g m):=ET.mk fun hk=>by
 obtain⟨ta,tb,ha,hb,h⟩:=h hk;refine PT.imp (asu (ho hk) ha hb hm) fun σ H Q t =>?_
 obtain⟨tg,F,ρ,k,ρ',G,em,q⟩:=t;obtain⟨d1,ρ1,e1,em⟩:=bh em;obtain⟨e3,rfl⟩:=jc em;obtain rfl:=ao5 e3;obtain⟨r,ρ2,e1,em⟩:=bh e1;obtain⟨er,rfl⟩:=jk em;refine aka h σ H _ ⟨tg,F,ρ,r,_,G,e1,fun v H' F' G' x w =>?_⟩
 cases r with
 | v d =>
  have er:d=.bl k:=er;subst er;have w:Is K F' (.bl k) v:=w;cases w;exact⟨k,rfl,q H' F' G' x⟩
 | fr l=>cases er
 | tf d l=>cases er
def zm(m:M Bool):M Bool:=m.bind fun k=>ret (!k)
theorem rn{m:M Bool}(h:ET K X a m):ET K X (.UnaryOp .Not a pos) (zm m):=ET.mk fun hk=>PT.imp (avl (h hk)) fun σ H Q z9=>by
 obtain⟨tg,F,ρ,k,ρ',G,em,q⟩:=z9;obtain⟨d1,ρ1,e1,em⟩:=bh em;obtain⟨rfl,rfl⟩:=jk em;exact⟨tg,F,ρ,d1,_,G,e1,fun H' F' G' x=>q H' F' G' x⟩
def am9(m1 m2:M Bool):M Bool:=m1.bind fun k=>if k=true then m2 else ret false
def mOrB(m1 m2:M Bool):M Bool:=m1.bind fun k=>if k=true then ret true else m2
theorem ajs{m:M Bool}(h:ET K X a m):EW K X (.BoolOp .And [a] pos) m:=EW.mk fun hk=>ass (h hk)
theorem ako{m:M Bool}(h:ET K X a m):EW K X (.BoolOp .Or [a] pos) m:=EW.mk fun hk=>avf (h hk)
theorem an7{m1 m2:M Bool}{rest:List Expr}(h1:ET K X a m1)(h2:EW K X (.BoolOp .And (b::rest) pos) m2):EW K X (.BoolOp .And (a::b::rest) pos) (am9 m1 m2):=EW.mk fun hk=>PW.imp (avh (h1 hk) (h2 hk)) fun σ H Q z9=>by
 obtain⟨tg,F,ρ,d,ρ',G,em,q⟩:=z9;obtain⟨k,ρ1,e1,em⟩:=bh em;refine⟨tg,F,ρ,k,_,G,e1,fun H' F' G' x =>?_⟩
 cases k with
 | true=>exact iteT ⟨tg,F',_,d,ρ',G',em,fun H2 F2 G2 x2=>q H2 F2 G2 (x.trans x2)⟩
 | false =>
  obtain⟨rfl,rfl⟩:=jk (show ret false _=_ from em)
  exact iteF (q H' F' G' x)
theorem alw{m1 m2:M Bool}{rest:List Expr}(h1:ET K X a m1)(h2:EW K X (.BoolOp .Or (b::rest) pos) m2):EW K X (.BoolOp .Or (a::b::rest) pos) (mOrB m1 m2):=EW.mk fun hk=>PW.imp (ayz (h1 hk) (h2 hk)) fun σ H Q z9=>by
 obtain⟨tg,F,ρ,d,ρ',G,em,q⟩:=z9;obtain⟨k,ρ1,e1,em⟩:=bh em;refine⟨tg,F,ρ,k,_,G,e1,fun H' F' G' x =>?_⟩
 cases k with
 | false=>exact iteF ⟨tg,F',_,d,ρ',G',em,fun H2 F2 G2 x2=>q H2 F2 G2 (x.trans x2)⟩
 | true =>
  obtain⟨rfl,rfl⟩:=jk (show ret true _=_ from em)
  exact iteT (q H' F' G' x)
def ahz(f g:Int->Int->Bool)(m1 m2 m3:M D):M D:=m1.bind fun x=>m2.bind fun y=>match x,y with
 | .int i,.int j=>if f i j=true then m3.bind fun z=>match z with
  | .int k=>ret (.bl (g j k))
  | _=>lift none
  else ret (.bl false)
 | _,_=>lift none
theorem aoi{f g:Int->Int->Bool}{m1 m2 m3:M D}(σ:L2.St)(H:Hp)(Q:VK)(t:T K (relD K) (ahz f g m1 m2 m3) σ H Q) :
  arj (rI0 fun i j=>.bl (f i j)) (rI0 fun i j=>.bl (g i j)) (T K (relD K) m1) (T K (relD K) m2) (T K (relD K) m3) σ H Q:=by
 obtain⟨tg,F,ρ,d,ρ',G,em,q⟩:=t;obtain⟨d1,ρ1,e1,em⟩:=bh em;obtain⟨d2,ρ2,e2,em⟩:=bh em;have bad:∀{ρ:Ro},(lift (none:Option D)) ρ=some (.ok d,ρ')->False:=fun z=>by
  obtain⟨z,_⟩:=jc z;cases z
 cases d1 with
 | int i =>
  cases d2 with
  | int j =>
   refine⟨tg,F,ρ,_,ρ1,G,e1,fun v H1 F1 G1 x1 r1=>⟨tg,F1,ρ1,_,ρ2,G1,e2,fun v2 H2 F2 G2 x2 r2 =>?_⟩⟩
   cases r1;cases r2;refine⟨i,j,rfl,rfl,f i j,rfl,?_⟩;have em:(if f i j=true then m3.bind fun z=>match z with
    | .int k=>ret (.bl (g j k))
    | _=>lift none
    else ret (.bl false)) ρ2=some (.ok d,ρ'):=em
   by_cases hf:f i j=true
   ·rw[if_pos hf] at em ⊢
    obtain⟨d3,ρ3,e3,em⟩:=bh em;refine⟨tg,F2,ρ2,d3,ρ3,G2,e3,fun v3 H3 F3 G3 x3 r3 =>?_⟩
    cases d3 with
    | int k =>
     obtain⟨rfl,rfl⟩:=jk (show ret (D.bl (g j k)) _=_ from em)
     cases r3;exact⟨j,k,rfl,rfl,q _ H3 F3 G3 ((x1.trans x2).trans x3) (.bl _)⟩
    | _=>exact(bad em).elim
   ·rw[if_neg hf] at em ⊢
    obtain⟨rfl,rfl⟩:=jk em;exact q _ H2 F2 G2 (x1.trans x2) (.bl _)
  | _=>exact(bad em).elim
 | _=>cases d2 <;> exact(bad em).elim
theorem akp{op op':CmpOp}{f g:Int->Int->Bool}{m1 m2 m3:M D}(ho:OpR X (compareOp op) (rI0 fun i j=>.bl (f i j)))(ho':OpR X (compareOp op') (rI0 fun i j=>.bl (g i j)))(h1:EV K X a m1)(h2:EV K X b m2)(h3:EV K X c m3)
  (hm:lastMarks [op,op'] [b,c]=false:=by with_unfolding_all rfl):EV K X (.Compare a [op,op'] [b,c] pos) (ahz f g m1 m2 m3):=EV.mk fun hk=>PE.imp (ap0 ho ho' (h1 hk) (h2 hk) (h3 hk) hm) aoi
end
section
variable{K:Fg9}{X:Cx}{e a b c:Expr}{es:List Expr}{pos p p2:Pos}
def TL(K:Fg9)(m:M (List D)):TA:=fun σ H Q=>∃tg F ρ ds ρ',Good K tg F H ρ σ/\m ρ=some (.ok ds,ρ')/\∀vs H' F',Good K tg F' H' ρ' σ->Ext (Own ρ σ) (Own ρ' σ) F H F' H'->IsL K F' ds vs->Q vs H'
structure ED (K:Fg9) (X:Cx) (es:List Expr) (m:M (List D)):Prop where
 go:X.K=K->PA X es (TL K m)
instance {K:Fg9} {X:Cx} {es:List Expr} {m:M (List D)}:CoeFun (ED K X es m) fun _=>X.K=K->PA X es (TL K m):=⟨ED.go⟩
theorem PA.imp{t t':TA}(h:PA X es t)(w:∀σ H Q,t' σ H Q->t σ H Q):PA X es t':=fun ps jv s σ H Q I q=>h ps jv s σ H Q I (w σ H Q q)
def mNil:M (List D):=ret []
def aj(m:M D)(ms:M (List D)):M (List D):=m.bind fun d=>ms.bind fun ds=>ret (d::ds)
theorem bf:ED K X [] mNil:=ED.mk fun _=>PA.imp aeg fun σ H Q z9=>by
 obtain⟨tg,F,ρ,ds,ρ',G,em,q⟩:=z9;obtain⟨rfl,rfl⟩:=jk em;exact q [] H F G (Ext.refl _ _ _) .nil
theorem aa{m:M D}{ms:M (List D)}(h:EV K X e m)(t:ED K X es ms)(hs:starEach (e::es) X.env=(false,eval e X.env)::starEach es X.env:=by rfl):ED K X (e::es) (aj m ms):=ED.mk fun hk=>PA.imp (vq (h hk) (t hk) hs) fun σ H Q z9=>by
 obtain⟨tg,F,ρ,ds,ρ',G,em,q⟩:=z9;obtain⟨d,ρ1,e1,em⟩:=bh em;obtain⟨r,ρ2,e2,em⟩:=bh em;obtain⟨rfl,rfl⟩:=jk em;exact⟨tg,F,ρ,d,ρ1,G,e1,fun v H1 F1 G1 x1 r1=>⟨tg,F1,ρ1,r,_,G1,e2,fun vs H2 F2 G2 x2 r2=>q _ H2 F2 G2 (x1.trans x2) (.cons (r1.mono x2.sub) r2)⟩⟩
def gTup(ds:List D):Option D:=if ds.length<=capS then some (.tup ds) else none
def gLst(ds:List D):Option Rv:=if ds.length<=capS then some (.fr ds) else none
def mTup(m:M (List D)):M D:=m.bind fun ds=>lift (gTup ds)
def mLst(m:M (List D)):M Rv:=m.bind fun ds=>lift (gLst ds)
theorem cz{k}{m:M (List D)}(h:ED K X es m):EV K X (.Tuple es k pos) (mTup m):=EV.mk fun hk=>PE.imp (avu (h hk)) fun σ H Q z9=>by
 obtain⟨tg,F,ρ,d,ρ',G,em,q⟩:=z9;obtain⟨ds,ρ1,e1,em⟩:=bh em;obtain⟨e2,rfl⟩:=jc em;unfold gTup at e2;split at e2
 ·rename_i hz;cases e2;refine⟨tg,F,ρ,ds,_,G,e1,fun vs H1 F1 G1 x1 r1=>⟨by rw[<-r1.length];exact ae6 hz,fun p hp=>q _ _ _ (G1.new hp _) (x1.trans (G1.newX hp _)) (.tup gb (r1.mono (Same.new (G1.freeF hp) _)))⟩⟩
 ·cases e2
theorem j5{m:M (List D)}(h:ED K X es m):ER K X (.List es pos) (mLst m):=ER.mk fun hk=>PE.imp (av0 (h hk)) fun σ H Q z9=>by
 obtain⟨tg,F,ρ,d,ρ',G,em,q⟩:=z9;obtain⟨ds,ρ1,e1,em⟩:=bh em;obtain⟨e2,rfl⟩:=jc em;unfold gLst at e2;split at e2
 ·rename_i hz;cases e2;refine⟨tg,F,ρ,ds,_,G,e1,fun vs H1 F1 G1 x1 r1=>⟨by rw[<-r1.length];exact ae6 hz,fun p hp=>q _ _ _ (G1.fresh hp _) (x1.trans (G1.freshX hp _)) ⟨p,vs,rfl,.inl (x1.there p hp),G1.freeF hp,gb,r1,fun z=>G1.own_ne hp z rfl⟩⟩⟩
 ·cases e2
theorem aq2{x:Str}{n:Int}{j1 j2:Nat}{p1 p2:Pos}:EV K X (.Dict [some (.Constant (.str x) j1 p1)] [.Constant (.int n) j2 p2] pos) (ret (.dct [(Sum.inr x,.int n)])):=EV.mk fun _=>PE.imp apz fun σ H Q z9=>by
 obtain⟨tg,F,ρ,d,ρ',G,em,q⟩:=z9;obtain⟨rfl,rfl⟩:=jk em;exact fun p hp=>q _ _ _ (G.new hp _) (G.newX hp _) (.dct gb (.cons (.int n) .nil))
inductive BorL (K:Fg9) (F H:Hp):List D->List V->Prop
 | nil:BorL K F H [] []
 | cons {d:D} {v:V} {ds:List D} {vs:List V} (h:Bor K F H d v) (t:BorL K F H ds vs):BorL K F H (d::ds) (v::vs)
def TA'(K:Fg9)(m:M (List D)):TA:=fun σ H Q=>∃tg F ρ ds ρ',Good K tg F H ρ σ/\m ρ=some (.ok ds,ρ')/\∀vs H' F',Good K tg F' H' ρ' σ->Ext (Own ρ σ) (Own ρ' σ) F H F' H'->BorL K F' H' ds vs->Q vs H'
structure EA (K:Fg9) (X:Cx) (es:List Expr) (m:M (List D)):Prop where
 go:X.K=K->PA X es (TA' K m)
instance {K:Fg9} {X:Cx} {es:List Expr} {m:M (List D)}:CoeFun (EA K X es m) fun _=>X.K=K->PA X es (TA' K m):=⟨EA.go⟩
def gk(i:Nat)(ms:M (List D)):M (List D):=(jb i).bind fun _=>ms.bind fun ds=>(jb i).bind fun d=>ret (d::ds)
theorem dg:EA K X [] mNil:=EA.mk fun _=>PA.imp aeg fun σ H Q z9=>by
 obtain⟨tg,F,ρ,ds,ρ',G,em,q⟩:=z9;obtain⟨rfl,rfl⟩:=jk em;exact q [] H F G (Ext.refl _ _ _) .nil
theorem ea_v{m:M D}{ms:M (List D)}(h:EV K X e m)(t:EA K X es ms)(hs:starEach (e::es) X.env=(false,eval e X.env)::starEach es X.env:=by rfl):EA K X (e::es) (aj m ms):=EA.mk fun hk=>PA.imp (vq (h hk) (t hk) hs) fun σ H Q z9=>by
 obtain⟨tg,F,ρ,ds,ρ',G,em,q⟩:=z9;obtain⟨d,ρ1,e1,em⟩:=bh em;obtain⟨r,ρ2,e2,em⟩:=bh em;obtain⟨rfl,rfl⟩:=jk em;exact⟨tg,F,ρ,d,ρ1,G,e1,fun v H1 F1 G1 x1 r1=>⟨tg,F1,ρ1,r,_,G1,e2,fun vs H2 F2 G2 x2 r2=>q _ H2 F2 G2 (x1.trans x2) (.cons (.inl (r1.mono x2.sub)) r2)⟩⟩
theorem ea_n{i:Nat}{ms:M (List D)}(h:PE X e (tVar i))(t:EA K X es ms)(hs:starEach (e::es) X.env=(false,eval e X.env)::starEach es X.env:=by rfl):EA K X (e::es) (gk i ms):=EA.mk fun hk=>PA.imp (vq h (t hk) hs) fun σ H Q z9=>by
 obtain⟨tg,F,ρ,ds,ρ',G,em,q⟩:=z9;obtain⟨d0,ρ0,e0,em⟩:=bh em;obtain⟨r,ρ2,e2,em⟩:=bh em;obtain⟨d,ρ1,e1,em⟩:=bh em;obtain⟨rfl,rfl⟩:=jk em;obtain⟨rfl,v,hv,_⟩:=zr G e0;exact⟨v,hv,tg,F,ρ0,r,_,G,e2,fun vs H2 F2 G2 x2 r2=>by
  obtain⟨rfl,v',hv',b'⟩:=zr G2 e1;rw[hv] at hv';cases hv';exact q _ H2 F2 G2 x2 (.cons b' r2)⟩
def rcOf(K:Fg9)(g:List D->Option Rv):List V->Hp->VK->Prop:=fun vs H Q=>∃tg F ρ σ ds r,Good K tg F H ρ σ/\BorL K F H ds vs/\g ds=some r/\Res K tg F H ρ σ r Q
structure CallD (K:Fg9) (X:Cx) (f:Value) (g:List D->Option Rv):Prop where
 go:X.K=K->aau X f (rcOf K g)
instance {K:Fg9} {X:Cx} {f:Value} {g:List D->Option Rv}:CoeFun (CallD K X f g) fun _=>X.K=K->aau X f (rcOf K g):=⟨CallD.go⟩
def fu(g:List D->Option Rv)(m:M (List D)):M Rv:=m.bind fun ds=>lift (g ds)
theorem j4{O O1 O2:Addr->Prop}{F H F1 H1 F2 H2:Hp}{r:Rv}{v:V}(x:Ext O O1 F H F1 H1)(h:relR K r v H1 O1 F2 H2 O2):relR K r v H O F2 H2 O2:=by
 cases r with
 | v d=>exact h
 | fr l =>
  obtain⟨a,vs,ev,ha,w⟩:=h;refine⟨a,vs,ev,?_,w⟩;rcases ha with ha | ha
  ·exact .inl (x.there a ha)
  ·exact(x.own a ha).symm
 | tf d l =>
  obtain⟨t,u,a,vs,ev,ht,hd,ha,w⟩:=h;refine⟨t,u,a,vs,ev,ht,hd,?_,w⟩;rcases ha with ha | ha
  ·exact .inl (x.there a ha)
  ·exact(x.own a ha).symm
theorem akx{g:List D->Option Rv}{m:M (List D)}(σ:L2.St)(H:Hp)(Q:VK)(t:T K (relR K) (fu g m) σ H Q):tCB (rcOf K g) (TA' K m) σ H Q:=by
 obtain⟨tg,F,ρ,r,ρ',G,em,q⟩:=t;obtain⟨ds,ρ1,e1,em⟩:=bh em;obtain⟨e2,rfl⟩:=jc em;exact⟨tg,F,ρ,ds,_,G,e1,fun vs H' F' G' x' bl=>⟨tg,F',_,σ,ds,r,G',bl,e2,fun v H2 F2 G2 x2 rr=>q v H2 F2 G2 (x'.trans x2) (j4 x' rr)⟩⟩
section
variable{x:Str}{id Ty:String}{g:List D->Option Rv}{m:M (List D)}
theorem bw(hc:CallD K X (.builtin id) g)(hg:Gl X x)(hm:X.mg x=none)(hv:bootBuiltins x=some (.builtin id))(ha:EA K X (e::es) m)(hn:x ≠ "__name__" := by decide)(hdb:(x==("__debug__" : Str))=false:=by decide)
  (he:starEach (e::es) X.env=(false,eval e X.env)::starEach es X.env:=by rfl) (hpl:(backTo pos (starEach es X.env)).any (·.1)=false:=by rfl):ER K X (.Call (.Name x p) (e::es) [] pos) (fu g m):=ER.mk fun hk=>PE.imp (adx (hc hk) hg hm hv (ha hk) hn hdb he hpl) akx
theorem ni(hc:CallD K X (.type Ty) g)(hg:Gl X x)(hm:X.mg x=none)(hv:bootBuiltins x=some (.type Ty))(ha:EA K X (e::es) m)(hn:x ≠ "__name__" := by decide)(hdb:(x==("__debug__" : Str))=false:=by decide)
  (he:starEach (e::es) X.env=(false,eval e X.env)::starEach es X.env:=by rfl) (hpl:(backTo pos (starEach es X.env)).any (·.1)=false:=by rfl):ER K X (.Call (.Name x p) (e::es) [] pos) (fu g m):=ER.mk fun hk=>PE.imp (aad (hc hk) hg hm hv (ha hk) hn hdb he hpl) akx
end
theorem BorL.one{F H:Hp}{d:D}{vs:List V}(h:BorL K F H [d] vs):∃v,vs=[v]/\Bor K F H d v:=by
 cases h with
 | cons h t=>cases t;exact⟨_,rfl,h⟩
theorem BorL.two{F H:Hp}{d d':D}{vs:List V}(h:BorL K F H [d,d'] vs):∃v v',vs=[v,v']/\Bor K F H d v/\Bor K F H d' v':=by
 cases h with
 | cons h t =>
  obtain⟨v',rfl,h'⟩:=t.one;exact⟨_,_,rfl,h,h'⟩
def g1(f:D->Option Rv):List D->Option Rv
 | [d]=>f d
 | _=>none
def g2(f:D->D->Option Rv):List D->Option Rv
 | [d,d']=>f d d'
 | _=>none
theorem zj{f:D->Option Rv}{w:Value} (h:X.K=K->∀(jv:List (Addr×Obj)) (s:Shared) (σ0:L2.St) (H:Hp) (x:V) (u:Value) (Q:VK) (tg:Nat->Addr) (F:Hp) (ρ:Ro) (σ:L2.St) (d:D) (r:Rv),Inv X jv σ0 H s->RelV x u->Good K tg F H ρ σ->Bor K F H d x->f d=some r->Res K tg F H ρ σ r Q ->
  wpAny (model X.prog X.w) X.A (call w [u]) (EP X jv σ0 Q) X.xe s):CallD K X w (g1 f):=CallD.mk fun hk=>by
 intro jv s σ0 H xs us Q I r ⟨tg,F,ρ,σ,ds,rv,G,bl,eg,q⟩
 match ds,eg with
 | [d],eg =>
  obtain⟨v,rfl,bv⟩:=bl.one;obtain⟨u,rfl,ru⟩:=vals1 r;exact h hk jv s σ0 H v u Q tg F ρ σ d rv I ru G bv eg q
theorem kj:CallD K X (.builtin "len") (g1 fun d=>(itemsD d).map fun l=>.v (.int l.length)):=zj fun hk jv s σ0 H x u Q tg F ρ σ d r I ru G bd eg q=>by
 subst hk;cases e:itemsD d with
 | none=>rw[e] at eg;cases eg
 | some l =>
  rw[e] at eg;cases eg;obtain⟨a,vs,rfl,hl,hs⟩:=ad6 G.sub e bd;have q':=Res.same G q (.int _);rw[hl.length] at q';exact aik jv s σ0 H [.ref a] [u] Q I (.cons ru .nil) ⟨a,vs,rfl,hs,q'⟩
def vm:List D->Option (List Bool)
 | []=>some []
 | .bl b::r=>(vm r).map (b :: ·)
 | _::_=>none
theorem aio:∀{l:List D} {bs:List Bool},vm l=some bs->l=bs.map D.bl
 | [],_,h=>by cases h;rfl
 | .bl b::r,bs,h=>by
  have h':(vm r).map (b :: ·)=some bs:=h;cases e:vm r with
  | none=>rw[e] at h';cases h'
  | some t =>
   rw[e] at h';cases h';rw[aio e];rfl
 | .non::_,_,h=>by cases h
 | .int _::_,_,h=>by cases h
 | .str _::_,_,h=>by cases h
 | .tup _::_,_,h=>by cases h
 | .lst _::_,_,h=>by cases h
 | .kst _::_,_,h=>by cases h
 | .dct _::_,_,h=>by cases h
@[simp] theorem xr(bs:List Bool):vm (bs.map D.bl)=some bs:=by
 induction bs with
 | nil=>rfl
 | cons b r ih=>show(vm (r.map D.bl)).map (b :: ·)=_;rw[ih];rfl
def gAll:D->Option Rv
 | .lst l=>(vm l).map fun bs=>.v (.bl (bs.all id))
 | _=>none
theorem af1(hc:X.calm=true):CallD K X (.builtin "all") (g1 gAll):=zj fun hk jv s σ0 H x u Q tg F ρ σ d r I ru G bd eg q=>by
 subst hk;cases d with
 | lst l =>
  have eg:(vm l).map (fun bs=>Rv.v (.bl (bs.all id)))=some r:=eg
  cases e:vm l with
  | none=>rw[e] at eg;cases eg
  | some bs =>
   rw[e] at eg;cases eg;obtain⟨a,vs,rfl,ea,hl⟩:=bd.lst G.sub;rw[aio e] at hl;rw[hl.bl_inv] at ea;exact ara hc jv s σ0 H [.ref a] [u] Q I (.cons ru .nil) ⟨a,bs,rfl,SqL.of ea,Res.same G q (.bl _)⟩
 | _=>cases eg
def aqx:D->Option Rv
 | .int i=>some (.v (.int i))
 | .bl k=>some (.v (.int (if k then 1 else 0)))
 | _=>none
theorem axf:CallD K X (.type "int") (g1 aqx):=zj fun hk jv s σ0 H x u Q tg F ρ σ d r I ru G bd eg q=>by
 cases d with
 | int i =>
  cases eg;obtain rfl:=bd.int;exact ail jv s σ0 H [_] [u] Q I (.cons ru .nil) (.inl ⟨i,rfl,Res.same G q (.int _)⟩)
 | bl k =>
  cases eg;obtain rfl:=bd.bl;exact ail jv s σ0 H [_] [u] Q I (.cons ru .nil) (.inr ⟨k,rfl,Res.same G q (.int _)⟩)
 | _=>cases eg
theorem yt:CallD K X (.type "tuple") (g1 fun d=>(itemsD d).map fun l=>.v (.tup l)):=zj fun hk jv s σ0 H x u Q tg F ρ σ d r I ru G bd eg q=>by
 subst hk;cases d with
 | tup l =>
  cases eg;obtain⟨a,vs,rfl,ea,hl⟩:=bd.tup;exact yu jv s σ0 H [_] [u] Q I (.cons ru .nil) ⟨a,vs,rfl,.inr ⟨SqT.of (G.sub _ _ ea),Res.same G q (.tup ea hl)⟩⟩
 | lst l =>
  cases eg;obtain⟨a,vs,rfl,ea,hl⟩:=bd.lst G.sub;exact yu jv s σ0 H [_] [u] Q I (.cons ru .nil) ⟨a,vs,rfl,.inl ⟨SqL.of ea,fun p hp=>Res.tup G q hl hp⟩⟩
 | kst l =>
  cases eg;obtain⟨a,vs,rfl,ea,hl⟩:=bd.kst;exact yu jv s σ0 H [_] [u] Q I (.cons ru .nil) ⟨a,vs,rfl,.inl ⟨L2.Same.seq G.sub ea,fun p hp=>Res.tup G q hl hp⟩⟩
 | _=>cases eg
theorem aui:CallD K X (.type "list") (g1 fun d=>(itemsD d).map fun l=>.fr l):=zj fun hk jv s σ0 H x u Q tg F ρ σ d r I ru G bd eg q=>by
 subst hk;cases e:itemsD d with
 | none=>rw[e] at eg;cases eg
 | some l =>
  rw[e] at eg;cases eg;obtain⟨a,vs,rfl,hl,hs⟩:=ad6 G.sub e bd;exact aij jv s σ0 H [_] [u] Q I (.cons ru .nil) ⟨a,vs,rfl,hs,fun p hp=>Res.lst G q hl hp⟩
theorem ar5{f:D->D->Option Rv}{w:Value} (h:X.K=K->∀(jv:List (Addr×Obj)) (s:Shared) (σ0:L2.St) (H:Hp) (x y:V) (u v:Value) (Q:VK) (tg:Nat->Addr) (F:Hp) (ρ:Ro) (σ:L2.St) (d d':D) (r:Rv),Inv X jv σ0 H s->RelV x u->RelV y v->Good K tg F H ρ σ->Bor K F H d x->Bor K F H d' y->f d d'=some r->Res K tg F H ρ σ r Q ->
  wpAny (model X.prog X.w) X.A (call w [u,v]) (EP X jv σ0 Q) X.xe s):CallD K X w (g2 f):=CallD.mk fun hk=>by
 intro jv s σ0 H xs us Q I r ⟨tg,F,ρ,σ,ds,rv,G,bl,eg,q⟩
 match ds,eg with
 | [d,d'],eg =>
  obtain⟨v,v',rfl,bv,bv'⟩:=bl.two;obtain⟨u,w,rfl,ru,rw'⟩:=vals2 r;exact h hk jv s σ0 H v v' u w Q tg F ρ σ d d' rv I ru rw' G bv bv' eg q
theorem axe(hc:X.calm=true):CallD K X (.builtin "max") (g2 (gInt fun i j=>some (if j > i then j else i))):=ar5 fun hk jv s σ0 H x y u v Q tg F ρ σ d d' r I ru rv G bd bd' eg q=>by
 unfold gInt at eg;split at eg
 ·cases eg;obtain rfl:=bd.int;obtain rfl:=bd'.int;exact aoq hc jv s σ0 H [_,_] [u,v] Q I (.cons ru (.cons rv .nil)) ⟨_,_,rfl,Res.same G q (.int _)⟩
 ·cases eg
theorem aim:aau X (.builtin "divmod") (fun xs H Q=>∃i j,xs=[.int i,.int j]/\(0 < j/\j < 1000000000000000000000000000000000000000000000000000000000000)/\∀p,H p=none->Q (.ref p) (upd H p (.tup [.int (i / j),.int (i % j)]))):=by
 intro jv s σ H xs us Q I r h;obtain⟨i,j,rfl,hj,q⟩:=h;obtain⟨u,w',rfl,⟨t,rfl⟩,⟨t',rfl⟩⟩:=vals2 r;have h1:=hj.1;refine divmod_int (by omega) ?_ (.inl (awf hj.1 hj.2))
 rw[Int.fdiv_eq_ediv_of_nonneg i (by omega),Int.fmod_eq_emod_of_nonneg i (by omega)]
 refine⟨.ref s.heap.objs.size,_,?_,rfl,q _ (I.hok.fresh (Nat.le_refl _))⟩;exact I.laid (fun b o e=>Heap.get?_push_of_some _ e) (Nat.le_refl _) ⟨by simp only[List.length_cons,List.length_nil];rw[sizeLine_eq];decide,[.int (i / j) s.toks,.int (i % j) (s.toks+1)],.cons ⟨_,rfl⟩ (.cons ⟨_,rfl⟩ .nil),⟨_,Heap.get?_push_size s.heap rfl,rfl,rfl,0,rfl⟩⟩
def ag0:D->D->Option Rv
 | .int i,.int j=>if 0 < j/\j < 1000000000000000000000000000000000000000000000000000000000000 then some (.v (.tup [.int (i / j),.int (i % j)])) else none
 | _,_=>none
theorem aon:CallD K X (.builtin "divmod") (g2 ag0):=ar5 fun hk jv s σ0 H x y u v Q tg F ρ σ d d' r I ru rv G bd bd' eg q=>by
 unfold ag0 at eg;split at eg
 ·split at eg
  ·rename_i hc;cases eg;obtain rfl:=bd.int;obtain rfl:=bd'.int;exact aim jv s σ0 H [_,_] [u,v] Q I (.cons ru (.cons rv .nil)) ⟨_,_,rfl,hc,fun p hp=>Res.tup G q (.cons (.int _) (.cons (.int _) .nil)) hp⟩
  ·cases eg
 ·cases eg
inductive Ty where
 | int | bool | tuple | list | str | dict
def Ty.nm:Ty->String
 | .int => "int" | .bool => "bool" | .tuple => "tuple" | .list => "list" | .str => "str" | .dict => "dict"
def tyD:D->Value
 | .non=>.type "NoneType"
 | .bl _=>.type "bool"
 | .int _=>.type "int"
 | .str _=>.type "str"
 | .tup _=>.type "tuple"
 | .lst _=>.type "list"
 | .kst _=>.type "list"
 | .dct _=>.type "dict"
 | .exn _ _=>.type "NoneType"
def isTy:Ty->D->Bool
 | .int,.int _=>true
 | .int,.bl _=>true
 | .bool,.bl _=>true
 | .tuple,.tup _=>true
 | .list,.lst _=>true
 | .list,.kst _=>true
 | .str,.str _=>true
 | .dict,.dct _=>true
 | _,_=>false
theorem arx(t:Ty)(d:D):PySem.W.kitOne K (tyD d) (.type t.nm)=some (isTy t d):=by
 cases d <;> cases t <;> kernel_rfl
theorem aor{X:Cx}:aau X (.builtin "isinstance") (fun xs H Q=>∃F d x t,xs=[x,.ty (Ty.nm t)]/\Same F H/\Bor X.K F H d x/\Q (.bl (isTy t d)) H):=by
 intro jv s σ H xs us Q I r ⟨F,d,x,t,e,g,h,q⟩;subst e;obtain⟨u,w',rfl,r1,r2⟩:=vals2 r;obtain rfl:w'=Value.type t.nm:=r2;have fin:∀tk,EP X jv σ Q (.bool (isTy t d)) { s with toks:=tk }:=fun tk=>⟨.bl _,H,I.tok tk,rfl,q⟩
 have go:TyOf X.K H x (tyD d)->wpAny (model X.prog X.w) X.A (call (.builtin "isinstance") [u,.type t.nm]) (EP X jv σ Q) X.xe s:=fun ty=>anu I r1 ty (arx t d) fin
 cases d with
 | non=>obtain rfl:=h.non;exact go .non
 | bl b=>obtain rfl:=h.bl;exact go (.bl b)
 | int b=>obtain rfl:=h.int;exact go (.int b)
 | str b=>obtain rfl:=h.str;exact go (.str b)
 | tup b=>obtain⟨a,vs,rfl,e,_⟩:=h.tup;exact go (.tup (g _ _ e))
 | lst b=>obtain⟨a,vs,rfl,e,_⟩:=h.lst g;exact go (.lst e)
 | kst b =>
  obtain⟨a,vs,rfl,e,_⟩:=h.kst;cases(show u=Value.ref a from r1)
  obtain⟨its,_,pl,_⟩:=I.list (L2.Same.seq g e);obtain⟨o,ho,hc,n,hd⟩:=pl.isList;exact PySem.W.kia_one PySem.W.kitx_list I.kIn ⟨o,ho,hc⟩ (arx t (.kst b)) (fun z=>nomatch z) fin
 | dct b =>
  rcases h with h | ⟨a,vs,l',e1,_⟩
  ·cases h with
   | dct e h=>exact go (.dK (g _ _ e))
  ·cases e1
 | exn c fs =>
  rcases h with h | ⟨a,vs,l',e1,_⟩
  ·cases h with
   | @exn a C c dx fs e hc hk hf =>
    cases(show u=Value.ref a from r1)
    obtain⟨⟨oe,ws,h1,h2,h3,h4⟩,_⟩:=(show ut X.prog X.w H s.heap a (.ext (exO a C dx)) from I.hok a _ (g _ _ e))
    have hno:PySem.W.notCls oe=true:=by unfold PySem.W.notCls;rw[h4]
    have ia:∃ox od,PySem.W.InstAt s.heap a ox C od:=by
     rcases hf with⟨rfl,_⟩ | ⟨d,rfl,hd⟩
     ·exact⟨oe,none,h1,h2,hno,by rw[h3];trivial⟩
     ·obtain⟨mA,⟨od,_,_,e1,_⟩,_⟩:=(show ut X.prog X.w H s.heap d (.xd _) from I.hok d _ (g _ _ hd))
      exact⟨oe,some od,h1,h2,hno,by rw[h3];exact e1⟩
    have kq:PySem.W.kitOne X.K (.ref C) (.type t.nm)=some false:=by
     have h5:PySem.W.subIn X.K (.ref C) (.type t.nm)=some false:=hk.no _ (by cases t <;> simp[Ty.nm])
     have h6:PySem.W.kitMeta t.nm=true:=by cases t <;> kernel_rfl
     unfold PySem.W.kitOne PySem.W.kitCls;rw[if_neg (by simp)]
     show(if PySem.W.kitMeta t.nm=true then PySem.W.subIn X.K (.ref C) (.type t.nm) else none)=some false
     rw[if_pos h6];exact h5
    have e7:isTy t (.exn c fs)=false:=by cases t <;> rfl
    exact PySem.W.kia_one (aqg hk) I.kIn ia kq (fun z=>nomatch z) fun tk=>e7▸fin tk
  ·cases e1
def mIsi(t:Ty)(m:M D):M D:=m.bind fun d=>ret (.bl (isTy t d))
theorem abe{t:Ty}{tn:Expr}{m:M D}{x:Str}(ht:PE X tn (tC (.ty t.nm)))(hg:Gl X x)(hm:X.mg x=none)(hv:bootBuiltins x=some (.builtin "isinstance"))(h:EB K X e m)(hn:x ≠ "__name__" := by decide)(hdb:(x==("__debug__" : Str))=false:=by decide)
  (h1:starEach [tn] X.env=(false,eval tn X.env)::starEach [] X.env:=by rfl) (he:starEach [e,tn] X.env=(false,eval e X.env)::starEach [tn] X.env:=by rfl) (hpl:(backTo pos (starEach [tn] X.env)).any (·.1)=false:=by rfl) :
  EV K X (.Call (.Name x p) [e,tn] [] pos) (mIsi t m):=EV.mk fun hk=>by
 refine PE.imp (adx aor hg hm hv (vq (h hk) (vq ht aeg h1) he) hn hdb he hpl) fun σ H Q z9 =>?_
 obtain⟨tg,F,ρ,d,ρ',G,em,q⟩:=z9;obtain⟨d1,ρ1,e1,em⟩:=bh em;obtain⟨rfl,rfl⟩:=jk em;subst hk;exact⟨tg,F,ρ,d1,_,G,e1,fun v H' F' G' x bv=>⟨F',d1,v,t,rfl,G'.sub,bv,q _ H' F' G' x (.bl _)⟩⟩
def gIx(d i:D):Option Rv:=match i with
 | .int k=>(itemsD d).bind fun l=>(atI l k).map fun x=>.v x
 | _=>none
theorem axj{F:Hp}{l:List D}{vs:List V}{k:Int}{d:D}(h:IsL K F l vs)(e:atI l k=some d):∃v,atI vs k=some v/\Is K F d v:=by
 unfold atI at e ⊢
 rw[h.length] at e;cases q:ixN vs.length k with
 | none=>rw[q] at e;cases e
 | some j =>
  rw[q] at e;obtain⟨v,e1,e2⟩:=h.get (i:=j) e;exact⟨v,e1,e2⟩
theorem ixd:X.K=K->IxR X (rOf K gIx):=fun hk=>by
 intro value slice jv s σ0 H x y v u Q I rx ry ⟨tg,F,ρ,σ,d1,d2,r,G,b1,b2,eg,q⟩ hs;subst hk;cases d2 with
 | int k =>
  have eg:(itemsD d1).bind (fun l=>(atI l k).map fun x=>Rv.v x)=some r:=eg
  cases e:itemsD d1 with
  | none=>rw[e] at eg;cases eg
  | some l =>
   rw[e] at eg;have eg:(atI l k).map (fun x=>Rv.v x)=some r:=eg
   cases e2:atI l k with
   | none=>rw[e2] at eg;cases eg
   | some d =>
    rw[e2] at eg;cases eg;obtain⟨a,vs,rfl,hl,hq⟩:=ad6 G.sub e b1;obtain rfl:=b2.int;obtain⟨z,hz,iz⟩:=axj hl e2;rcases hq with hq | hq
    ·exact atw value slice jv s σ0 H _ _ v u Q I rx ry ⟨a,vs,k,z,rfl,rfl,hq,hz,Res.same G q iz⟩ hs
    ·exact aww value slice jv s σ0 H _ _ v u Q I rx ry ⟨a,vs,k,z,rfl,rfl,hq,hz,Res.same G q iz⟩ hs
 | _=>cases eg
theorem ie{m:M (D×D)}(h:E2 K X a b m)(hs:ao6 b):ER K X (.Subscript a b pos) (mOp gIx m):=ER.mk fun hk=>by
 obtain⟨ta,tb,ha,hb,h⟩:=h hk;exact PE.imp (ay5 (ixd hk) ha hb hs) (aka h)
def TOp(K:Fg9)(m:M (Option Int)):TO:=fun σ H Q=>∃tg F ρ o ρ',Good K tg F H ρ σ/\m ρ=some (.ok o,ρ')/\∀H' F',Good K tg F' H' ρ' σ->Ext (Own ρ σ) (Own ρ' σ) F H F' H'->Q o H'
structure EO (K:Fg9) (X:Cx) (e:Option Expr) (m:M (Option Int)):Prop where
 go:X.K=K->PO X e (TOp K m)
instance {K:Fg9} {X:Cx} {e:Option Expr} {m:M (Option Int)}:CoeFun (EO K X e m) fun _=>X.K=K->PO X e (TOp K m):=⟨EO.go⟩
theorem PO.imp{eo:Option Expr}{t t':TO}(h:PO X eo t)(w:∀σ H Q,t' σ H Q->t σ H Q):PO X eo t':=fun jv s σ H Q I q=>h jv s σ H Q I (w σ H Q q)
theorem aez:EO K X none (ret none):=EO.mk fun _=>PO.imp as3 fun σ H Q z9=>by
 obtain⟨tg,F,ρ,o,ρ',G,em,q⟩:=z9;obtain⟨rfl,rfl⟩:=jk em;exact q H F G (Ext.refl _ _ _)
def asI:D->Option Int
 | .int i=>some i
 | _=>none
theorem ao4{d:D}{k:Int}(h:asI d=some k):d=.int k:=by
 cases d with
 | int b=>cases h;rfl
 | _=>cases h
def agu(m:M D):M (Option Int):=m.bind fun d=>lift ((asI d).map some)
theorem abx{m:M D}(h:EV K X e m):EO K X (some e) (agu m):=EO.mk fun hk=>PO.imp (asz (h hk)) fun σ H Q z9=>by
 obtain⟨tg,F,ρ,o,ρ',G,em,q⟩:=z9;obtain⟨d,ρ1,e1,em⟩:=bh em;obtain⟨e2,rfl⟩:=jc em;refine⟨tg,F,ρ,d,_,G,e1,fun v H' F' G' x r =>?_⟩
 cases d with
 | int i =>
  cases e2;cases r;exact⟨i,rfl,q H' F' G' x⟩
 | _=>cases e2
def cutD(l:List D)(lo hi:Option Int):List D:=(l.drop (HT.sIx l.length 0 lo)).take (HT.sIx l.length l.length hi - HT.sIx l.length 0 lo)
theorem aog{F:Hp}{l:List D}{vs:List V}(h:IsL K F l vs)(lo hi:Option Int):IsL K F (cutD l lo hi) (cutV vs lo hi):=by
 unfold cutD cutV;rw[h.length];exact(h.drop _).take _
def gCut(d:D)(lo hi:Option Int):Option Rv:=match d with
 | .tup l=>some (.v (.tup (cutD l lo hi)))
 | .lst l=>some (.fr (cutD l lo hi))
 | .kst l=>some (.fr (cutD l lo hi))
 | _=>none
def rsOf(K:Fg9):V->Option Int->Option Int->Hp->VK->Prop:=fun x lo hi H Q=>∃tg F ρ σ d r,Good K tg F H ρ σ/\Bor K F H d x/\gCut d lo hi=some r/\Res K tg F H ρ σ r Q
theorem sld(hk:X.K=K):SlR X (rsOf K):=by
 intro jv s σ0 H x v vl vu lo hi sl Q I rx hs pl pu ⟨tg,F,ρ,σ,d,r,G,bd,eg,q⟩;subst hk;cases d with
 | tup l =>
  cases eg;obtain⟨a,vs,rfl,ea,hl⟩:=bd.tup
  by_cases hw:HT.sIx vs.length 0 lo=0/\HT.sIx vs.length vs.length hi=vs.length
  ·have ec:cutD l lo hi=l:=by
    unfold cutD;rw[hl.length,hw.1,hw.2,List.drop_zero,Nat.sub_zero,<-hl.length,List.take_length]
   rw[ec] at q;cases rx;obtain⟨its,r,ht,hz⟩:=I.tuple (SqT.of (G.sub _ _ ea));have hlen:its.toArray.size=vs.length:=by rw[List.size_toArray];exact r.length.symm
   refine⟨"tuple", _,PyProof.Rows.slot_tuple_getitem.lookup,ht.typeIs,?_⟩;exact abr ht hs pl pu (by rw[hlen];exact hw.1) (by rw[hlen];exact hw.2) ⟨.ref a,H,I,rfl,Res.same G q (.tup ea hl)⟩
  ·exact au8 jv s σ0 H _ v vl vu lo hi sl Q I rx hs pl pu ⟨a,vs,rfl,SqT.of (G.sub _ _ ea),hw,fun p hp=>Res.tup G q (aog hl lo hi) hp⟩
 | lst l =>
  cases eg;obtain⟨a,vs,rfl,ea,hl⟩:=bd.lst G.sub;exact amg jv s σ0 H _ v vl vu lo hi sl Q I rx hs pl pu ⟨a,vs,rfl,SqL.of ea,fun p hp=>Res.lst G q (aog hl lo hi) hp⟩
 | kst l =>
  cases eg;obtain⟨a,vs,rfl,ea,hl⟩:=bd.kst;exact amg jv s σ0 H _ v vl vu lo hi sl Q I rx hs pl pu ⟨a,vs,rfl,L2.Same.seq G.sub ea,fun p hp=>Res.lst G q (aog hl lo hi) hp⟩
 | _=>cases eg
def ahy(i:Nat)(ml mh:M (Option Int)):M Rv:=(jb i).bind fun _=>ml.bind fun lo=>mh.bind fun hi=>(jb i).bind fun d=>lift (gCut d lo hi)
theorem ac9{i:Nat}{ml mh:M (Option Int)}{lo hi:Option Expr}(h:PE X a (tVar i))(hl:EO K X lo ml)(hh:EO K X hi mh):ER K X (.Subscript a (.Slice lo hi none p2) pos) (ahy i ml mh):=ER.mk fun hk=>PE.imp (apy (sld hk) h (hl hk) (hh hk)) fun σ H Q z9=>by
 obtain⟨tg,F,ρ,r,ρ',G,em,q⟩:=z9;obtain⟨d0,ρ0,e0,em⟩:=bh em;obtain⟨o1,ρ2,e2,em⟩:=bh em;obtain⟨o2,ρ3,e3,em⟩:=bh em;obtain⟨d,ρ4,e1,em⟩:=bh em;obtain⟨e4,rfl⟩:=jc em;obtain⟨rfl,v,hv,_⟩:=zr G e0;refine⟨v,hv,tg,F,ρ0,o1,ρ2,G,e2,fun H2 F2 G2 x2=>⟨tg,F2,ρ2,o2,_,G2,e3,fun H3 F3 G3 x3 =>?_⟩⟩
 obtain⟨rfl,v',hv',b'⟩:=zr G3 e1;rw[hv] at hv';cases hv';exact⟨tg,F3,_,σ,d,r,G3,b',e4,fun v' H4 F4 G4 x4 rr=>q v' H4 F4 G4 ((x2.trans x3).trans x4) (j4 (x2.trans x3) rr)⟩
end
inductive Fl where
 | nx | ret (r:Rv) | brk | cont | exc (x:Exn)
abbrev Sd:=Ro->Option (Fl×Ro)
section
variable{K:Fg9}{X:Cx}{e a b c tgt:Expr}{es:List Expr}{pos p p2:Pos}{st:Stmt}{ss:List Stmt}
def FlOk(K:Fg9)(tg:Nat->Addr)(ρ:Ro)(σ:L2.St)(F H:Hp)(E:Ends)(fl:Fl)(ρ':Ro):Prop:=match fl with
 | .nx=>∀σ' H' F',Good K tg F' H' ρ' σ'->Ext (Own ρ σ) (Own ρ' σ') F H F' H'->E.nx σ' H'
 | .brk=>∀σ' H' F',Good K tg F' H' ρ' σ'->Ext (Own ρ σ) (Own ρ' σ') F H F' H'->E.bk σ' H'
 | .cont=>∀σ' H' F',Good K tg F' H' ρ' σ'->Ext (Own ρ σ) (Own ρ' σ') F H F' H'->E.ct σ' H'
 | .ret r=>∀v σ' H' F',Good K tg F' H' ρ' σ'->Ext (Own ρ σ) (Own ρ' σ') F H F' H'->relR K r v H (Own ρ σ) F' H' (Own ρ' σ')->E.rt v H'
 | .exc _=>False
def TSd(K:Fg9)(g:Sd):TS:=fun E σ H=>∃tg F ρ fl ρ',Good K tg F H ρ σ/\g ρ=some (fl,ρ')/\FlOk K tg ρ σ F H E fl ρ'
structure SV (K:Fg9) (X:Cx) (st:Stmt) (g:Sd):Prop where
 go:X.K=K->PS X st (TSd K g)
instance {K:Fg9} {X:Cx} {st:Stmt} {g:Sd}:CoeFun (SV K X st g) fun _=>X.K=K->PS X st (TSd K g):=⟨SV.go⟩
structure SVs (K:Fg9) (X:Cx) (ss:List Stmt) (g:Sd):Prop where
 go:X.K=K->PSs X ss (TSd K g)
instance {K:Fg9} {X:Cx} {ss:List Stmt} {g:Sd}:CoeFun (SVs K X ss g) fun _=>X.K=K->PSs X ss (TSd K g):=⟨SVs.go⟩
theorem PS.imp{t t':TS}(h:PS X st t)(w:∀E σ H,t' E σ H->t E σ H):PS X st t':=fun jv s σ H E I q=>h jv s σ H E I (w E σ H q)
theorem PSs.imp{t t':TS}(h:PSs X ss t)(w:∀E σ H,t' E σ H->t E σ H):PSs X ss t':=fun jv s σ H E I q=>h jv s σ H E I (w E σ H q)
theorem FlOk.back{tg:Nat->Addr}{ρ ρ1 ρ':Ro}{σ σ1:L2.St}{F H F1 H1:Hp}{E:Ends}{fl:Fl}(x:Ext (Own ρ σ) (Own ρ1 σ1) F H F1 H1)(h:FlOk K tg ρ σ F H E fl ρ'):FlOk K tg ρ1 σ1 F1 H1 E fl ρ':=by
 cases fl with
 | nx=>exact fun σ' H' F' G' x'=>h σ' H' F' G' (x.trans x')
 | brk=>exact fun σ' H' F' G' x'=>h σ' H' F' G' (x.trans x')
 | cont=>exact fun σ' H' F' G' x'=>h σ' H' F' G' (x.trans x')
 | ret r=>exact fun v σ' H' F' G' x' rr=>h v σ' H' F' G' (x.trans x') (j4 x rr)
 | exc _=>exact h
def dNx:Sd:=fun ρ=>some (.nx,ρ)
noncomputable def dSeq(g k:Sd):Sd:=fun ρ=>match g ρ with
 | some (.nx,ρ1)=>k ρ1
 | r=>r
theorem gr:SVs K X [] dNx:=SVs.mk fun _=>PSs.imp asw fun E σ H z9=>by
 obtain⟨tg,F,ρ,fl,ρ',G,em,q⟩:=z9;cases em;exact q σ H F G (Ext.refl _ _ _)
theorem az{g:Sd}(h:SV K X st g):SVs K X [st] g:=SVs.mk fun hk=>asv (h hk)
theorem ao{g k:Sd}(h:SV K X st g)(t:SVs K X ss k):SVs K X (st::ss) (dSeq g k):=SVs.mk fun hk=>PSs.imp (apr (h hk) (t hk)) fun E σ H z9=>by
 obtain⟨tg,F,ρ,fl,ρ',G,em,q⟩:=z9;unfold dSeq at em;split at em
 ·rename_i ρ1 e1;exact⟨tg,F,ρ,.nx,ρ1,G,e1,fun σ' H' F' G' x=>⟨tg,F',ρ1,fl,ρ',G',em,q.back x⟩⟩
 ·rename_i hn;refine⟨tg,F,ρ,fl,ρ',G,em,?_⟩;cases fl with
  | nx=>exact absurd em (hn ρ')
  | brk=>exact q
  | cont=>exact q
  | ret r=>exact q
  | exc _=>exact q
theorem af6:SV K X st (fun _=>none):=SV.mk fun _=>PS.imp apt fun E σ H ⟨tg,F,ρ,fl,ρ',G,em,q⟩=>by cases em
noncomputable def dM{α:Type}(m:M α)(k:α->Sd):Sd:=fun ρ=>match m ρ with
 | some (.ok x,ρ1)=>k x ρ1
 | some (.exc x,ρ1)=>some (.exc x,ρ1)
 | none=>none
theorem aa7{α:Type}{m:M α}{k:α->Sd}{ρ ρ':Ro}{fl:Fl}{P:Prop}(h:dM m k ρ=some (fl,ρ'))(hx:FlOk K tg ρ0 σ0 F0 H0 E0' fl ρ')(go:∀x ρ1,m ρ=some (.ok x,ρ1)->k x ρ1=some (fl,ρ')->P):P:=by
 unfold dM at h;split at h
 ·exact go _ _ (by assumption) h
 ·cases h;exact(show False from hx).elim
 ·cases h
noncomputable def dRet(m:M Rv):Sd:=dM m fun r ρ=>some (.ret r,ρ)
theorem dh{m:M Rv}(h:ER K X e m):SV K X (.Return (some e) pos) (dRet m):=SV.mk fun hk=>PS.imp (avn (h hk)) fun E σ H ⟨tg,F,ρ,fl,ρ',G,em,q⟩=>aa7 em q fun r ρ1 e1 em=>by
 cases em;exact⟨tg,F,ρ,r,_,G,e1,fun v H' F' G' x rr=>q v σ H' F' G' x rr⟩
noncomputable def dIf(m:M Bool)(g k:Sd):Sd:=dM m fun z=>if z=true then g else k
theorem qw{m:M Bool}{g k:Sd}{ss':List Stmt}(h:ET K X c m)(h1:SVs K X ss g)(h2:SVs K X ss' k):SV K X (.If c ss ss' pos) (dIf m g k):=SV.mk fun hk=>PS.imp (ay2 (h hk) (h1 hk) (h2 hk)) fun E σ H ⟨tg,F,ρ,fl,ρ',G,em,q⟩=>aa7 em q fun z ρ1 e1 em=>by
 refine⟨tg,F,ρ,z,ρ1,G,e1,fun H' F' G' x =>?_⟩
 cases z with
 | true=>exact iteT ⟨tg,F',ρ1,fl,ρ',G',em,q.back x⟩
 | false=>exact iteF ⟨tg,F',ρ1,fl,ρ',G',em,q.back x⟩
def adb{α:Type}(m:M α):Sd:=dM m fun _ ρ=>some (.nx,ρ)
theorem ud{m:M Rv}(h:ER K X e m)(hs:swapsWith e none pos.line X.env=pure false:=by rfl):SV K X (.Expr e pos) (adb m):=SV.mk fun hk=>PS.imp (asy (h hk) hs) fun E σ H ⟨tg,F,ρ,fl,ρ',G,em,q⟩=>aa7 em q fun r ρ1 e1 em=>by
 cases em;exact⟨tg,F,ρ,r,_,G,e1,fun v H' F' G' x rr=>q σ H' F' G' x⟩
section
variable{tg:Nat->Addr}{F H:Hp}{ρ:Ro}{σ:L2.St}
theorem ai5{i:Nat}{s:Sl}{v:V}{b:Addr}(hl:ρ.length=σ.length)(h:Own (List.set ρ i s) (List.set σ i (some v)) b):Own ρ σ b∨((∃t l,s=.own t l)/\v=.ref b):=by
 obtain⟨j,⟨t,l,e⟩,q⟩:=h;rw[List.getElem?_set] at e q
 by_cases hj:i=j
 ·subst hj;rw[if_pos rfl] at e q;split at e
  ·rename_i hi;rw[if_pos (by rw[<-hl];exact hi)] at q
   cases e;cases q;exact .inr ⟨⟨t,l,rfl⟩,rfl⟩
  ·cases e
 ·rw[if_neg hj] at e q;exact .inl ⟨j,⟨t,l,e⟩,q⟩
theorem Good.put(G:Good K tg F H ρ σ){s:Sl}{v:V}(i:Nat)(h:SlOk K tg F H s (some v))(n:∀t l a,s=.own t l->v=.ref a->¬Own ρ σ a):Good K tg F H (List.set ρ i s) (List.set σ i (some v)) where
 sub:=G.sub
 len:=by rw[List.length_set,List.length_set];exact G.len
 sl:=fun j s' o e q=>by
  rw[List.getElem?_set] at e q
  by_cases hj:i=j
  ·subst hj;rw[if_pos rfl] at e q;split at e
   ·rename_i hi;rw[if_pos (by rw[<-G.len];exact hi)] at q
    cases e;cases q;exact h
   ·cases e
  ·rw[if_neg hj] at e q;exact G.sl j s' o e q
 inj:=fun j k a ⟨⟨t,l,e⟩,q⟩ ⟨⟨t',l',e'⟩,q'⟩=>by
  rw[List.getElem?_set] at e q e' q'
  by_cases hj:i=j
  ·subst hj;rw[if_pos rfl] at e q
   by_cases hk:i=k
   ·exact hk
   ·rw[if_neg hk] at e' q';split at e
    ·rename_i hi;rw[if_pos (by rw[<-G.len];exact hi)] at q
     cases e;cases q;exact absurd ⟨k,⟨t',l',e'⟩,q'⟩ (n t l a rfl rfl)
    ·cases e
  ·rw[if_neg hj] at e q
   by_cases hk:i=k
   ·subst hk;rw[if_pos rfl] at e' q';split at e'
    ·rename_i hi;rw[if_pos (by rw[<-G.len];exact hi)] at q'
     cases e';cases q';exact absurd ⟨j,⟨t,l,e⟩,q⟩ (n t' l' a rfl rfl)
    ·cases e'
   ·rw[if_neg hk] at e' q';exact G.inj j k a ⟨⟨t,l,e⟩,q⟩ ⟨⟨t',l',e'⟩,q'⟩
def Rv.sl:Rv->Sl
 | .v d=>.val d
 | .fr l=>.own none l
 | .tf _ _=>.emp
theorem Good.store{F0 H0:Hp}{O:Addr->Prop}(G:Good K tg F H ρ σ)(x:Ext O (Own ρ σ) F0 H0 F H){r:Rv}{v:V}(i:Nat)(h:relR K r v H0 O F H (Own ρ σ)) :
  Good K tg F H (List.set ρ i r.sl) (List.set σ i (some v))/\Ext O (Own (List.set ρ i r.sl) (List.set σ i (some v))) F0 H0 F H:=by
 cases r with
 | v d =>
  refine⟨G.put i ⟨v,rfl,h⟩ (fun t l a e=>by cases e),x.sub,x.new,x.keep,fun b w =>?_,x.there⟩
  rcases ai5 G.len w with w | ⟨⟨t,l,e⟩,_⟩
  ·exact x.own b w
  ·cases e
 | fr l =>
  obtain⟨a,vs,rfl,ha,hf,hh,hl,hn⟩:=h;refine⟨G.put i ⟨a,vs,rfl,hf,hh,hl,fun k e=>by cases e⟩ (fun t l' b _ e2=>by cases e2;exact hn),x.sub,x.new,x.keep,fun b w =>?_,x.there⟩
  rcases ai5 G.len w with w | ⟨_,e⟩
  ·exact x.own b w
  ·cases e;exact ha.symm
 | tf d l =>
  refine⟨G.put i trivial (fun t l a e=>by cases e),x.sub,x.new,x.keep,fun b w =>?_,x.there⟩
  rcases ai5 G.len w with w | ⟨⟨t,l,e⟩,_⟩
  ·exact x.own b w
  ·cases e
end
def dSet(i:Nat)(m:M Rv):Sd:=dM m fun r ρ=>some (.nx,List.set ρ i r.sl)
theorem f9{i:Nat}{x:Str}{m:M Rv}(hN:X.N.Nodup)(hi:X.N[i]? = some x)(hx:Loc X.env.scope x)(h:ER K X e m)(hs:swapsWith e (some (.Name x p)) pos.line X.env=pure false:=by rfl)(hf:X.fn x=true∨X.env.scope.names.lookup x=some .local:=by first | exact .inl rfl | exact .inr rfl | assumption) :
  SV K X (.Assign [.Name x p] e pos) (dSet i m):=SV.mk fun hk=>PS.imp (avm hN hi hx (h hk) hs hf) fun E σ H ⟨tg,F,ρ,fl,ρ',G,em,q⟩=>aa7 em q fun r ρ1 e1 em=>by
 cases em;refine⟨tg,F,ρ,r,ρ1,G,e1,fun v H' F' G' x rr =>?_⟩
 obtain⟨G2,x2⟩:=G'.store x i rr;exact q _ H' F' G2 x2
def TGd(K:Fg9)(b:D->Ro->Option Ro):TG:=fun v σ H Q=>∃tg F ρ d ρ',Good K tg F H ρ σ/\Is K F d v/\b d ρ=some ρ'/\∀σ' H' F',Good K tg F' H' ρ' σ'->Ext (Own ρ σ) (Own ρ' σ') F H F' H'->Q σ' H'
structure GV (K:Fg9) (X:Cx) (e:Expr) (b:D->Ro->Option Ro):Prop where
 go:X.K=K->PG X e (TGd K b)
instance {K:Fg9} {X:Cx} {e:Expr} {b:D->Ro->Option Ro}:CoeFun (GV K X e b) fun _=>X.K=K->PG X e (TGd K b):=⟨GV.go⟩
theorem PG.imp{t t':TG}(h:PG X e t)(w:∀v σ H Q,t' v σ H Q->t v σ H Q):PG X e t':=fun jv s σ H v u Q I r q=>h jv s σ H v u Q I r (w v σ H Q q)
def du(i:Nat):D->Ro->Option Ro:=fun d ρ=>some (List.set ρ i (.val d))
theorem Good.storeV{tg:Nat->Addr}{F H:Hp}{ρ:Ro}{σ:L2.St}(G:Good K tg F H ρ σ){d:D}{v:V}(i:Nat)(h:Is K F d v):Good K tg F H (List.set ρ i (.val d)) (List.set σ i (some v))/\Ext (Own ρ σ) (Own (List.set ρ i (.val d)) (List.set σ i (some v))) F H F H :=
 G.store (r:=.v d) (Ext.refl _ _ _) i h
theorem fc{i:Nat}{x:Str}(hN:X.N.Nodup)(hi:X.N[i]? = some x)(hx:Loc X.env.scope x)(hf:X.fn x=true∨X.env.scope.names.lookup x=some .local:=by first | exact .inl rfl | exact .inr rfl | assumption):GV K X (.Name x pos) (du i):=GV.mk fun _=>PG.imp (as9 hN hi hx hf) fun v σ H Q z9=>by
 obtain⟨tg,F,ρ,d,ρ',G,h,em,q⟩:=z9;cases em;obtain⟨G2,x2⟩:=G.storeV i h;exact q _ H F G2 x2
def TGsd(K:Fg9)(b:List D->Ro->Option Ro):TGs:=fun vs σ H Q=>∃tg F ρ ds ρ',Good K tg F H ρ σ/\IsL K F ds vs/\b ds ρ=some ρ'/\∀σ' H' F',Good K tg F' H' ρ' σ'->Ext (Own ρ σ) (Own ρ' σ') F H F' H'->Q σ' H'
structure GVs (K:Fg9) (X:Cx) (es:List Expr) (b:List D->Ro->Option Ro):Prop where
 go:X.K=K->PGs X es (TGsd K b)
instance {K:Fg9} {X:Cx} {es:List Expr} {b:List D->Ro->Option Ro}:CoeFun (GVs K X es b) fun _=>X.K=K->PGs X es (TGsd K b):=⟨GVs.go⟩
theorem PGs.imp{t t':TGs}(h:PGs X es t)(w:∀v σ H Q,t' v σ H Q->t v σ H Q):PGs X es t':=fun jv s σ H v u Q I r q=>h jv s σ H v u Q I r (w v σ H Q q)
def bNil:List D->Ro->Option Ro:=fun ds ρ=>match ds with
 | []=>some ρ
 | _=>none
def su(b:D->Ro->Option Ro)(bs:List D->Ro->Option Ro):List D->Ro->Option Ro:=fun ds ρ=>match ds with
 | d::r=>(b d ρ).bind (bs r)
 | _=>none
theorem ac4:GVs K X [] bNil:=GVs.mk fun _=>PGs.imp as8 fun vs σ H Q z9=>by
 obtain⟨tg,F,ρ,ds,ρ',G,h,em,q⟩:=z9;cases ds with
 | nil=>cases em;cases h;exact⟨rfl,q σ H F G (Ext.refl _ _ _)⟩
 | cons _ _=>cases em
theorem km{b:D->Ro->Option Ro}{bs:List D->Ro->Option Ro}(h1:GV K X e b)(h2:GVs K X es bs)(hs:(assignEach (e::es) X.env).map (·.2)=assign e X.env::(assignEach es X.env).map (·.2):=by rfl):GVs K X (e::es) (su b bs):=GVs.mk fun hk=>PGs.imp (apw (h1 hk) (h2 hk) hs) fun vs σ H Q z9=>by
 obtain⟨tg,F,ρ,ds,ρ',G,h,em,q⟩:=z9;cases h with
 | nil=>cases em
 | @cons d v ds vs hd ht =>
  have em:(b d ρ).bind (bs ds)=some ρ':=em;cases e1:b d ρ with
  | none=>rw[e1] at em;cases em
  | some ρ1 =>
   rw[e1] at em;exact⟨v,vs,rfl,tg,F,ρ,d,ρ1,G,hd,e1,fun σ' H' F' G' x=>⟨tg,F',ρ1,ds,ρ',G',ht.mono x.sub,em,fun σ2 H2 F2 G2 x2=>q σ2 H2 F2 G2 (x.trans x2)⟩⟩
def bTup(n:Nat)(bs:List D->Ro->Option Ro):D->Ro->Option Ro:=fun d ρ=>match d with
 | .tup l=>if l.length=n then bs l ρ else none
 | _=>none
theorem aft{k n:Nat}{bs:List D->Ro->Option Ro}(hc:X.calm=true)(h:GVs K X es bs)(hn:(assignEach es X.env).length=n:=by rfl)(hst:(assignEach es X.env).findIdx? (·.1)=none:=by rfl):GV K X (.Tuple es k pos) (bTup n bs):=GV.mk fun hk=>PG.imp (avr hc (h hk) hn hst) fun v σ H Q z9=>by
 obtain⟨tg,F,ρ,d,ρ',G,hd,em,q⟩:=z9;cases hd with
 | @tup a vs ds e hl =>
  have em:(if ds.length=n then bs ds ρ else none)=some ρ':=em
  split at em
  ·rename_i hz;exact⟨a,vs,rfl,SqT.of (G.sub _ _ e),by rw[<-hl.length];exact hz,tg,F,ρ,ds,ρ',G,hl,em,q⟩
  ·cases em
 | _=>cases em
def dAsg(m:M D)(b:D->Ro->Option Ro):Sd:=dM m fun d ρ=>(b d ρ).map fun ρ'=>(.nx,ρ')
theorem ark{m:M D}{b:D->Ro->Option Ro}(h:EV K X e m)(hg:GV K X tgt b)(hs:swapsWithSole [tgt] e pos.line X.env=pure false:=by rfl)(hw:swappedStores [tgt] e X.env=pure none:=by rfl)
  (h1:(assignEach [tgt] X.env).map (·.2)=[assign tgt X.env]:=by rfl):SV K X (.Assign [tgt] e pos) (dAsg m b):=SV.mk fun hk=>PS.imp (ars (h hk) (hg hk) hs hw h1) fun E σ H ⟨tg,F,ρ,fl,ρ',G,em,q⟩=>aa7 em q fun d ρ1 e1 em=>by
 refine⟨tg,F,ρ,d,ρ1,G,e1,fun v H' F' G' x r =>?_⟩
 cases e2:b d ρ1 with
 | none=>rw[e2] at em;cases em
 | some ρ2 =>
  rw[e2] at em;cases em;exact⟨tg,F',ρ1,d,_,G',r,e2,fun σ2 H2 F2 G2 x2=>q σ2 H2 F2 G2 (x.trans x2)⟩
theorem Good.mut{tg:Nat->Addr}{F H:Hp}{ρ:Ro}{σ:L2.St}(G:Good K tg F H ρ σ){i:Nat}{t:Option Nat}{l l':List D}{a:Addr}{ys:List V}(e:(ρ:List Sl)[i]? = some (.own t l))(q:σ[i]? = some (some (.ref a)))(h:IsL K F l' ys) :
  Good K tg F (upd H a (.lst ys)) (List.set ρ i (.own t l')) σ/\Ext (Own ρ σ) (Own (List.set ρ i (.own t l')) σ) F H F (upd H a (.lst ys)):=by
 obtain⟨a',vs,e1,hf,hh,hl,ht⟩:=G.sl i _ _ e q;cases e1;have ow:∀j b,Owns (List.set ρ i (.own t l')) σ j b->Owns ρ σ j b:=fun j b ⟨⟨t2,l2,e2⟩,q2⟩=>by
  rw[List.getElem?_set] at e2
  by_cases hj:i=j
  ·subst hj;exact⟨⟨t,l,e⟩,q2⟩
  ·rw[if_neg hj] at e2;exact⟨⟨t2,l2,e2⟩,q2⟩
 have me:Own ρ σ a:=⟨i,⟨t,l,e⟩,q⟩;refine⟨⟨fun b o z =>?_,by rw[List.length_set];exact G.len,fun j s o e2 q2 =>?_,fun j k b w1 w2=>G.inj j k b (ow _ _ w1) (ow _ _ w2)⟩,Same.refl F,fun _ _ z=>.inl z,fun b o z n =>?_,fun b ⟨j,w⟩=>.inl ⟨j,ow j b w⟩,fun b z =>?_⟩
 ·have hb:b≠a:=fun z2=>by
   subst z2;rw[hf] at z;cases z
  rw[cj hb];exact G.sub b o z
 ·rw[List.getElem?_set] at e2
  by_cases hj:i=j
  ·subst hj;rw[if_pos rfl] at e2;split at e2
   ·cases e2;rw[q] at q2;cases q2;exact⟨a,ys,rfl,hf,gb,h,ht⟩
   ·cases e2
  ·rw[if_neg hj] at e2;have z:=G.sl j s o e2 q2;cases s with
   | emp=>trivial
   | val d=>exact z
   | box c fs =>
    obtain⟨b,C,dx,fvs,e1,e2,e3,e4⟩:=z;have hb:b≠a:=fun z2=>by
     subst z2;rw[e3] at hh;cases hh
    exact⟨b,C,dx,fvs,e1,e2,by rw[cj hb];exact e3,e4⟩
   | own t2 l2 =>
    obtain⟨b,ws,e3,hf3,hh3,hl3,ht3⟩:=z;have hb:b≠a:=fun z2=>by
     subst z2;exact hj (G.inj i j b ⟨⟨t,l,e⟩,q⟩ ⟨⟨t2,l2,e2⟩,by rw[q2,e3]⟩)
    exact⟨b,ws,e3,hf3,by rw[cj hb];exact hh3,hl3,ht3⟩
 ·have hb:b≠a:=fun z2=>n (z2▸me)
  rw[cj hb];exact z
 ·by_cases hb:b=a
  ·subst hb;rw[gb] at z;cases z
  ·rw[cj hb] at z;exact z
def mOwn(i:Nat):M (List D):=fun ρ=>match ρ[i]? with
 | some (.own _ l)=>some (.ok l,ρ)
 | _=>none
theorem aj8{tg:Nat->Addr}{F H:Hp}{ρ ρ':Ro}{σ:L2.St}(G:Good K tg F H ρ σ){i:Nat}{l:List D}(em:mOwn i ρ=some (.ok l,ρ')):ρ'=ρ/\∃t a xs,(ρ:List Sl)[i]? = some (.own t l)/\σ[i]? = some (some (.ref a))/\H a=some (.lst xs)/\IsL K F l xs:=by
 unfold mOwn at em;split at em
 ·rename_i t l' e';cases em;obtain⟨o,ho,a,vs,rfl,hf,hh,hl,_⟩:=G.at e';exact⟨rfl,t,a,vs,e',ho,hh,hl⟩
 ·cases em
def aek(i:Nat)(l':List D):M Unit:=fun ρ=>match ρ[i]? with
 | some (.own t _)=>some (.ok (),List.set ρ i (.own t l'))
 | _=>none
def mMut(i:Nat)(g:List D->List D->Option (D×List D))(ms:M (List D)):M D:=(mOwn i).bind fun _=>ms.bind fun ds=>(mOwn i).bind fun l=>(lift (g l ds)).bind fun r=>(aek i r.2).bind fun _=>ret r.1
def MutD(K:Fg9)(r:V->List V->Hp->VK->Prop)(g:List D->List D->Option (D×List D)):Prop :=
 ∀(F H:Hp) (a:Addr) (xs vs:List V) (l ds:List D) (d:D) (l':List D) (Q:VK),Same F H->H a=some (.lst xs)->xs.length<=capS->IsL K F l xs->IsL K F ds vs->g l ds=some (d,l')->(∀v ys,Is K F d v->IsL K F l' ys->Q v (upd H a (.lst ys)))->r (.ref a) vs H Q
theorem am6{tg:Nat->Addr}{F H:Hp}{ρ ρ2:Ro}{σ:L2.St}(G:Good K tg F H ρ σ){i:Nat}{l':List D}{u:Unit}{a:Addr}{ys:List V}(e:aek i l' ρ=some (.ok u,ρ2))(q:σ[i]? = some (some (.ref a)))(h:IsL K F l' ys) :
  Good K tg F (upd H a (.lst ys)) ρ2 σ/\Ext (Own ρ σ) (Own ρ2 σ) F H F (upd H a (.lst ys)):=by
 unfold aek at e;split at e
 ·rename_i t l e';cases e;exact G.mut e' q h
 ·cases e
theorem aie{i:Nat}{name:Str}{id:String}{r:V->List V->Hp->VK->Prop}{g:List D->List D->Option (D×List D)}{ms:M (List D)}{apos cpos:Pos}(hr:MutD K r g)(slot:Slot "list" name id)(hty:typeOf (.builtin id)=pure (.type "method_descriptor"))(hm:MtR X id r)(ho:PE X a (tVar i))(ha:ED K X (e::es) ms)
  (hbase:attributeBase a name X.env (eval a X.env)=eval a X.env:=by rfl)
  (hfew:((backTo cpos (starEach (e::es) X.env)).all (fun x => !x.1)&&(backToKw cpos (keywordEach [] X.env)).all (fun x=>x.1.isSome)
   && decide ((e::es).length+([]:List Keyword).length+(if ([]:List Keyword).isEmpty then 0 else 1) < 30))=true:=by rfl)
  (hline:(apos.endLine==cpos.line)=true:=by rfl) (hs:starEach (e::es) X.env=(false,eval e X.env)::starEach es X.env:=by rfl) (hplain:(backTo cpos (starEach es X.env)).any (·.1)=false:=by rfl) :
  EV K X (.Call (.Attribute a name apos) (e::es) [] cpos) (mMut i g ms):=EV.mk fun hk=>by
 intro jv s σ H Q I ⟨tg,F,ρ,d,ρ',G,em,q⟩;obtain⟨l0,ρ0,e0,em1⟩:=bh em;obtain⟨ds,ρ1,e1,em2⟩:=bh em1;obtain⟨l,ρ2,e2,em3⟩:=bh em2;obtain⟨x,ρ3,e3,em4⟩:=bh em3;obtain⟨u,ρ4,e4,em5⟩:=bh em4;obtain⟨rfl,rfl⟩:=jk em5;obtain⟨eg,rfl⟩:=jc e3;obtain⟨rfl,t0,b,xs0,es0,hv,hh0,hl0⟩:=aj8 G e0;refine ay7 (r:=fun x vs H Q=>(∀b xs,x=.ref b->H b=some (.lst xs)->xs.length<=capS)->r x vs H Q) PySem.F.plainAttrs_list slot hty (fun jv s σ H x xs v us Q I rx rv h=>hm jv s σ H x xs v us Q I rx rv (h fun b xs _ hb =>?_)) ho (ha hk) hbase hfew hline hs hplain jv s σ H Q I ?_
 ·obtain⟨z,_⟩:=I.lstM hb;rw[sizeLine_eq] at z;exact z
 refine⟨_,hv,.inl ⟨rfl,_,SqL.of hh0⟩,tg,F,ρ0,ds,ρ1,G,e1,fun vs H1 F1 G1 x1 r1 cap =>?_⟩
 obtain⟨rfl,t,a',xs,es',hv',hh,hl⟩:=aj8 G1 e2;rw[hv] at hv';cases hv';refine hr F1 H1 _ xs vs l ds x.1 x.2 Q G1.sub hh (cap _ _ rfl hh) hl r1 eg fun w ys iw il =>?_
 obtain⟨G2,x2⟩:=am6 G1 e4 hv il;exact q w _ F1 G2 (x1.trans x2) iw
def abw(l ds:List D):Option (D×List D):=match ds with
 | [d]=>if l.length < capS then some (.non,l++[d]) else none
 | _=>none
theorem wu:MutD K amt abw:=by
 intro F H a xs vs l ds d l' Q g hh hc hl hd eg q
 match ds,eg with
 | [d1],eg =>
  have eg:(if l.length < capS then some (D.non,l++[d1]) else none)=some (d,l'):=eg
  split at eg
  ·rename_i hz;cases eg;cases hd with
   | cons h t =>
    cases t;exact⟨a,xs,_,rfl,rfl,hh,by rw[sizeLine_eq,<-hl.length];exact hz,q _ _ .non (hl.append (.cons h .nil))⟩
  ·cases eg
def dSub(i:Nat)(mi m:M D):Sd:=dM m fun d=>dM (mOwn i) fun _=>dM mi fun k=>dM (mOwn i) fun l=>dM (lift ((asI k).bind (ixN l.length))) fun j=>dM (aek i (l.set j d)) fun _=>dNx
theorem ame{i:Nat}{mi m:M D}(h:EV K X e m)(ho:PE X a (tVar i))(hi:EV K X b mi)(hs:swapsWithSole [.Subscript a b p] e pos.line X.env=pure false:=by rfl)(hw:swappedStores [.Subscript a b p] e X.env=pure none:=by rfl)
  (h1:(assignEach [.Subscript a b p] X.env).map (·.2)=[assign (.Subscript a b p) X.env]:=by rfl)
  (ha:∀v,assign (.Subscript a b p) X.env v=(do
   let ov <-holding [v] (eval a X.env)
   let iv <-holding [v,ov] (eval b X.env)
   standAt p
   holding [v,ov,iv] (setItem ov iv v)
   release [v,ov,iv] []):=by intro _;rfl):SV K X (.Assign [.Subscript a b p] e pos) (dSub i mi m):=SV.mk fun hk=>PS.imp (ars (h hk) (avs ho (hi hk) set_list ha) hs hw h1) fun E σ H ⟨tg,F,ρ,fl,ρ',G,em,q⟩ =>
 aa7 em q fun d ρ1 e1 em=>aa7 em q fun l0 ρ0 e0 em=>aa7 em q fun k ρ2 e2 em=>aa7 em q fun l ρ3 e3 em=>aa7 em q fun j ρ4 e4 em=>aa7 em q fun u ρ5 e5 em=>by
 cases em;obtain⟨e6,rfl⟩:=jc e4;refine⟨tg,F,ρ,d,ρ1,G,e1,fun v H1 F1 G1 x1 r1 =>?_⟩
 obtain⟨rfl,t0,a0,xs0,es0,hv,hh0,hl0⟩:=aj8 G1 e0;refine⟨_,hv,tg,F1,_,k,ρ2,G1,e2,fun w H2 F2 G2 x2 r2 =>?_⟩
 obtain⟨rfl,t,a1,xs,es1,hv',hh,hl⟩:=aj8 G2 e3;rw[hv] at hv';cases hv';cases ek:asI k with
 | none=>rw[ek] at e6;cases e6
 | some n =>
  rw[ek] at e6;obtain rfl:=ao4 ek;cases r2;obtain⟨G3,x3⟩:=am6 G2 e5 hv (hl.set (r1.mono x2.sub) j);exact⟨_,xs,n,j,rfl,rfl,hh,by rw[<-hl.length];exact e6,q _ _ F2 G3 ((x1.trans x2).trans x3)⟩
def dAug(f:Int->Int->Int)(i:Nat)(m:M D):Sd:=dM (mVar i) fun x=>dM m fun y=>dM (lift ((asI x).bind fun n=>(asI y).map fun k=>D.int (f n k))) fun z ρ=>some (.nx,List.set ρ i (.val z))
theorem au4{f:Int->Int->Int}{op:Operator}{i:Nat}{x:Str}{m:M D}(hN:X.N.Nodup)(hi:X.N[i]? = some x)(hx:Loc X.env.scope x)(h:EV K X e m)(ho:PIp X op (ipI f))(hf:X.fn x=true∨X.env.scope.names.lookup x=some .local:=by first | exact .inl rfl | exact .inr rfl | assumption) :
  SV K X (.AugAssign (.Name x p) op e pos) (dAug f i m):=SV.mk fun hk=>PS.imp (avp hN hi hx (h hk) ho hf) fun E σ H ⟨tg,F,ρ,fl,ρ',G,em,q⟩=>aa7 em q fun d ρ1 e1 em=>aa7 em q fun d2 ρ2 e2 em=>aa7 em q fun z ρ3 e3 em=>by
 cases em;obtain⟨e4,rfl⟩:=jc e3;cases ed:asI d with
 | none=>rw[ed] at e4;cases e4
 | some n =>
  rw[ed] at e4;obtain rfl:=ao4 ed;cases ed2:asI d2 with
  | none=>rw[ed2] at e4;cases e4
  | some k =>
   rw[ed2] at e4;obtain rfl:=ao4 ed2;cases e4;unfold mVar at e1;split at e1
   ·rename_i d' es';cases e1;obtain⟨o,ho',v,rfl,hv⟩:=G.at es';cases hv;refine⟨_,ho',tg,F,ρ,_,_,G,e2,fun y H1 F1 G1 x1 r1 =>?_⟩
    cases r1;obtain⟨G2,x2⟩:=G1.storeV i (Is.int (f n k));exact⟨n,k,rfl,rfl,q _ H1 F1 G2 (x1.trans x2)⟩
   ·cases e1
   ·cases e1
end
section
variable{K:Fg9}{X:Cx}{e a b c tgt iter elt:Expr}{es:List Expr}{pos p p2:Pos}{st:Stmt}{ss:List Stmt}
theorem _root_.Mn.ItOf.imp{J:It}{xs:List V}{S S':Hp->Prop}(Z:ItOf J xs S)(h:∀H,S' H->S H):ItOf J xs S':=⟨fun i H q=>Z.go i H (h H q),fun i H x H' q=>Z.yld i H x H' (h H q),fun i H q=>Z.stop i H (h H q)⟩
def Alt(K:Fg9)(F:Hp)(d:D)(x:V)(H H':Hp):Prop:=(H'=H/\Is K F d x)∨∃q vs ds,H q=none/\x=.ref q/\H'=upd H q (.tup vs)/\d=.tup ds/\IsL K F ds vs
structure ItD (K:Fg9) (J:It) (l:List D) (F:Hp):Prop where
 go:∀i H,Same F H->i < l.length->J.go i H
 yld:∀i H x H' d,Same F H->J.yld i H x H'->l[i]? = some d->Alt K F d x H H'
 stop:∀H,Same F H->J.stop l.length H
theorem ItD.of{J:It}{l:List D}{vs:List V}{F:Hp}(il:IsL K F l vs)(Z:ItOf J vs fun H2=>Same F H2):ItD K J l F where
 go:=fun i H s hi=>Z.go i H s (by rw[<-il.length];exact hi)
 yld:=fun i H x H' d s y hd=>by
  obtain⟨v,hv,iv⟩:=il.get hd;obtain⟨e,z⟩:=Z.yld i H x H' s y;have:=z (List.getElem?_eq_some_iff.mp hv).1;rw[hv] at this;cases this;exact .inl ⟨e,iv⟩
 stop:=fun H s=>Z.stop _ H s (by rw[<-il.length];exact Nat.le_refl _)
theorem akz{tg:Nat->Addr}{O:Addr->Prop}{F H F1 F2 H2 H3:Hp}{ρ2:Ro}{σ2:L2.St}{d:D}{x:V}(G2:Good K tg F2 H2 ρ2 σ2)(x2:Ext O (Own ρ2 σ2) F H F2 H2)(s2:Same F1 F2)(a:Alt K F1 d x H2 H3) :
  ∃F3,Good K tg F3 H3 ρ2 σ2/\Ext O (Own ρ2 σ2) F H F3 H3/\Same F1 F3/\Is K F3 d x/\Ext (Own ρ2 σ2) (Own ρ2 σ2) F2 H2 F3 H3:=by
 rcases a with⟨rfl,id⟩ | ⟨q,vs,ds,hq,rfl,rfl,rfl,il⟩
 ·exact⟨F2,G2,x2,s2,id.mono s2,Ext.refl _ _ _⟩
 ·have z:=G2.newX hq (.tup vs);exact⟨_,G2.new hq _,x2.trans z,s2.trans z.sub,.tup gb (il.mono (s2.trans z.sub)),z⟩
theorem aua{J:It}{l:List D}{F:Hp}(Z:ItD K J l F){g:TG}{tb:TS}{D':Ends}{σ:L2.St}{H:Hp}(Pv:Nat->L2.St->Hp->Prop)(h0:Pv 0 σ H)(hl:∀i σ H,i<=l.length->Pv i σ H->Same F H)
  (hs:∀i d x σ H H',l[i]? = some d->Pv i σ H->Alt K F d x H H'->g x σ H' fun σ2 H2=>tb { D' with nx:=Pv (i+1),ct:=Pv (i+1),bk:=D'.nx } σ2 H2) (hd:∀σ H,Pv l.length σ H->D'.nx σ H) :
  ∃W:Nat->Nat->L2.St->Hp->Prop,(∃m,W 0 m σ H)/\∀i m σ H,W i m σ H ->
   (J.stop i H/\D'.nx σ H)∨(J.go i H/\∃N:L2.St->Hp->Prop,(∀σ' H',N σ' H'->∃m',m' < m/\W (i+1) m' σ' H')/\∀x H',J.yld i H x H'->g x σ H' fun σ2 H2=>tb { D' with nx:=N,ct:=N,bk:=D'.nx } σ2 H2):=by
 refine⟨fun i m σ H=>m=l.length - i/\i<=l.length/\Pv i σ H,⟨l.length,by simp,Nat.zero_le _,h0⟩,?_⟩
 rintro i m σ H ⟨rfl,hi,p⟩
 have q:=hl i σ H hi p
 by_cases hlt:i < l.length
 ·exact .inr ⟨Z.go i H q hlt,Pv (i+1),fun σ' H' p'=>⟨l.length - (i+1),by omega,rfl,hlt,p'⟩,fun x H' y=>hs i _ x σ H H' (List.getElem?_eq_getElem hlt) p (Z.yld i H x H' _ q y (List.getElem?_eq_getElem hlt))⟩
 ·have e:i=l.length:=by omega
  subst e;exact .inl ⟨Z.stop H q,hd σ H p⟩
theorem aq6{J:It}{l:List D}{F:Hp}(Z:ItD K J l F){d:Addr}{g:TG}{ti:TT}{te:TE}{Q:VK}{σ0:L2.St}{H1:Hp}(Pv:Nat->List V->L2.St->Hp->Prop)(h0:Pv 0 [] σ0 (upd H1 d (.lst [])))
  (hl:∀i ys σ H,i<=l.length->Pv i ys σ H->Same F H/\H d=some (.lst ys))
  (hs:∀i e x ys σ H H' (M:List V->L2.St->Hp->Prop),l[i]? = some e->Pv i ys σ H->Alt K F e x H H'->(∀ys' σ' H',Pv (i+1) ys' σ' H'->M ys' σ' H') ->
   g x σ H' fun σ4 H4=>ti σ4 H4 fun b H5=>if b=true then te σ4 H5 fun y H6=>H6 d=some (.lst ys)/\ys.length < sizeLine/\M (ys++[y]) σ4 (upd H6 d (.lst (ys++[y]))) else M ys σ4 H5)
  (hd:∀ys σ H,Pv l.length ys σ H->Q (.ref d) H):axp J g ti te Q d σ0 H1:=by
 refine⟨fun i m ys σ H=>m=l.length - i/\i<=l.length/\Pv i ys σ H,⟨l.length,by simp,Nat.zero_le _,h0⟩,?_⟩
 rintro i m ys σ H ⟨rfl,hi,p⟩
 obtain⟨q,e⟩:=hl i ys σ H hi p;refine⟨e,?_⟩
 by_cases hlt:i < l.length
 ·exact .inr ⟨Z.go i H q hlt,fun x H' y=>hs i _ x ys σ H H' (fun ys' σ' H'=>∃m',m' < l.length - i/\(m'=l.length - (i+1)/\i+1<=l.length/\Pv (i+1) ys' σ' H')) (List.getElem?_eq_getElem hlt) p (Z.yld i H x H' _ q y (List.getElem?_eq_getElem hlt)) fun ys' σ' H' p'=>⟨l.length - (i+1),by omega,rfl,hlt,p'⟩⟩
 ·have e:i=l.length:=by omega
  subst e;exact .inl ⟨Z.stop H q,hd ys σ H p⟩
def TIt(K:Fg9)(m:M (List D)):TI:=fun σ H R=>∃tg F ρ l ρ',Good K tg F H ρ σ/\m ρ=some (.ok l,ρ')/\∀J H' F',Good K tg F' H' ρ' σ->Ext (Own ρ σ) (Own ρ' σ) F H F' H'->ItD K J l F'->R J H'
structure IT (K:Fg9) (X:Cx) (tgt iter:Expr) (m:M (List D)):Prop where
 go:X.K=K->PI X tgt iter (TIt K m)
instance {K:Fg9} {X:Cx} {tgt iter:Expr} {m:M (List D)}:CoeFun (IT K X tgt iter m) fun _=>X.K=K->PI X tgt iter (TIt K m):=⟨IT.go⟩
def u6(m:M D):M (List D):=m.bind fun d=>lift (itemsD d)
theorem aaf{m:M D}(h:EV K X iter m):IT K X tgt iter (u6 m):=IT.mk fun hk=>by
 intro jv s σ H R I ⟨tg,F,ρ,l,ρ',G,em,q⟩;obtain⟨d,ρ1,e1,em⟩:=bh em;obtain⟨e2,rfl⟩:=jc em;have h:=h hk;subst hk;cases d with
 | tup k =>
  cases e2;refine avq h jv s σ H R I ⟨tg,F,ρ,_,_,G,e1,fun v H' F' G' x r =>?_⟩
  cases r with
  | @tup a vs _ e hl=>exact⟨a,rfl,⟨vs,SqT.of (G'.sub _ _ e)⟩,q _ H' F' G' x (.of hl (aqn.imp fun H2 g=>SqT.of (g _ _ e)))⟩
 | lst k =>
  cases e2;refine amy h jv s σ H R I ⟨tg,F,ρ,_,_,G,e1,fun v H' F' G' x r =>?_⟩
  cases r with
  | @lst a vs _ e hl=>exact⟨a,rfl,⟨vs,SqL.of (G'.sub _ _ e)⟩,q _ H' F' G' x (.of hl (akh.imp fun H2 g=>SqL.of (g _ _ e)))⟩
 | kst k =>
  cases e2;refine amy h jv s σ H R I ⟨tg,F,ρ,_,_,G,e1,fun v H' F' G' x r =>?_⟩
  cases r with
  | @kst a vs _ e hl=>exact⟨a,rfl,⟨vs,L2.Same.seq G'.sub e⟩,q _ H' F' G' x (.of hl (akh.imp fun H2 g=>L2.Same.seq g e))⟩
 | _=>cases e2
def jx(lo:Int)(n:Nat):List D:=(List.range n).map fun i=>D.int (lo+(i:Nat))
theorem aj5{F:Hp}(lo:Int)(n:Nat):IsL K F (jx lo n) (ups lo n):=by
 have e1:jx lo n=((List.range n).map fun i=>lo+((i:Nat):Int)).map D.int:=by unfold jx;rw[List.map_map];rfl
 have e2:ups lo n=((List.range n).map fun i=>lo+((i:Nat):Int)).map V.int:=by unfold ups;rw[List.map_map];rfl
 rw[e1,e2];exact aa0 _
theorem axn{j:Int}(h:j.natAbs < 4611686018427387904) : -2 ^ 62<=j/\j < 2 ^ 62:=by
 have e:(2:Int) ^ 62=4611686018427387904:=by decide
 rw[e];omega
def yp:List D->Option (List D)
 | [.int j]=>if j.natAbs < 4611686018427387904 then some (jx 0 j.toNat) else none
 | _=>none
def mGet{α β:Type}(g:α->Option β)(m:M α):M β:=m.bind fun ds=>lift (g ds)
theorem aag{m:M (List D)}(hg:Gl X "range")(hm:X.mg "range" = none)(h:ED K X [a] m)(hs:starEach [a] X.env=[(false,eval a X.env)]:=by rfl):IT K X tgt (.Call (.Name "range" p) [a] [] pos) (mGet yp m):=IT.mk fun hk=>by
 intro jv s σ H R I ⟨tg,F,ρ,l,ρ',G,em,q⟩;obtain⟨ds,ρ1,e1,em⟩:=bh em;obtain⟨e2,rfl⟩:=jc em;refine amx hg hm (h hk) hs jv s σ H R I ⟨tg,F,ρ,ds,_,G,e1,fun vs H' F' G' x r =>?_⟩
 unfold yp at e2;split at e2
 ·split at e2
  ·rename_i j hc;cases e2;cases r with
   | cons h t =>
    cases t;cases h;exact⟨_,rfl,(axn hc).1,(axn hc).2,q _ H' F' G' x (.of (aj5 0 _) (aqo.imp fun _ _=>trivial))⟩
  ·cases e2
 ·cases e2
noncomputable def forD(b:D->Ro->Option Ro)(g:Sd):List D->Sd
 | [],ρ=>some (.nx,ρ)
 | d::ds,ρ=>match b d ρ with
  | none=>none
  | some ρ1=>match g ρ1 with
   | some (.nx,ρ2)=>forD b g ds ρ2
   | some (.cont,ρ2)=>forD b g ds ρ2
   | some (.brk,ρ2)=>some (.nx,ρ2)
   | some (.ret r,ρ2)=>some (.ret r,ρ2)
   | some (.exc x,ρ2)=>some (.exc x,ρ2)
   | none=>none
def dFor(m:M (List D))(b:D->Ro->Option Ro)(g:Sd):Sd:=dM m (forD b g)
theorem ad2{m:M (List D)}{b:D->Ro->Option Ro}{g:Sd}(hp:PassesOwn (model X.prog X.w) X.A X.env X.xe)(hc:X.calm=true)(hi:IT K X tgt iter m)(hg:GV K X tgt b)(hb:SVs K X ss g)
  (hs:∀x,foldedSetIterable iter X.env x=pure x:=by intro _;rfl):SV K X (.For tgt iter ss [] pos) (dFor m b g):=SV.mk fun hk=>PS.imp (avo hp hc (hi hk) (hg hk) (hb hk) hs) fun E σ H ⟨tg,F,ρ,fl,ρ',G,em,q⟩=>aa7 em q fun l ρ1 e1 em=>by
 refine⟨tg,F,ρ,l,ρ1,G,e1,fun J H1 F1 G1 x1 Z =>?_⟩
 refine aua Z (fun i σ2 H2=>∃F2 ρ2,Good K tg F2 H2 ρ2 σ2/\Ext (Own ρ σ) (Own ρ2 σ2) F H F2 H2/\Same F1 F2/\forD b g (l.drop i) ρ2=some (fl,ρ')) ⟨F1,ρ1,G1,x1,Same.refl _,em⟩ (fun i σ2 H2 _ ⟨F2,ρ2,G2,_,s2,_⟩=>s2.trans G2.sub) ?_ ?_
 ·rintro i d x σ2 H2' H2 hd ⟨F2',ρ2,G2',x2',s2',em2⟩ al
  obtain⟨F2,G2,x2,s2,id,_⟩:=akz G2' x2' s2' al;have hlt:i < l.length:=(List.getElem?_eq_some_iff.mp hd).1;have ed:l[i]=d:=(List.getElem?_eq_some_iff.mp hd).2;rw[List.drop_eq_getElem_cons hlt,ed] at em2;unfold forD at em2;split at em2
  ·cases em2
  ·rename_i ρ3 e3;refine⟨tg,F2,ρ2,d,ρ3,G2,id,e3,fun σ3 H3 F3 G3 x3 =>?_⟩
   have again:∀{ρ4:Ro},forD b g (l.drop (i+1)) ρ4=some (fl,ρ')->∀σ' H' F',Good K tg F' H' ρ4 σ'->Ext (Own ρ3 σ3) (Own ρ4 σ') F3 H3 F' H' ->
     ∃F2 ρ2,Good K tg F2 H' ρ2 σ'/\Ext (Own ρ σ) (Own ρ2 σ') F H F2 H'/\Same F1 F2/\forD b g (l.drop (i+1)) ρ2=some (fl,ρ') :=
    fun{ρ4} e4 σ' H' F' G' x'=>⟨F',ρ4,G',(x2.trans x3).trans x',(s2.trans x3.sub).trans x'.sub,e4⟩
   split at em2
   ·rename_i ρ4 e4;exact⟨tg,F3,ρ3,.nx,ρ4,G3,e4,again em2⟩
   ·rename_i ρ4 e4;exact⟨tg,F3,ρ3,.cont,ρ4,G3,e4,again em2⟩
   ·rename_i ρ4 e4;cases em2;exact⟨tg,F3,ρ3,.brk,_,G3,e4,fun σ' H' F' G' x'=>q σ' H' F' G' ((x2.trans x3).trans x')⟩
   ·rename_i r ρ4 e4;cases em2;exact⟨tg,F3,ρ3,.ret r,_,G3,e4,fun v σ' H' F' G' x' rr=>q v σ' H' F' G' ((x2.trans x3).trans x') (j4 (x2.trans x3) rr)⟩
   ·cases em2;exact(show False from q).elim
   ·cases em2
 ·rintro σ2 H2 ⟨F2,ρ2,G2,x2,s2,em2⟩
  rw[List.drop_eq_nil_of_le (Nat.le_refl _)] at em2;cases em2;exact q σ2 H2 F2 G2 x2
noncomputable def whileD(c:M Bool)(g:Sd):Nat->Sd
 | 0,_=>none
 | n+1,ρ=>match c ρ with
  | some (.ok true,ρ1)=>match g ρ1 with
   | some (.nx,ρ2)=>whileD c g n ρ2
   | some (.cont,ρ2)=>whileD c g n ρ2
   | some (.brk,ρ2)=>some (.nx,ρ2)
   | some (.ret r,ρ2)=>some (.ret r,ρ2)
   | some (.exc x,ρ2)=>some (.exc x,ρ2)
   | none=>none
  | some (.ok false,ρ1)=>some (.nx,ρ1)
  | some (.exc x,ρ1)=>some (.exc x,ρ1)
  | none=>none
theorem af5{m:M Bool}{g:Sd}(n:Nat)(hp:PassesOwn (model X.prog X.w) X.A X.env X.xe)(hc:ET K X c m)(hb:SVs K X ss g):SV K X (.While c ss [] pos) (whileD m g n):=SV.mk fun hk=>PS.imp (aps hp (hc hk) (hb hk)) fun E σ H z9=>by
 obtain⟨tg,F,ρ,fl,ρ',G,em,q⟩:=z9;refine⟨fun k σ2 H2=>∃F2 ρ2,Good K tg F2 H2 ρ2 σ2/\Ext (Own ρ σ) (Own ρ2 σ2) F H F2 H2/\whileD m g k ρ2=some (fl,ρ'),⟨n,F,ρ,G,Ext.refl _ _ _,em⟩,?_⟩
 rintro k σ2 H2 ⟨F2,ρ2,G2,x2,em2⟩
 cases k with
 | zero=>cases em2
 | succ k =>
  unfold whileD at em2;split at em2
  ·rename_i ρ3 e3;refine⟨tg,F2,ρ2,true,ρ3,G2,e3,fun H3 F3 G3 x3=>iteT ?_⟩
   refine⟨fun σ' H'=>∃F2 ρ2,Good K tg F2 H' ρ2 σ'/\Ext (Own ρ σ) (Own ρ2 σ') F H F2 H'/\whileD m g k ρ2=some (fl,ρ'),fun σ' H' h=>⟨k,Nat.lt_succ_self k,h⟩,?_⟩
   split at em2
   ·rename_i ρ4 e4;exact⟨tg,F3,ρ3,.nx,ρ4,G3,e4,fun σ' H' F' G' x'=>⟨F',ρ4,G',(x2.trans x3).trans x',em2⟩⟩
   ·rename_i ρ4 e4;exact⟨tg,F3,ρ3,.cont,ρ4,G3,e4,fun σ' H' F' G' x'=>⟨F',ρ4,G',(x2.trans x3).trans x',em2⟩⟩
   ·rename_i ρ4 e4;cases em2;exact⟨tg,F3,ρ3,.brk,_,G3,e4,fun σ' H' F' G' x'=>q σ' H' F' G' ((x2.trans x3).trans x')⟩
   ·rename_i r ρ4 e4;cases em2;exact⟨tg,F3,ρ3,.ret r,_,G3,e4,fun v σ' H' F' G' x' rr=>q v σ' H' F' G' ((x2.trans x3).trans x') (j4 (x2.trans x3) rr)⟩
   ·cases em2;exact(show False from q).elim
   ·cases em2
  ·rename_i ρ3 e3;cases em2;exact⟨tg,F2,ρ2,false,_,G2,e3,fun H3 F3 G3 x3=>iteF (q σ2 H3 F3 G3 (x2.trans x3))⟩
  ·cases em2;exact(show False from q).elim
  ·cases em2
end
def ah2(ρ:Ro)(i:Nat)(o:Option Nat)(d:Option D):Sl:=match o with
 | some j=>match ρ[j]? with
  | some (.val d)=>.val d
  | some (.own _ l)=>.own (some i) l
  | _=>.emp
 | none=>match d with
  | some d=>.val d
  | none=>.emp
def lend(ρ:Ro)(js:List (Option Nat))(ds:List (Option D)):Ro:=(List.zip js ds).mapIdx fun i p=>ah2 ρ i p.1 p.2
def okJs(ρ:Ro):List (Option Nat)->Bool
 | []=>true
 | none::r=>okJs ρ r
 | some j::r=>(match ρ[j]? with
  | some (.own _ _) => !r.contains (some j)
  | _=>true)&&okJs ρ r
theorem agq{ρ:Ro}:∀{js:List (Option Nat)} {i i' j:Nat} {t:Option Nat} {l:List D},okJs ρ js=true->js[i]? = some (some j)->js[i']? = some (some j)->ρ[j]? = some (.own t l)->i=i'
 | [],_,_,_,_,_,_,h,_,_=>by simp at h
 | o::r,0,0,_,_,_,_,_,_,_=>rfl
 | o::r,0,i'+1,j,t,l,hk,h,h',e=>by
  simp at h h';subst h;unfold okJs at hk;rw[e,Bool.and_eq_true] at hk;have:=List.mem_of_getElem? h';simp[this] at hk
 | o::r,i+1,0,j,t,l,hk,h,h',e=>by
  simp at h h';subst h';unfold okJs at hk;rw[e,Bool.and_eq_true] at hk;have:=List.mem_of_getElem? h;simp[this] at hk
 | none::r,i+1,i'+1,j,t,l,hk,h,h',e=>by
  rw[agq (js:=r) (i:=i) (i':=i') (j:=j) (by unfold okJs at hk;exact hk) (by simpa using h) (by simpa using h') e]
 | some k::r,i+1,i'+1,j,t,l,hk,h,h',e=>by
  unfold okJs at hk;rw[Bool.and_eq_true] at hk;rw[agq (js:=r) (i:=i) (i':=i') (j:=j) hk.2 (by simpa using h) (by simpa using h') e]
def putS(js:List (Option Nat))(ps:Ro)(j:Nat)(s:Sl):Sl:=match js.findIdx? (fun o=>o==some j) with
 | none=>s
 | some i=>match s with
  | .own t _=>match ps[i]? with
   | some (.own (some i') l')=>if i'=i then .own t l' else .emp
   | _=>.emp
  | s=>s
def putB(ρ:Ro)(js:List (Option Nat))(ps:Ro):Ro:=ρ.mapIdx fun j s=>putS js ps j s
def tgOf(τ:L2.St)(i:Nat):Addr:=match τ[i]? with
 | some (some (.ref a))=>a
 | _=>0
section
variable{K:Fg9}{tg:Nat->Addr}{F H F' H':Hp}{ρ ps:Ro}{σ τ:L2.St}{js:List (Option Nat)}{ds:List (Option D)}{O':Addr->Prop}
theorem ake{i:Nat}{s:Sl}(h:(lend ρ js ds:List Sl)[i]? = some s):∃o d,js[i]? = some o/\ds[i]? = some d/\s=ah2 ρ i o d:=by
 unfold lend at h;rw[List.getElem?_mapIdx] at h;cases e:(List.zip js ds)[i]? with
 | none=>rw[e] at h;cases h
 | some p =>
  rw[e] at h;cases h;rw[List.getElem?_zip_eq_some] at e;exact⟨p.1,p.2,e.1,e.2,rfl⟩
theorem aqd{i:Nat}{t:Option Nat}{l:List D}(h:(lend ρ js ds:List Sl)[i]? = some (.own t l)):∃j t',js[i]? = some (some j)/\ρ[j]? = some (.own t' l)/\t=some i:=by
 obtain⟨o,d,e1,e2,e3⟩:=ake h;unfold ah2 at e3;cases o with
 | none=>cases d <;> cases e3
 | some j =>
  simp only at e3;cases e:ρ[j]? with
  | none=>rw[e] at e3;cases e3
  | some s =>
   rw[e] at e3;cases s with
   | emp=>cases e3
   | val _=>cases e3
   | box _ _=>cases e3
   | own t' l'=>cases e3;exact⟨j,t',e1,e,rfl⟩
structure Lent (K:Fg9) (F:Hp) (σ τ:L2.St) (js:List (Option Nat)) (ds:List (Option D)):Prop where
 l1:τ.length=js.length
 l2:ds.length=js.length
 h1:∀(i j:Nat) (o:Option V),js[i]? = some (some j)->σ[j]? = some o->τ[i]? = some o
 h2:∀(i:Nat) (d:D),js[i]? = some none->ds[i]? = some (some d)->∃v,τ[i]? = some (some v)/\Is K F d v
theorem Good.σ_at(G:Good K tg F H ρ σ){j:Nat}{s:Sl}(e:(ρ:List Sl)[j]? = some s):∃o,σ[j]? = some o:=by
 obtain⟨o,h,_⟩:=G.at e;exact⟨o,h⟩
theorem aaz(G:Good K tg F H ρ σ)(L:Lent K F σ τ js ds){i:Nat}{a:Addr}(h:Owns (lend ρ js ds) τ i a):∃j,js[i]? = some (some j)/\Owns ρ σ j a:=by
 obtain⟨⟨t,l,e⟩,q⟩:=h;obtain⟨j,t',e1,e2,_⟩:=aqd e;obtain⟨o,ho⟩:=G.σ_at e2;have:=L.h1 i j o e1 ho;rw[q] at this;cases this;exact⟨j,e1,⟨t',l,e2⟩,ho⟩
theorem ah1(G:Good K tg F H ρ σ)(hk:okJs ρ js=true)(L:Lent K F σ τ js ds):Good K (tgOf τ) F H (lend ρ js ds) τ where
 sub:=G.sub
 len:=by
  unfold lend;rw[List.length_mapIdx,List.length_zip,L.l2,L.l1];omega
 sl:=fun i s o e q=>by
  obtain⟨oj,d,e1,e2,rfl⟩:=ake e;unfold ah2;cases oj with
  | none =>
   cases d with
   | none=>trivial
   | some d =>
    obtain⟨v,h1,h2⟩:=L.h2 i d e1 e2;rw[q] at h1;cases h1;exact⟨v,rfl,h2⟩
  | some j =>
   simp only;cases e3:ρ[j]? with
   | none=>trivial
   | some s =>
    obtain⟨o',ho,w⟩:=G.at e3;have:=L.h1 i j o' e1 ho;rw[q] at this;cases this;cases s with
    | emp=>trivial
    | val d=>exact w
    | box _ _=>trivial
    | own t l =>
     obtain⟨a,vs,rfl,hf,hh,hl,_⟩:=w;refine⟨a,vs,rfl,hf,hh,hl,fun k e =>?_⟩
     cases e;unfold tgOf;rw[q]
 inj:=fun i i' a w w'=>by
  obtain⟨j,e,v⟩:=aaz G L w;obtain⟨j',e',v'⟩:=aaz G L w';have:=G.inj j j' a v v';subst this;obtain⟨⟨t,l,z⟩,_⟩:=v;exact agq hk e e' z
structure Fin (K:Fg9) (F' H':Hp) (τ:L2.St) (ps:Ro) (O':Addr->Prop):Prop where
 at':∀(i:Nat) (l:List D),(ps:List Sl)[i]? = some (.own (some i) l)->O' (tgOf τ i)/\F' (tgOf τ i)=none/\∃vs,H' (tgOf τ i)=some (.lst vs)/\IsL K F' l vs
theorem agh{j:Nat}{s:Sl}(h:(putB ρ js ps:List Sl)[j]? = some s):∃s0:Sl,(ρ:List Sl)[j]? = some s0/\((∃t l,s0=Sl.own t l/\∃i:Nat,js[i]? = some (some j)/\((∃l',(ps:List Sl)[i]? = some (Sl.own (some i) l')/\s=Sl.own t l')∨s=Sl.emp)) ∨
  (s=s0/\∀t l,s0=Sl.own t l->∀i:Nat,js[i]? ≠ some (some j))):=by
 unfold putB at h;rw[List.getElem?_mapIdx] at h;cases e:(ρ:List Sl)[j]? with
 | none=>rw[e] at h;cases h
 | some s0 =>
  rw[e] at h;refine⟨s0,rfl,?_⟩;have h:putS js ps j s0=s:=Option.some.inj h;unfold putS at h;cases ei:js.findIdx? (fun o=>o==some j) with
  | none =>
   rw[ei] at h;have h:s0=s:=h;refine .inr ⟨h.symm,fun _ _ _ i z =>?_⟩
   rw[List.findIdx?_eq_none_iff] at ei;have:=ei _ (List.mem_of_getElem? z);simp at this
  | some i =>
   rw[ei] at h;cases s0 with
   | emp=>exact .inr ⟨(show Sl.emp=s from h).symm,fun t l z=>by cases z⟩
   | val d=>exact .inr ⟨(show Sl.val d=s from h).symm,fun t l z=>by cases z⟩
   | box c fs=>exact .inr ⟨(show Sl.box c fs=s from h).symm,fun t l z=>by cases z⟩
   | own t l =>
    refine .inl ⟨t,l,rfl,i,?_,?_⟩
    ·obtain⟨hi,hb,_⟩:=List.findIdx?_eq_some_iff_getElem.mp ei;rw[List.getElem?_eq_getElem hi];exact congrArg some (eq_of_beq hb)
    ·have h:(match (ps:List Sl)[i]? with
      | some (.own (some i') l')=>if i'=i then Sl.own t l' else .emp
      | _=>.emp)=s:=h
     cases ep:(ps:List Sl)[i]? with
     | none=>rw[ep] at h;exact .inr h.symm
     | some sp =>
      rw[ep] at h;cases sp with
      | emp=>exact .inr h.symm
      | val _=>exact .inr h.symm
      | box _ _=>exact .inr h.symm
      | own t' l' =>
       cases t' with
       | none=>exact .inr h.symm
       | some i' =>
        have h2:(if i'=i then Sl.own t l' else .emp)=s:=h
        by_cases z:i'=i
        ·subst z;rw[if_pos rfl] at h2;exact .inl ⟨l',rfl,h2.symm⟩
        ·rw[if_neg z] at h2;exact .inr h2.symm
theorem acn{j:Nat}{a:Addr}(h:Owns (putB ρ js ps) σ j a):Owns ρ σ j a:=by
 obtain⟨⟨t,l,e⟩,q⟩:=h;obtain⟨s0,e0,h | ⟨rfl,_⟩⟩:=agh e
 ·obtain⟨t',l',rfl,i,_,⟨l2,_,z⟩ | z⟩:=h
  ·exact⟨⟨t',l',e0⟩,q⟩
  ·cases z
 ·exact⟨⟨t,l,e0⟩,q⟩
theorem ait(G:Good K tg F H ρ σ)(L:Lent K F σ τ js ds)(x:Ext (Own (lend ρ js ds) τ) O' F H F' H')(s':Same F' H')(fin:Fin K F' H' τ ps O'):Good K tg F' H' (putB ρ js ps) σ where
 sub:=s'
 len:=by
  unfold putB;rw[List.length_mapIdx];exact G.len
 sl:=fun j s o e q=>by
  obtain⟨s0,e0,h | ⟨rfl,hn⟩⟩:=agh e
  ·obtain⟨t,l,rfl,i,ei,⟨l',ep,rfl⟩ | rfl⟩:=h
   ·obtain⟨a,vs,rfl,hf,hh,hl,ht⟩:=G.sl j _ _ e0 q;obtain⟨_,hf',ws,hh',hl'⟩:=fin.at' i l' ep;have:=L.h1 i j _ ei q;have et:tgOf τ i=a:=by
     unfold tgOf;rw[this]
    rw[et] at hf' hh';exact⟨a,ws,rfl,hf',hh',hl',ht⟩
   ·trivial
  ·have w:=G.sl j _ _ e0 q;cases s with
   | emp=>trivial
   | val d =>
    obtain⟨v,h1,h2⟩:=w;exact⟨v,h1,h2.mono x.sub⟩
   | box c fs =>
    obtain⟨a,C,dx,fvs,e1,e2,e3,e4,e7,e5,e6⟩:=w;have no:¬Own (lend ρ js ds) τ a:=fun⟨i,z⟩=>by
     obtain⟨j',_,v⟩:=aaz G L z;obtain⟨_,vs,hv⟩:=G.ownAt ⟨j',v⟩;rw[e3] at hv;cases hv
    have hf:F' a=none:=by
     cases z:F' a with
     | none=>rfl
     | some o =>
      rcases x.new a o z with z | z | z
      ·rw[e2] at z;cases z
      ·rw[e3] at z;cases z
      ·exact absurd z no
    exact⟨a,C,dx,fvs,e1,hf,x.keep a _ e3 no,e4,e7,e5,fun f d h=>(e6 f d h).imp fun v h=>⟨h.1,h.2.mono x.sub⟩⟩
   | own t l =>
    obtain⟨a,vs,rfl,hf,hh,hl,ht⟩:=w;have no:¬Own (lend ρ js ds) τ a:=fun⟨i,z⟩=>by
     obtain⟨j',e1,v⟩:=aaz G L z;have:=G.inj j' j a v ⟨⟨t,l,e0⟩,q⟩;subst this;exact hn t l rfl i e1
    refine⟨a,vs,rfl,?_,x.keep a _ hh no,hl.mono x.sub,ht⟩;cases z:F' a with
    | none=>rfl
    | some o =>
     rcases x.new a o z with z | z | z
     ·rw[hf] at z;cases z
     ·rw[hh] at z;cases z
     ·exact absurd z no
 inj:=fun i j a w w'=>G.inj i j a (acn w) (acn w')
theorem yo(G:Good K tg F H ρ σ)(L:Lent K F σ τ js ds){a:Addr}(h:Own (lend ρ js ds) τ a):Own ρ σ a:=by
 obtain⟨i,h⟩:=h;obtain⟨j,_,h⟩:=aaz G L h;exact⟨j,h⟩
theorem aky(G:Good K tg F H ρ σ)(L:Lent K F σ τ js ds)(x:Ext (Own (lend ρ js ds) τ) O' F H F' H'):Ext (Own ρ σ) (Own (putB ρ js ps) σ) F H F' H' where
 sub:=x.sub
 new:=fun a o e=>by
  rcases x.new a o e with z | z | z
  ·exact .inl z
  ·exact .inr (.inl z)
  ·exact .inr (.inr (yo G L z))
 keep:=fun a o e n=>x.keep a o e fun z=>n (yo G L z)
 own:=fun a ⟨j,w⟩=>.inl ⟨j,acn w⟩
 there:=x.there
theorem ao0(G:Good K tg F H ρ σ)(L:Lent K F σ τ js ds)(fin:Fin K F' H' τ ps O'){a:Addr}(ha:H a=none∨Own (lend ρ js ds) τ a)(hn:¬O' a):¬Own (putB ρ js ps) σ a:=fun⟨j,w⟩=>by
 have v:=acn w;obtain⟨⟨t,l2,e⟩,q⟩:=w;obtain⟨s0,e0,z | ⟨rfl,hno⟩⟩:=agh e
 ·obtain⟨t',l',rfl,i,ei,⟨l3,ep,z⟩ | z⟩:=z
  ·have et:tgOf τ i=a:=by
    unfold tgOf;rw[L.h1 i j _ ei q]
   have:=(fin.at' i l3 ep).1;rw[et] at this;exact hn this
  ·cases z
 ·rcases ha with ha | ⟨i,z⟩
  ·obtain⟨a',vs',ea,_,e2,_⟩:=G.sl j _ _ e0 q;cases ea;rw[ha] at e2;cases e2
  ·obtain⟨j',e1,v'⟩:=aaz G L z;have:=G.inj j' j a v' v;subst this;exact hno t l2 rfl i e1
theorem ard(G:Good K tg F H ρ σ)(L:Lent K F σ τ js ds)(fin:Fin K F' H' τ ps O'){r:Rv}{v:V}(h:relR K r v H (Own (lend ρ js ds) τ) F' H' O'):relR K r v H (Own ρ σ) F' H' (Own (putB ρ js ps) σ):=by
 cases r with
 | v d=>exact h
 | fr l =>
  obtain⟨a,vs,rfl,ha,hf,hh,hl,hn⟩:=h;exact⟨a,vs,rfl,ha.imp id (yo G L),hf,hh,hl,ao0 G L fin ha hn⟩
 | tf d l =>
  obtain⟨t,u,a,vs,rfl,ht,hd,ha,hf,hh,hl,hn⟩:=h;exact⟨t,u,a,vs,rfl,ht,hd,ha.imp id (yo G L),hf,hh,hl,ao0 G L fin ha hn⟩
end
abbrev Fd:=Ro->Option (Out Rv×Ro)
noncomputable def fnD(nl np:Nat)(g:Sd):Fd:=fun as=>match g (as++List.replicate (nl - np) .emp) with
 | some (.ret r,ρ)=>some (.ok r,ρ.take np)
 | some (.nx,ρ)=>some (.ok (.v .non),ρ.take np)
 | some (.exc x,ρ)=>some (.exc x,ρ.take np)
 | _=>none
def spOf(K:Fg9)(n:Nat)(f:Fd):Sp:=fun vs H Q _=>vs.length=n/\∃F as r ps,Good K (tgOf (vs.map some)) F H as (vs.map some)/\f as=some (.ok r,ps) /\
 ∀v H' F' O',Same F' H'->Ext (Own as (vs.map some)) O' F H F' H'->Fin K F' H' (vs.map some) ps O'->relR K r v H (Own as (vs.map some)) F' H' O'->Q v H'
section
variable{K:Fg9}
theorem atf{as:Ro}{τ:L2.St}{n:Nat}{a:Addr}(hl:as.length=τ.length)(h:Own (as++List.replicate n .emp) (τ++List.replicate n none) a):Own as τ a:=by
 obtain⟨i,⟨t,l,e⟩,q⟩:=h
 by_cases hi:i < as.length
 ·rw[List.getElem?_append_left hi] at e;rw[List.getElem?_append_left (by omega)] at q
  exact⟨i,⟨t,l,e⟩,q⟩
 ·rw[List.getElem?_append_right (by omega),List.getElem?_replicate] at e
  split at e <;> cases e
theorem ap2{as:Ro}{τ:L2.St}{n:Nat}{a:Addr}(hl:as.length=τ.length)(h:Own as τ a):Own (as++List.replicate n .emp) (τ++List.replicate n none) a:=by
 obtain⟨i,⟨t,l,e⟩,q⟩:=h;have hi:=(List.getElem?_eq_some_iff.mp e).1;exact⟨i,⟨t,l,by rw[List.getElem?_append_left hi];exact e⟩,by rw[List.getElem?_append_left (by omega)];exact q⟩
theorem afn{as:Ro}{τ:L2.St}{n:Nat}(hl:as.length=τ.length):Own (as++List.replicate n .emp) (τ++List.replicate n none)=Own as τ:=funext fun a=>propext ⟨atf hl,ap2 hl⟩
theorem Good.app{tg:Nat->Addr}{F H:Hp}{as:Ro}{τ:L2.St}(G:Good K tg F H as τ)(n:Nat):Good K tg F H (as++List.replicate n .emp) (τ++List.replicate n none) where
 sub:=G.sub
 len:=by rw[List.length_append,List.length_append,G.len,List.length_replicate,List.length_replicate]
 sl:=fun i s o e q=>by
  have hl:=G.len
  by_cases hi:i < as.length
  ·rw[List.getElem?_append_left hi] at e;rw[List.getElem?_append_left (by omega)] at q
   exact G.sl i s o e q
  ·rw[List.getElem?_append_right (by omega),List.getElem?_replicate] at e
   split at e
   ·cases e;trivial
   ·cases e
 inj:=fun i j a w w'=>by
  have hl:=G.len;have f:∀k,Owns (as++List.replicate n .emp) (τ++List.replicate n none) k a->Owns as τ k a:=fun k ⟨⟨t,l,e⟩,q⟩=>by
   by_cases hi:k < as.length
   ·rw[List.getElem?_append_left hi] at e;rw[List.getElem?_append_left (by omega)] at q
    exact⟨⟨t,l,e⟩,q⟩
   ·rw[List.getElem?_append_right (by omega),List.getElem?_replicate] at e
    split at e <;> cases e
  exact G.inj i j a (f i w) (f j w')
theorem az4{P:Program}{w:World}{mg:Str->Option Value}{base:Heap}{x qual:Str}{st:Stmt}{f:Addr}{fd:FuncData}{N ps:List Str}{k:Nat}{g:Sd}(F:Fun K x qual st f fd)(S:FnScope N ps (au st))
  (body:∀(cdv:Value) (A:Around) (outer:List Env) (s:Shared) (H:Hp) (E:XK),Room k (A.deeper (envOfC qual (au st) s.heap.objs.size f cdv))->SVs K (cxOf CX0 P w K mg base N qual (au st) f cdv A outer s H E).nox (jj st) g) :
  FnOk P w K mg base CX0 (k+1) f fd ps (spOf K ps.length (fnD N.length ps.length g)):=by
 refine F.ok S (fun vs H Q E h=>h.1) (fun cdv A outer s H vs Q E hr h=>⟨_,body cdv A outer s H E hr rfl,?_⟩)
 obtain⟨hn,F,as,r,ps',G,em,q⟩:=h;have hl:as.length=(vs.map some).length:=G.len;have G1:=G.app (N.length - vs.length);have es:start N vs=vs.map some++List.replicate (N.length - vs.length) none:=rfl;rw[es];unfold fnD at em;rw[<-hn] at em;have fin:∀{ρ':Ro} {σ':L2.St} {F' H':Hp},Good K (tgOf (vs.map some)) F' H' ρ' σ'->Fin K F' H' (vs.map some) (ρ'.take vs.length) (Own ρ' σ'):=fun{ρ' σ' F' H'} G'=>⟨fun i l e=>by
  have hi:=(List.getElem?_eq_some_iff.mp e).1;rw[List.length_take] at hi;rw[List.getElem?_take_of_lt (by omega)] at e
  obtain⟨o,ho,a,ws,rfl,hf,hh,hl,ht⟩:=G'.at e;rw[ht i rfl];exact⟨⟨i,⟨_,_,e⟩,ho⟩,hf,ws,hh,hl⟩⟩
 split at em
 ·rename_i r' ρ' e;cases em;refine⟨_,F,_,.ret r,ρ',G1,e,fun v σ' H' F' G' x' rr =>?_⟩
  rw[afn hl] at x' rr;exact q v H' F' (Own ρ' σ') G'.sub x' (fin G') rr
 ·rename_i ρ' e;cases em;refine⟨_,F,_,.nx,ρ',G1,e,fun σ' H' F' G' x' =>?_⟩
  rw[afn hl] at x';exact q .non H' F' (Own ρ' σ') G'.sub x' (fin G') .non
 ·cases em
 ·cases em
end
section
variable{K:Fg9}{X:Cx}{e a b c tgt iter elt:Expr}{es:List Expr}{pos p p2:Pos}
inductive AR (K:Fg9) (F:Hp) (σ:L2.St):List (Option Nat)->List (Option D)->List V->Prop
 | nil:AR K F σ [] [] []
 | ex {d:D} {v:V} {js:List (Option Nat)} {ds:List (Option D)} {vs:List V} (h:Is K F d v) (t:AR K F σ js ds vs):AR K F σ (none::js) (some d::ds) (v::vs)
 | nm {j:Nat} {v:V} {js:List (Option Nat)} {ds:List (Option D)} {vs:List V} (h:σ[j]? = some (some v)) (t:AR K F σ js ds vs):AR K F σ (some j::js) (none::ds) (v::vs)
theorem AR.lent{F:Hp}{σ:L2.St}:∀{js:List (Option Nat)} {ds:List (Option D)} {vs:List V},AR K F σ js ds vs->Lent K F σ (vs.map some) js ds
 | _,_,_,.nil=>⟨rfl,rfl,fun i j o h=>by simp at h,fun i d h=>by simp at h⟩
 | _,_,_,.ex h t=>by
  have L:=t.lent;refine⟨by simp[by simpa using L.l1],by simp[L.l2],fun i j o h q =>?_,fun i d h q =>?_⟩
  ·cases i with
   | zero=>simp at h
   | succ i=>simpa using L.h1 i j o (by simpa using h) q
  ·cases i with
   | zero=>simp at q;subst q;exact⟨_,rfl,‹_›⟩
   | succ i=>simpa using L.h2 i d (by simpa using h) (by simpa using q)
 | _,_,_,.nm h t=>by
  have L:=t.lent;refine⟨by simp[by simpa using L.l1],by simp[L.l2],fun i j o h' q =>?_,fun i d h' q =>?_⟩
  ·cases i with
   | zero =>
    simp at h';subst h';rw[h] at q;cases q;rfl
   | succ i=>simpa using L.h1 i j o (by simpa using h') q
  ·cases i with
   | zero=>simp at h'
   | succ i=>simpa using L.h2 i d (by simpa using h') (by simpa using q)
theorem AR.length{F:Hp}{σ:L2.St}{js:List (Option Nat)}{ds:List (Option D)}{vs:List V}(h:AR K F σ js ds vs):vs.length=js.length:=by
 have:=h.lent.l1
 simpa using this
def TAg(K:Fg9)(js:List (Option Nat))(m:M (List (Option D))):TA:=fun σ H Q=>∃tg F ρ ds ρ',Good K tg F H ρ σ/\m ρ=some (.ok ds,ρ')/\∀vs H' F',Good K tg F' H' ρ' σ->Ext (Own ρ σ) (Own ρ' σ) F H F' H'->AR K F' σ js ds vs->Q vs H'
structure EG (K:Fg9) (X:Cx) (es:List Expr) (js:List (Option Nat)) (m:M (List (Option D))):Prop where
 go:X.K=K->PA X es (TAg K js m)
instance {K:Fg9} {X:Cx} {es:List Expr} {js:List (Option Nat)} {m:M (List (Option D))}:CoeFun (EG K X es js m) fun _=>X.K=K->PA X es (TAg K js m):=⟨EG.go⟩
def di:M (List (Option D)):=ret []
def bc(m:M D)(ms:M (List (Option D))):M (List (Option D)):=m.bind fun d=>ms.bind fun ds=>ret (some d::ds)
def bz(j:Nat)(ms:M (List (Option D))):M (List (Option D)):=(jb j).bind fun _=>ms.bind fun ds=>ret (none::ds)
theorem bu:EG K X [] [] di:=EG.mk fun _=>PA.imp aeg fun σ H Q z9=>by
 obtain⟨tg,F,ρ,ds,ρ',G,em,q⟩:=z9;obtain⟨rfl,rfl⟩:=jk em;exact q [] H F G (Ext.refl _ _ _) .nil
theorem eg_v{m:M D}{js:List (Option Nat)}{ms:M (List (Option D))}(h:EV K X e m)(t:EG K X es js ms)(hs:starEach (e::es) X.env=(false,eval e X.env)::starEach es X.env:=by rfl):EG K X (e::es) (none::js) (bc m ms):=EG.mk fun hk=>PA.imp (vq (h hk) (t hk) hs) fun σ H Q z9=>by
 obtain⟨tg,F,ρ,ds,ρ',G,em,q⟩:=z9;obtain⟨d,ρ1,e1,em⟩:=bh em;obtain⟨r,ρ2,e2,em⟩:=bh em;obtain⟨rfl,rfl⟩:=jk em;exact⟨tg,F,ρ,d,ρ1,G,e1,fun v H1 F1 G1 x1 r1=>⟨tg,F1,ρ1,r,_,G1,e2,fun vs H2 F2 G2 x2 r2=>q _ H2 F2 G2 (x1.trans x2) (.ex (r1.mono x2.sub) r2)⟩⟩
theorem eg_n{j:Nat}{js:List (Option Nat)}{ms:M (List (Option D))}(h:PE X e (tVar j))(t:EG K X es js ms)(hs:starEach (e::es) X.env=(false,eval e X.env)::starEach es X.env:=by rfl):EG K X (e::es) (some j::js) (bz j ms):=EG.mk fun hk=>PA.imp (vq h (t hk) hs) fun σ H Q z9=>by
 obtain⟨tg,F,ρ,ds,ρ',G,em,q⟩:=z9;obtain⟨d0,ρ0,e0,em⟩:=bh em;obtain⟨r,ρ2,e2,em⟩:=bh em;obtain⟨rfl,rfl⟩:=jk em;obtain⟨rfl,v,hv,_⟩:=zr G e0;exact⟨v,hv,tg,F,ρ0,r,_,G,e2,fun vs H2 F2 G2 x2 r2=>q _ H2 F2 G2 x2 (.nm hv r2)⟩
noncomputable def mFn(f:Fd)(js:List (Option Nat))(ms:M (List (Option D))):M Rv:=ms.bind fun ds ρ=>if okJs ρ js=true then match f (lend ρ js ds) with
  | some (.ok r,ps)=>some (.ok r,putB ρ js ps)
  | some (.exc x,ps)=>some (.exc x,putB ρ js ps)
  | none=>none
 else none
theorem awm{f:Fd}{js:List (Option Nat)}{ms:M (List (Option D))}{ρ ρ':Ro}{r:Rv}(h:mFn f js ms ρ=some (.ok r,ρ')):∃ds ρ1 ps,ms ρ=some (.ok ds,ρ1)/\okJs ρ1 js=true/\f (lend ρ1 js ds)=some (.ok r,ps)/\ρ'=putB ρ1 js ps:=by
 obtain⟨ds,ρ1,e1,em⟩:=bh h;have em:(if okJs ρ1 js=true then match f (lend ρ1 js ds) with
  | some (.ok r,ps)=>some (Out.ok r,putB ρ1 js ps)
  | some (.exc x,ps)=>some (.exc x,putB ρ1 js ps)
  | none=>none
  else none)=some (.ok r,ρ'):=em
 split at em
 ·rename_i hk;split at em
  ·rename_i r' ps e2;cases em;exact⟨ds,ρ1,ps,e1,hk,e2,rfl⟩
  ·cases em
  ·cases em
 ·cases em
theorem dm{f:Fd}{n k:Nat}{x:Str}{pn:List Str}{js:List (Option Nat)}{ms:M (List (Option D))}(F:Dfn X.prog X.w X.K X.mg X.base x pn k (spOf K n f))(hr:Room k X.A)(hg:Gl X x)(ha:EG K X (e::es) js ms)(hn:js.length=n:=by rfl)(hdb:(x==("__debug__" : Str))=false:=by decide)
  (he:starEach (e::es) X.env=(false,eval e X.env)::starEach es X.env:=by rfl) (hpl:(backTo pos (starEach es X.env)).any (·.1)=false:=by rfl):ER K X (.Call (.Name x p) (e::es) [] pos) (mFn f js ms):=ER.mk fun hk=>PE.imp (ay6 F hr hg (ha hk) hdb he hpl) fun σ H Q z9=>by
 obtain⟨tg,F,ρ,r,ρ',G,em,q⟩:=z9;obtain⟨ds,ρ1,ps,e1,hj,e2,rfl⟩:=awm em;refine⟨tg,F,ρ,ds,ρ1,G,e1,fun vs H1 F1 G1 x1 ar =>?_⟩
 have L:=ar.lent;show spOf K n f (vs++[]) H1 Q E0;rw[List.append_nil];refine⟨by rw[ar.length];exact hn,F1,_,r,ps,ah1 G1 hj L,e2,fun v H' F' O' s' x' fin rr =>?_⟩
 exact q v H' F' (ait G1 L x' s' fin) (x1.trans (aky G1 L x')) (j4 x1 (ard G1 L fin rr))
structure EIf (K:Fg9) (X:Cx) (ifs:List Expr) (m:M Bool):Prop where
 go:X.K=K->PIf X ifs (TB K m)
instance {K:Fg9} {X:Cx} {ifs:List Expr} {m:M Bool}:CoeFun (EIf K X ifs m) fun _=>X.K=K->PIf X ifs (TB K m):=⟨EIf.go⟩
theorem uo:EIf K X [] (ret true):=EIf.mk fun _ jv s σ H Q I z9=>by
 obtain⟨tg,F,ρ,k,ρ',G,em,q⟩:=z9;obtain⟨rfl,rfl⟩:=jk em;exact as5 jv s σ H Q I (q H F G (Ext.refl _ _ _))
theorem aod{m:M Bool}(h:ET K X c m):EIf K X [c] m:=EIf.mk fun hk=>as4 (h hk)
noncomputable def compD(b:D->Ro->Option Ro)(mc:M Bool)(me:M D):List D->List D->M (List D)
 | [],ys=>ret ys
 | d::ds,ys=>fun ρ=>match b d ρ with
  | none=>none
  | some ρ1=>(mc.bind fun k=>if k=true then me.bind fun y=>compD b mc me ds (ys++[y]) else compD b mc me ds ys) ρ1
theorem ae4{b:D->Ro->Option Ro}{mc:M Bool}{me:M D}:∀{l ys yf:List D} {ρ ρ':Ro},compD b mc me l ys ρ=some (.ok yf,ρ')->ys.length<=yf.length
 | [],ys,yf,ρ,ρ',h=>by
  obtain⟨rfl,_⟩:=jk (show ret ys ρ=_ from h)
  exact Nat.le_refl _
 | d::ds,ys,yf,ρ,ρ',h=>by
  unfold compD at h;split at h
  ·cases h
  ·obtain⟨k,ρ2,e2,h⟩:=bh h;split at h
   ·obtain⟨y,ρ3,e3,h⟩:=bh h;have:=ae4 h;rw[List.length_append] at this;omega
   ·exact ae4 h
def yl(src:List (Option Nat))(mi:M (List D))(b:D->Ro->Option Ro)(mc:M Bool)(me:M D):M Rv:=mi.bind fun l ρ=>if okJs ρ src=true then match compD b mc me l [] (lend ρ src (src.map fun _=>none)) with
  | some (.ok ys,ps)=>if ys.length<=capS then some (.ok (.fr ys),putB ρ src ps) else none
  | some (.exc x,ps)=>some (.exc x,putB ρ src ps)
  | none=>none
 else none
theorem aqa{src:List (Option Nat)}{mi:M (List D)}{b:D->Ro->Option Ro}{mc:M Bool}{me:M D}{ρ ρ':Ro}{r:Rv}(h:yl src mi b mc me ρ=some (.ok r,ρ')):∃l ρ1 ys ps,mi ρ=some (.ok l,ρ1)/\okJs ρ1 src=true/\compD b mc me l [] (lend ρ1 src (src.map fun _=>none))=some (.ok ys,ps)/\ys.length<=capS/\r=.fr ys/\ρ'=putB ρ1 src ps:=by
 obtain⟨l,ρ1,e1,em⟩:=bh h;have em:(if okJs ρ1 src=true then match compD b mc me l [] (lend ρ1 src (src.map fun _=>none)) with
  | some (.ok ys,ps)=>if ys.length<=capS then some (Out.ok (Rv.fr ys),putB ρ1 src ps) else none
  | some (.exc x,ps)=>some (.exc x,putB ρ1 src ps)
  | none=>none
  else none)=some (.ok r,ρ'):=em
 split at em
 ·rename_i hk;split at em
  ·rename_i ys ps e2;split at em
   ·rename_i hz;cases em;exact⟨l,ρ1,ys,ps,e1,hk,e2,hz,rfl,rfl⟩
   ·cases em
  ·cases em
  ·cases em
 ·cases em
theorem amv{F:Hp}{σ:L2.St}(src:List (Option Nat)):Lent K F σ (pick src σ) src (src.map fun _=>none):=by
 refine⟨by simp[pick],by simp,fun i j o h q =>?_,fun i d h q =>?_⟩
 ·unfold pick;rw[List.getElem?_map,h];show some ((σ[j]?).bind id)=some o;rw[q];rfl
 ·rw[List.getElem?_map,h] at q;cases q
theorem Ext.upd{O O':Addr->Prop}{F H F' H':Hp}{d:Addr}{o:HO}(x:Ext O O' F H F' H')(h:H d=none):Ext O O' F H F' (upd H' d o) :=
 ⟨x.sub,x.new,fun a u e n=>by rw[cj (gn e h)];exact x.keep a u e n,x.own,fun a e=>by
  by_cases ha:a=d
  ·subst ha;exact h
  ·rw[cj ha] at e;exact x.there a e⟩
theorem Good.upd{tg:Nat->Addr}{F H:Hp}{ρ:Ro}{σ:L2.St}{d:Addr}(G:Good K tg F H ρ σ)(hf:F d=none)(hn:¬Own ρ σ d)(o:HO)(hi:∀C dx fs,H d≠some (.ins C dx fs)):Good K tg F (upd H d o) ρ σ :=
 G.grow (Same.refl F) (fun b u e=>by
  have hb:b≠d:=fun z=>by
   subst z;rw[hf] at e;cases e
  rw[cj hb];exact G.sub b u e) (fun a w=>⟨(G.ownAt w).1,by
  have hb:a≠d:=fun z=>hn (z▸w)
  rw[cj hb]⟩) fun a C dx fvs h1 h2=>⟨h1,by
  have hb:a≠d:=fun z=>hi C dx fvs (z▸h2)
  rw[cj hb]⟩
theorem akt{mi:M (List D)}{bb:D->Ro->Option Ro}{mc:M Bool}{me:M D}{src:List (Option Nat)}(σ:L2.St)(H:Hp)(Q:VK)(t:T K (relR K) (yl src mi bb mc me) σ H Q):asi (TIt K mi) (TGd K bb) (TB K mc) (T K (relD K) me) src σ H Q:=by
 obtain⟨tg,F,ρ,r,ρ',G,em,q⟩:=t;obtain⟨l,ρ1,yf,ps,e1,hj,e2,hz,rfl,rfl⟩:=aqa em;refine⟨tg,F,ρ,l,ρ1,G,e1,fun J H1 F1 G1 x1 Z dd hd =>?_⟩
 have L:Lent K F1 σ (pick src σ) src (src.map fun _=>none):=amv src
 have Gl:=ah1 G1 hj L;have own0:¬Own (lend ρ1 src (src.map fun _=>none)) (pick src σ) dd:=fun z=>Gl.own_ne hd z rfl
 refine aq6 Z (fun i ys σc Hc=>∃Fc ρc yd,Good K (tgOf (pick src σ)) Fc Hc ρc σc/\Ext (Own (lend ρ1 src (src.map fun _=>none)) (pick src σ)) (Own ρc σc) F1 H1 Fc Hc/\Fc dd=none/\¬Own ρc σc dd/\Hc dd=some (.lst ys)/\IsL K Fc yd ys/\compD bb mc me (l.drop i) yd ρc=some (.ok yf,ps))
  ⟨F1,_,[],Gl.upd (G1.freeF hd) own0 _ (fun _ _ _ z=>by rw[hd] at z;cases z),(Ext.refl _ _ _).upd hd,G1.freeF hd,own0,gb,.nil,e2⟩ ?_ ?_ ?_
 ·rintro i ys σc Hc _ ⟨Fc,ρc,yd,Gc,xc,_,_,hdd,_,_⟩
  exact⟨xc.sub.trans Gc.sub,hdd⟩
 ·rintro i d x ys σc Hc0 Hc M hdl ⟨Fc0,ρc,yd,Gc0,xc0,fd0,od0,hdd0,iy0,ec⟩ al hM
  obtain⟨Fc,Gc,xc,_,idl,xa⟩:=akz Gc0 xc0 xc0.sub al;have iy:=iy0.mono xa.sub;have hlt:i < l.length:=(List.getElem?_eq_some_iff.mp hdl).1;have edl:l[i]=d:=(List.getElem?_eq_some_iff.mp hdl).2;rw[List.drop_eq_getElem_cons hlt,edl] at ec;unfold compD at ec;have step:∀{F2 H2:Hp} {ρ2 ρ3:Ro} {σ2 σ3:L2.St} {F3 H3:Hp},F2 dd=none->¬Own ρ2 σ2 dd->H2 dd=some (.lst ys)->Ext (Own ρ2 σ2) (Own ρ3 σ3) F2 H2 F3 H3->F3 dd=none/\¬Own ρ3 σ3 dd/\H3 dd=some (.lst ys):=fun{F2 H2 ρ2 ρ3 σ2 σ3 F3 H3} h1 h2 h3 x3=>by
   refine⟨?_,fun z =>?_,x3.keep _ _ h3 h2⟩
   ·cases z:F3 dd with
    | none=>rfl
    | some o =>
     rcases x3.new _ _ z with z | z | z
     ·rw[h1] at z;cases z
     ·rw[h3] at z;cases z
     ·exact absurd z h2
   ·rcases x3.own _ z with z | z
    ·exact h2 z
    ·rw[h3] at z;cases z
  obtain⟨fd,od,hdd⟩:=step fd0 od0 hdd0 xa;split at ec
  ·cases ec
  ·rename_i ρ2 eb;refine⟨_,Fc,ρc,d,ρ2,Gc,idl,eb,fun σ2 H2 F2 G2 x2 =>?_⟩
   obtain⟨k,ρ3,ek,ec⟩:=bh ec;obtain⟨fd2,od2,hdd2⟩:=step fd od hdd x2;refine⟨_,F2,ρ2,k,ρ3,G2,ek,fun H3 F3 G3 x3 =>?_⟩
   obtain⟨fd3,od3,hdd3⟩:=step fd2 od2 hdd2 x3;cases k with
   | false =>
    refine iteF (hM _ _ _ ⟨F3,ρ3,yd,G3,(xc.trans x2).trans x3,fd3,od3,hdd3,(iy.mono x2.sub).mono x3.sub,ec⟩)
   | true =>
    obtain⟨y,ρ4,ey,ec⟩:=bh ec;refine iteT ⟨_,F3,ρ3,y,ρ4,G3,ey,fun v H4 F4 G4 x4 iv =>?_⟩
    obtain⟨fd4,od4,hdd4⟩:=step fd3 od3 hdd3 x4;refine⟨hdd4,?_,hM _ _ _ ⟨F4,ρ4,yd++[y],G4.upd fd4 od4 _ (fun _ _ _ z=>by rw[hdd4] at z;cases z),(((xc.trans x2).trans x3).trans x4).upd hd,fd4,od4,gb,?_,ec⟩⟩
    ·have:=ae4 ec;rw[List.length_append,iy.length] at this;rw[sizeLine_eq];exact Nat.lt_of_lt_of_le (by simpa using Nat.lt_succ_self ys.length) (Nat.le_trans this hz)
    ·exact(((iy.mono x2.sub).mono x3.sub).mono x4.sub).append (.cons iv .nil)
 ·rintro ys σc Hc ⟨Fc,ρc,yd,Gc,xc,fd,od,hdd,iy,ec⟩
  rw[List.drop_eq_nil_of_le (Nat.le_refl _)] at ec;obtain⟨rfl,rfl⟩:=jk (show ret yd ρc=_ from ec)
  have fin:Fin K Fc Hc (pick src σ) ps (Own ps σc):=⟨fun i l' e=>by
   obtain⟨o,ho,a,ws,rfl,hf,hh,hl,ht⟩:=Gc.at e;rw[ht i rfl];exact⟨⟨i,⟨_,_,e⟩,ho⟩,hf,ws,hh,hl⟩⟩
  refine q _ Hc Fc (ait G1 L xc Gc.sub fin) (x1.trans (aky G1 L xc)) ⟨dd,ys,rfl,.inl (x1.there dd hd),fd,hdd,iy,fun⟨j,w⟩ =>?_⟩
  exact G1.own_ne hd ⟨j,acn w⟩ rfl
theorem rm{ifs:List Expr}{scope:Scope}{mi:M (List D)}{bb:D->Ro->Option Ro}{mc:M Bool}{me:M D}(fr N:List Str)(src:List (Option Nat))(hc:X.calm=true)(hi:IT K X tgt iter mi)
  (hg:∀fp s H,GV K (cxC X N scope fr fp s H) tgt bb) (ht:∀fp s H,EIf K (cxC X N scope fr fp s H) ifs mc) (he:∀fp s H,EV K (cxC X N scope fr fp s H) elt me)
  (hok:afz X.env X.N scope fr N src=true:=by rfl) (hkind:scope.kind=.function:=by rfl) (hclos:closureFor scope X.env=pure (xq X.env fr):=by rfl)
  (hs:∀x,foldedSetIterable iter X.env x=pure x:=by intro _;rfl):ER K X (.ListComp elt [⟨tgt,iter,ifs,0⟩] scope pos) (yl src mi bb mc me):=ER.mk fun hk=>by
 have hkc:∀fp s H,(cxC X N scope fr fp s H).K=K:=fun _ _ _=>hk
 refine PE.imp (atb fr N src hc (hi hk) (fun fp s H=>(hg fp s H).go (hkc _ _ _)) (fun fp s H=>(ht fp s H).go (hkc _ _ _)) (fun fp s H=>(he fp s H).go (hkc _ _ _)) hok hkind hclos hs) akt
end
end Dn
namespace Mn
open L2
theorem asx{X:Cx}{tg iter elt:Expr}{ifs:List Expr}{scope:Scope}{cpos pos px:Pos}{wi:TI}{g:TG}{ti:TT}{te:TE}{i:Nat}{x:Str}(fr N:List Str)(src:List (Option Nat))(hN:X.N.Nodup)(hxi:X.N[i]? = some x)(hx:Loc X.env.scope x)(hc:X.calm=true)(hi:PI X tg iter wi)
  (hg:∀fp s H,PG (cxC X N scope fr fp s H) tg g) (ht:∀fp s H,PIf (cxC X N scope fr fp s H) ifs ti) (he:∀fp s H,PE (cxC X N scope fr fp s H) elt te)
  (hsw:swapsWith (.ListComp elt [⟨tg,iter,ifs,0⟩] scope cpos) (some (.Name x px)) pos.line X.env=pure true:=by rfl)
  (hok:afz X.env X.N scope fr N src=true:=by rfl) (hkind:scope.kind=.function:=by rfl) (hclos:closureFor scope X.env=pure (xq X.env fr):=by rfl)
  (hs:∀x,foldedSetIterable iter X.env x=pure x:=by intro _;rfl) (hf:X.fn x=true∨X.env.scope.names.lookup x=some .local:=by first | exact .inl rfl | exact .inr rfl | assumption) :
  PS X (.Assign [.Name x px] (.ListComp elt [⟨tg,iter,ifs,0⟩] scope cpos) pos) (tAsg (asi wi g ti te src) (at4 i)):=by
 have C:=CompOk.of hok;intro jv s σ H D I h;rw[exec_Assign_Name_used _ _ _ _ hsw];refine wpAny_bind (wpAny_standAt (wpAny_bind ?_));show wpAny _ _ (comprehension (.ListComp elt [⟨tg,iter,ifs,0⟩] scope cpos) scope X.env (firstIterPos [⟨tg,iter,ifs,0⟩] cpos) (newList []) (firstAsync [⟨tg,iter,ifs,0⟩]) (firstIter [⟨tg,iter,ifs,0⟩] X.env) (some (assign (.Name x px) X.env)) >>= fun _=>pure ()) _ _ _
 refine wpAny_bind (wpAny_comprehension_free (use:=some (assign (.Name x px) X.env)) (Q:=fun _ s'=>wpAny (model X.prog X.w) X.A (pure ()) (fun _ s''=>wpAny (model X.prog X.w) X.A (pure Flow.next) (SP X jv D) X.xe s'') X.xe s') rfl hs hclos hkind C.loc (wpAny_mono (hi jv s σ H _ I h) (fun v s1 h1=>wpAny_mono h1 (fun itv s2 h2 =>?_) fun _ _ e=>e) fun _ _ e=>e))
 obtain⟨it,fp,tn,J,H2,e,I2,T,st2,f2,q2⟩:=h2;subst e;have hd0:H2 s2.heap.objs.size=none:=I2.hok.fresh (Nat.le_refl _);obtain⟨W,⟨m0,w0⟩,turn⟩:=q2 s2.heap.objs.size hd0;refine wpAny_newObj_type ?_;generalize hs3:({ s2 with heap:=s2.heap.push { cls:=.type "list", dict:=none,data:=.seq ([]:List Value).toArray } }:Shared)=s3
 have keep2:∀b o,s2.heap.get? b=some o->s3.heap.get? b=some o:=fun b o e=>by rw[<-hs3];exact Heap.get?_push_of_some _ e
 have I3:Inv X jv σ (upd H2 s2.heap.objs.size (.lst [])) s3:=by
  rw[<-hs3];exact I2.laid (t':=s2.toks) (fun b u q=>Heap.get?_push_of_some _ q) (Nat.le_refl _) ⟨Nat.zero_le _,[],0,.nil,Heap.get?_push_size _ rfl⟩
 have ne0:∀b∈fp,b≠s2.heap.objs.size:=fun b hb=>by
  obtain⟨o,e,_⟩:=T.obj _ _ st2 b hb;exact Nat.ne_of_lt (Heap.lt_size e)
 have f3:∀b∈fp,FpOk X jv (upd H2 s2.heap.objs.size (.lst [])) b:=fun b hb=>⟨by rw[cj (ne0 b hb)];exact(f2 b hb).1,(f2 b hb).2⟩
 have lt3:∀b∈fp,b < s3.heap.objs.size:=fun b hb=>by
  obtain⟨o,e,_⟩:=T.obj _ _ st2 b hb;exact Heap.lt_size (keep2 b o e)
 refine wpAny_newFunctionEnv C.cell (by intro y hy;simp at hy) (fun h₁ hns₁ hsb₁ =>?_) hkind
 have keep3:∀b o,s3.heap.get? b=some o->h₁.get? b=some o:=fun b o e=>hsb₁.extBut b o (Nat.ne_of_lt (Heap.lt_size e)) (Heap.get?_push_of_some _ e)
 have st4:tn 0 h₁:=T.keep _ _ _ st2 fun b hb o e=>keep3 b o (keep2 b o e)
 have I4:=akk (tk:=s3.toks+([]:List (Str×Value)).length) I3 C hkind f3 lt3 hns₁ keep3;have loop:=aih (X:=cxC X N scope fr fp s3 (upd H2 s2.heap.objs.size (.lst []))) (iter:=iter) (scope:=scope) (pos:=cpos) (d:=s2.heap.objs.size) (Q:=fun v H1=>D.nx (σ.set i (some v)) H1)
  (R:=compPost (model X.prog X.w) X.A X.xe (some (assign (.Name x px) X.env)) (fun _ s'=>wpAny (model X.prog X.w) X.A (pure ()) (fun _ s''=>wpAny (model X.prog X.w) X.A (pure Flow.next) (SP X jv D) X.xe s'') X.xe s') (.ref s2.heap.objs.size) s3.heap.objs.size) hc rfl T
  (fun H' hn b hb=>⟨hn b hb,Nat.ne_of_lt (lt3 b hb),I4.ok.exfs b hb,.inl hb,(I4.ok.exf b hb).2,fun p hp=>absurd (show p∈([]:List (Addr×Obj)) from hp) (by simp)⟩)
  (hg fp s3 _) (ht fp s3 _) (he fp s3 _) turn w0 I4 st4 (fun b hb=>(f3 b hb).1) (fun σ' H' s' I6 qn=>by
   obtain⟨m6,hn6,_⟩:=I6.loc;have fC:FpOk X jv H' s3.heap.objs.size:=I3.fpOk (Nat.le_refl _) I6.free;have I7:Inv X jv σ H' s':=akl I3 f3 I6 (Heap.SameBut.refl ..);refine wpAny_assign_Name (aha I7 hN hxi hx (v:=.ref s2.heap.objs.size) rfl (fun s8 I8 ⟨a,sb,ha⟩ =>?_) hf)
   have hne:s3.heap.objs.size≠a:=by
    rcases ha with rfl | ha
    ·exact fC.2.1
    ·exact(fC.2.2.2.2.1 x a ha).symm
   obtain⟨o6,es6,ep6,g6,r6⟩:=hn6;refine⟨m6,⟨o6,es6,ep6,(sb.2 _ hne).trans g6,r6⟩,fun h9 sb9=>wpAny_pure (wpAny_pure ⟨_,H',?_,qn⟩)⟩
   exact I8.turned (t':=s8.toks) (it:=s3.heap.objs.size) (fun b o hb e=>(sb9.2 b hb).trans e) fC.1 fC.2.1 fC.2.2.2.1 fC.2.2.2.2.1 fC.2.2.2.2.2)
 exact codeAny_compStart_list loop (T.self _ 0 _ _ _ st4 loop)
end Mn
namespace Dn
open L2 Mn
section
variable{K:Fg9}{X:Cx}{tgt iter elt:Expr}{pos p:Pos}
theorem asj{i:Nat}{x:Str}{ifs:List Expr}{scope:Scope}{cpos:Pos}{mi:M (List D)}{bb:D->Ro->Option Ro}{mc:M Bool}{me:M D}(fr N:List Str)(src:List (Option Nat))(hN:X.N.Nodup)(hxi:X.N[i]? = some x)(hx:Loc X.env.scope x)(hc:X.calm=true)(hi:IT K X tgt iter mi)
  (hg:∀fp s H,GV K (cxC X N scope fr fp s H) tgt bb) (ht:∀fp s H,EIf K (cxC X N scope fr fp s H) ifs mc) (he:∀fp s H,EV K (cxC X N scope fr fp s H) elt me)
  (hsw:swapsWith (.ListComp elt [⟨tgt,iter,ifs,0⟩] scope cpos) (some (.Name x p)) pos.line X.env=pure true:=by rfl)
  (hok:afz X.env X.N scope fr N src=true:=by rfl) (hkind:scope.kind=.function:=by rfl) (hclos:closureFor scope X.env=pure (xq X.env fr):=by rfl)
  (hs:∀x,foldedSetIterable iter X.env x=pure x:=by intro _;rfl) (hf:X.fn x=true∨X.env.scope.names.lookup x=some .local:=by first | exact .inl rfl | exact .inr rfl | assumption) :
  SV K X (.Assign [.Name x p] (.ListComp elt [⟨tgt,iter,ifs,0⟩] scope cpos) pos) (dSet i (yl src mi bb mc me)):=SV.mk fun hk=>by
 have hkc:∀fp s H,(cxC X N scope fr fp s H).K=K:=fun _ _ _=>hk
 refine PS.imp (asx fr N src hN hxi hx hc (hi hk) (fun fp s H=>(hg fp s H).go (hkc _ _ _)) (fun fp s H=>(ht fp s H).go (hkc _ _ _)) (fun fp s H=>(he fp s H).go (hkc _ _ _)) hsw hok hkind hclos hs hf) fun E σ H ⟨tg,F,ρ,fl,ρ',G,em,q⟩=>aa7 em q fun r ρ1 e1 em =>?_
 cases em;refine akt σ H _ ⟨tg,F,ρ,r,ρ1,G,e1,fun v H' F' G' x rr =>?_⟩
 obtain⟨G2,x2⟩:=G'.store x i rr;exact q _ H' F' G2 x2
end
@[irreducible] def fuel:Nat:=1000000000
section
variable{K:Fg9}{X:Cx}{e a b c:Expr}{es:List Expr}{pos p p2:Pos}
end
def ajy(f:Fd):Prop:=∀ns:List Int,ns.length<=63->∃ps,f [.val (.kst (ns.map D.int))]=some (.ok (.v (.bl true)),ps)
theorem au5{K:Fg9}{f:Fd}(h:ajy f)(H:Hp)(a:Addr)(ns:List Int)(hn:ns.length<=63)(hS:SqL K H a (ns.map V.int)):spOf K 1 f [.ref a] H (fun v _=>v=.bl true) fun _ _ _=>False:=by
 obtain⟨ps,e⟩:=h ns hn;refine⟨rfl,H,_,_,ps,⟨Same.refl H,rfl,fun i s o e1 e2 =>?_,fun i j b ⟨⟨t,l,e1⟩,_⟩ _=>by cases i <;> simp at e1⟩,e,fun v H' F' O' _ _ _ rr =>?_⟩
 ·cases i with
  | zero =>
   simp at e1 e2;subst e1 e2;exact⟨_,rfl,.kst hS (aa0 ns)⟩
  | succ i=>simp at e1
 ·have rr:Is K F' (.bl true) v:=rr;cases rr;rfl
theorem walk{l:PySem.W.OpenLaw}{q:Program}{loose:List Str}{XP:(Str->Option Value)->Heap->Prop}{YP:World->Heap->Prop}{d:DefRec}{K:Params->Fg9}{f:Fd}{k:Nat}(ht:ajy f)(hn:l.most=some 63)(hdf:d.params.defaults=[])(hr:Room k callerA)
  (hY:∀(w:World) (h:Heap),YP w h->(K w.params).In h)
  (F:∀(w:World) (mg:Str->Option Value) (fa:Addr) (h:Heap),(K w.params).In h->h.Ns mainGlobals mg->mg d.name=some (.ref fa) ->
   ∃fd:FuncData,(∀(s:Shared) (u:Value),BindsTo s fd ⟨[u],[]⟩ [("script", u)])/\∀base:Heap,(K w.params).In base->base.Ns mainGlobals mg->FnOk l.prog w (K w.params) mg base CX0 k fa fd ["script"] (spOf (K w.params) 1 f)) :
  PySem.W.WalkO q loose XP YP l.row.toRowW d [] (fun f vs=>PySem.call f vs) :=
 L2.asa (n:=63) (k:=k) (x := "script") (CX:=fun _=>CX0) (sp:=fun w=>spOf (K w.params) 1 f) hn (by decide) hdf hr hY F (fun _ H a ns hl _ hS=>au5 ht H a ns hl hS) fun _ _ _ _ _ z=>z
section
variable{α β:Type}(ρ:Ro)
@[simp] theorem a0m(a:α):ret a ρ=some (.ok a,ρ):=rfl
@[simp] theorem azm(o:Option α):lift o ρ=match o with
 | some a=>some (.ok a,ρ)
 | none=>none:=rfl
@[simp] theorem aun(m:M α)(k:α->M β):M.bind m k ρ=match m ρ with
 | some (.ok a,ρ1)=>k a ρ1
 | some (.exc x,ρ1)=>some (.exc x,ρ1)
 | none=>none:=rfl
@[simp] theorem v_ap(m:M D):M.v m ρ=(m.bind fun d=>ret (.v d)) ρ:=rfl
@[simp] theorem d_ap(m:M Rv):M.d m ρ=(m.bind fun r=>ret r.d) ρ:=rfl
@[simp] theorem a00(d:D):(Rv.v d).d=d:=rfl
@[simp] theorem a0l(l:List D):(Rv.fr l).d=.lst l:=rfl
@[simp] theorem a0k(d:D)(l:List D):(Rv.tf d l).d=.tup [d,.lst l]:=rfl
@[simp] theorem a0z(d:D):(Rv.v d).sl=.val d:=rfl
@[simp] theorem a0j(l:List D):(Rv.fr l).sl=.own none l:=rfl
@[simp] theorem azc(i:Nat):mVar i ρ=match ρ[i]? with
 | some (.val d)=>some (.ok d,ρ)
 | some (.own none l)=>some (.ok (.lst l),ρ.set i (.val (.lst l)))
 | _=>none:=rfl
@[simp] theorem axs(i:Nat):jb i ρ=match ρ[i]? with
 | some (.val d)=>some (.ok d,ρ)
 | some (.own _ l)=>some (.ok (.lst l),ρ)
 | _=>none:=rfl
@[simp] theorem axy(i:Nat):am8 i ρ=match ρ[i]? with
 | some (.val d)=>some (.ok (.v d),ρ)
 | some (.own none l)=>some (.ok (.fr l),ρ.set i .emp)
 | _=>none:=rfl
@[simp] theorem aze(i:Nat):mOwn i ρ=match ρ[i]? with
 | some (.own _ l)=>some (.ok l,ρ)
 | _=>none:=rfl
@[simp] theorem awh(i:Nat)(l':List D):aek i l' ρ=match ρ[i]? with
 | some (.own t _)=>some (.ok (),List.set ρ i (.own t l'))
 | _=>none:=rfl
@[simp] theorem axw(m1 m2:M D):gj m1 m2 ρ=(m1.bind fun x=>m2.bind fun y=>ret (x,y)) ρ:=rfl
@[simp] theorem awi(i:Nat)(m2:M D):bj i m2 ρ=((jb i).bind fun _=>m2.bind fun y=>(jb i).bind fun x=>ret (x,y)) ρ:=rfl
@[simp] theorem a0o(g:D->D->Option Rv)(m:M (D×D)):mOp g m ρ=(m.bind fun p=>lift (g p.1 p.2)) ρ:=rfl
@[simp] theorem a0n(g:D->Option D)(m:M D):mUn g m ρ=(m.bind fun d=>lift (g d)) ρ:=rfl
@[simp] theorem azl(m1 m2:M D):mAnd m1 m2 ρ=(m1.bind fun d=>(lift (asB d)).bind fun k=>if k=true then m2 else ret (.bl false)) ρ:=rfl
@[simp] theorem axt(m:M D):uw m ρ=(m.bind fun d=>lift (asB d)) ρ:=rfl
@[simp] theorem awg(g:D->D->Option Rv)(m:M (D×D)):jy g m ρ=uw (mOp g m).d ρ:=rfl
@[simp] theorem axx(m:M Bool):zm m ρ=(m.bind fun k=>ret (!k)) ρ:=rfl
@[simp] theorem ax3(m1 m2:M Bool):am9 m1 m2 ρ=(m1.bind fun k=>if k=true then m2 else ret false) ρ:=rfl
@[simp] theorem azf(m1 m2:M Bool):mOrB m1 m2 ρ=(m1.bind fun k=>if k=true then ret true else m2) ρ:=rfl
@[simp] theorem a0q(c:Prop)[Decidable c](m1 m2:M α):(if c then m1 else m2) ρ=if c then m1 ρ else m2 ρ:=by split <;> rfl
@[simp] theorem azs(c:Prop)[Decidable c](m1 m2:Sd):(if c then m1 else m2) ρ=if c then m1 ρ else m2 ρ:=by split <;> rfl
@[simp] theorem a0y(b:Bool):asB (.bl b)=some b:=rfl
@[simp] theorem a0i(b:Int):asI (.int b)=some b:=rfl
@[simp] theorem azz(b:Bool):gNot (.bl b)=some (.bl (!b)):=rfl
@[simp] theorem ax6(b:Int):gNeg (.int b)=some (.int (-b)):=rfl
@[simp] theorem ayj(i j:Int):gAdd (.int i) (.int j)=some (.v (.int (i+j))):=rfl
@[simp] theorem ayh(l k:List D):gAdd (.tup l) (.tup k)=if l.length+k.length<=capS then some (.v (.tup (l++k))) else none:=rfl
@[simp] theorem ayi(l k:List D):gAdd (.lst l) (.lst k)=if l.length+k.length<=capS then some (.fr (l++k)) else none:=rfl
@[simp] theorem aya(f:Int->Int->Option Int)(i j:Int):gInt f (.int i) (.int j)=(f i j).map fun k=>.v (.int k):=rfl
@[simp] theorem az7(i j:Int):fSub i j=some (i - j):=rfl
@[simp] theorem ax9(i j:Int):gMul (.int i) (.int j)=(fMul i j).map fun k=>.v (.int k):=rfl
@[simp] theorem ax7(l:List D)(k:Int):gMul (.tup l) (.int k)=if k=1 then some (.v (.tup l)) else if l≠[]/\2<=k/\k < 9223372036854775808/\l.length*k.toNat<=capS then some (.v (.tup (List.replicate k.toNat l).flatten)) else none:=rfl
@[simp] theorem ax8(l:List D)(k:Int):gMul (.lst l) (.int k)=if k.natAbs < 9223372036854775808/\l.length*k.toNat<=capS then some (.fr (List.replicate k.toNat l).flatten) else none:=rfl
@[simp] theorem ayf(f:Int->Int->Bool)(i j:Int):gCmp f (.int i) (.int j)=some (.v (.bl (f i j))):=rfl
@[simp] theorem azj(t:Ty)(m:M D):mIsi t m ρ=(m.bind fun d=>ret (.bl (isTy t d))) ρ:=rfl
@[simp] theorem awo(f g:Int->Int->Bool)(m1 m2 m3:M D):ahz f g m1 m2 m3 ρ=(m1.bind fun x=>m2.bind fun y=>match x,y with
 | .int i,.int j=>if f i j=true then m3.bind fun z=>match z with
  | .int k=>ret (.bl (g j k))
  | _=>lift none
  else ret (.bl false)
 | _,_=>lift none) ρ:=rfl
@[simp] theorem azg:mNil ρ=some (.ok [],ρ):=rfl
@[simp] theorem ax1(m:M D)(ms:M (List D)):aj m ms ρ=(m.bind fun d=>ms.bind fun ds=>ret (d::ds)) ρ:=rfl
@[simp] theorem awn(i:Nat)(ms:M (List D)):gk i ms ρ=((jb i).bind fun _=>ms.bind fun ds=>(jb i).bind fun d=>ret (d::ds)) ρ:=rfl
@[simp] theorem azd(m:M (List D)):mTup m ρ=(m.bind fun ds=>lift (gTup ds)) ρ:=rfl
@[simp] theorem azi(m:M (List D)):mLst m ρ=(m.bind fun ds=>lift (gLst ds)) ρ:=rfl
@[simp] theorem ax2(g:List D->Option Rv)(m:M (List D)):fu g m ρ=(m.bind fun ds=>lift (g ds)) ρ:=rfl
@[simp] theorem a0t(f:D->Option Rv)(d:D):g1 f [d]=f d:=rfl
@[simp] theorem a0s(f:D->D->Option Rv)(d d':D):g2 f [d,d']=f d d':=rfl
@[simp] theorem awx(l:List D):itemsD (.tup l)=some l:=rfl
@[simp] theorem awy(l:List D):itemsD (.lst l)=some l:=rfl
@[simp] theorem awz(l:List D):itemsD (.kst l)=some l:=rfl
@[simp] theorem ayg(l:List D):gAll (.lst l)=(vm l).map fun bs=>.v (.bl (bs.all id)):=rfl
@[simp] theorem aw5(i:Int):aqx (.int i)=some (.v (.int i)):=rfl
@[simp] theorem ayb(i:Bool):aqx (.bl i)=some (.v (.int (if i then 1 else 0))):=rfl
@[simp] theorem az1(d:D)(k:Int):gIx d (.int k)=(itemsD d).bind fun l=>(atI l k).map fun x=>.v x:=rfl
@[simp] theorem ax0(i:Nat)(ml mh:M (Option Int)):ahy i ml mh ρ=((jb i).bind fun _=>ml.bind fun lo=>mh.bind fun hi=>(jb i).bind fun d=>lift (gCut d lo hi)) ρ:=rfl
@[simp] theorem axv(m:M D):agu m ρ=(m.bind fun d=>lift ((asI d).map some)) ρ:=rfl
@[simp] theorem ayc(l:List D)(lo hi:Option Int):gCut (.tup l) lo hi=some (.v (.tup (cutD l lo hi))):=rfl
@[simp] theorem ayd(l:List D)(lo hi:Option Int):gCut (.lst l) lo hi=some (.fr (cutD l lo hi)):=rfl
@[simp] theorem aye(l:List D)(lo hi:Option Int):gCut (.kst l) lo hi=some (.fr (cutD l lo hi)):=rfl
@[simp] theorem awj(m:M D):u6 m ρ=(m.bind fun d=>lift (itemsD d)) ρ:=rfl
@[simp] theorem azk(g:α->Option β)(m:M α):mGet g m ρ=(m.bind fun ds=>lift (g ds)) ρ:=rfl
@[simp] theorem ajo(j:Int):yp [.int j]=if j.natAbs < 4611686018427387904 then some (jx 0 j.toNat) else none:=rfl
@[simp] theorem at8(i j:Int):ag0 (.int i) (.int j)=if 0 < j/\j < 1000000000000000000000000000000000000000000000000000000000000 then some (.v (.tup [.int (i / j),.int (i % j)])) else none:=rfl
@[simp] theorem azh(i:Nat)(g:List D->List D->Option (D×List D))(ms:M (List D)):mMut i g ms ρ=((mOwn i).bind fun _=>ms.bind fun ds=>(mOwn i).bind fun l=>(lift (g l ds)).bind fun r=>(aek i r.2).bind fun _=>ret r.1) ρ:=rfl
@[simp] theorem at9(l:List D)(d:D):abw l [d]=if l.length < capS then some (.non,l++[d]) else none:=rfl
@[simp] theorem axz:di ρ=some (.ok [],ρ):=rfl
@[simp] theorem awl(m:M D)(ms:M (List (Option D))):bc m ms ρ=(m.bind fun d=>ms.bind fun ds=>ret (some d::ds)) ρ:=rfl
@[simp] theorem awk(j:Nat)(ms:M (List (Option D))):bz j ms ρ=((jb j).bind fun _=>ms.bind fun ds=>ret (none::ds)) ρ:=rfl
@[simp] theorem a0p(f:Fd)(js:List (Option Nat))(ms:M (List (Option D))):mFn f js ms ρ=(ms.bind fun ds ρ=>if okJs ρ js=true then match f (lend ρ js ds) with
  | some (.ok r,ps)=>some (.ok r,putB ρ js ps)
  | some (.exc x,ps)=>some (.exc x,putB ρ js ps)
  | none=>none
 else none) ρ:=rfl
@[simp] theorem aqc(src:List (Option Nat))(mi:M (List D))(b:D->Ro->Option Ro)(mc:M Bool)(me:M D):yl src mi b mc me ρ=(mi.bind fun l ρ=>if okJs ρ src=true then match compD b mc me l [] (lend ρ src (src.map fun _=>none)) with
  | some (.ok ys,ps)=>if ys.length<=capS then some (.ok (.fr ys),putB ρ src ps) else none
  | some (.exc x,ps)=>some (.exc x,putB ρ src ps)
  | none=>none
 else none) ρ:=rfl
@[simp] theorem axr:okJs ρ []=true:=rfl
@[simp] theorem awc(r:List (Option Nat)):okJs ρ (none::r)=okJs ρ r:=rfl
@[simp] theorem awb(j:Nat)(r:List (Option Nat)):okJs ρ (some j::r)=((match ρ[j]? with
  | some (.own _ _) => !r.contains (some j)
  | _=>true)&&okJs ρ r):=rfl
@[simp] theorem lend_eq(js:List (Option Nat))(ds:List (Option D)):lend ρ js ds=(List.zip js ds).mapIdx fun i p=>ah2 ρ i p.1 p.2:=rfl
@[simp] theorem auw(i j:Nat)(d:Option D):ah2 ρ i (some j) d=match ρ[j]? with
  | some (.val d)=>.val d
  | some (.own _ l)=>.own (some i) l
  | _=>.emp:=rfl
@[simp] theorem azn(i:Nat)(d:D):ah2 ρ i none (some d)=.val d:=rfl
@[simp] theorem azo(i:Nat):ah2 ρ i none none=.emp:=rfl
@[simp] theorem ay1(js:List (Option Nat))(ps:Ro):putB ρ js ps=ρ.mapIdx fun j s=>putS js ps j s:=rfl
@[simp] theorem ay0(js:List (Option Nat))(ps:Ro)(j:Nat)(s:Sl):putS js ps j s=match js.findIdx? (fun o=>o==some j) with
 | none=>s
 | some i=>match s with
  | .own t _=>match ps[i]? with
   | some (.own (some i') l')=>if i'=i then .own t l' else .emp
   | _=>.emp
  | s=>s:=rfl
@[simp] theorem a0u(nl np:Nat)(g:Sd):fnD nl np g ρ=match g (ρ++List.replicate (nl - np) .emp) with
 | some (.ret r,ρ)=>some (.ok r,ρ.take np)
 | some (.nx,ρ)=>some (.ok (.v .non),ρ.take np)
 | some (.exc x,ρ)=>some (.exc x,ρ.take np)
 | _=>none:=rfl
@[simp] theorem a0w:dNx ρ=some (.nx,ρ):=rfl
@[simp] theorem a0a(g k:Sd):dSeq g k ρ=match g ρ with
 | some (.nx,ρ1)=>k ρ1
 | r=>r:=rfl
@[simp] theorem a01(m:M α)(k:α->Sd):dM m k ρ=match m ρ with
 | some (.ok x,ρ1)=>k x ρ1
 | some (.exc x,ρ1)=>some (.exc x,ρ1)
 | none=>none:=rfl
@[simp] theorem a0b(m:M Rv):dRet m ρ=dM m (fun r ρ=>some (.ret r,ρ)) ρ:=rfl
@[simp] theorem a0x(m:M Bool)(g k:Sd):dIf m g k ρ=dM m (fun z=>if z=true then g else k) ρ:=rfl
@[simp] theorem ayl(m:M α):adb m ρ=dM m (fun _ ρ=>some (.nx,ρ)) ρ:=rfl
@[simp] theorem az9(i:Nat)(m:M Rv):dSet i m ρ=dM m (fun r ρ=>some (.nx,List.set ρ i r.sl)) ρ:=rfl
@[simp] theorem a0e(m:M D)(b:D->Ro->Option Ro):dAsg m b ρ=dM m (fun d ρ=>(b d ρ).map fun ρ'=>(.nx,ρ')) ρ:=rfl
@[simp] theorem az8(i:Nat)(mi m:M D):dSub i mi m ρ=(dM m fun d=>dM (mOwn i) fun _=>dM mi fun k=>dM (mOwn i) fun l=>dM (lift ((asI k).bind (ixN l.length))) fun j=>dM (aek i (l.set j d)) fun _=>dNx) ρ:=rfl
@[simp] theorem a0d(f:Int->Int->Int)(i:Nat)(m:M D):dAug f i m ρ=(dM (mVar i) fun x=>dM m fun y=>dM (lift ((asI x).bind fun n=>(asI y).map fun k=>D.int (f n k))) fun z ρ=>some (.nx,List.set ρ i (.val z))) ρ:=rfl
@[simp] theorem a0c(m:M (List D))(b:D->Ro->Option Ro)(g:Sd):dFor m b g ρ=dM m (forD b g) ρ:=rfl
@[simp] theorem ag6(i:Nat)(d:D):du i d ρ=some (List.set ρ i (.val d)):=rfl
@[simp] theorem a0h:bNil [] ρ=some ρ:=rfl
@[simp] theorem aym(b:D->Ro->Option Ro)(bs:List D->Ro->Option Ro)(d:D)(r:List D):su b bs (d::r) ρ=(b d ρ).bind (bs r):=rfl
@[simp] theorem a0g(n:Nat)(bs:List D->Ro->Option Ro)(l:List D):bTup n bs (.tup l) ρ=if l.length=n then bs l ρ else none:=rfl
end
section
variable(c:Prop)[Decidable c](b:Bool)(ρ:Ro)
@[simp] theorem azr:(if c then some (Out.ok (D.bl b),ρ) else some (Out.ok (D.bl false),ρ))=some (.ok (.bl (decide c&&b)),ρ):=by by_cases h:c <;> simp[h]
end
@[simp] theorem dj{n:Nat}(h:n<=1000):n<=capS:=Nat.le_trans h (by decide)
theorem auk:capS=16777216:=rfl
@[simp] theorem azy(ds:List D):gTup ds=if ds.length<=capS then some (.tup ds) else none:=rfl
@[simp] theorem az0(ds:List D):gLst ds=if ds.length<=capS then some (.fr ds) else none:=rfl
@[simp] theorem ajv{α:Type}(l:List α)(f:α->Bool):vm (l.map fun d=>D.bl (f d))=some (l.map f):=by
 have:=xr (l.map f);rw[List.map_map] at this;exact this
def acf(s:Sl):List D->Sl
 | []=>s
 | d::r=>acf (.val d) r
theorem aaq{me:M D}{rest:Ro}{f:D->D}:∀{l:List D} {ys:List D} {s:Sl},(∀d∈l,me (.val d::rest)=some (.ok (f d),.val d::rest))->compD (du 0) (ret true) me l ys (s::rest)=some (.ok (ys++l.map f),acf s l::rest)
 | [],ys,s,_=>by simp[compD,acf]
 | d::r,ys,s,h=>by
  have h1:=h d (List.mem_cons_self ..);have ih:=aaq (me:=me) (rest:=rest) (f:=f) (l:=r) (ys:=ys++[f d]) (s:=.val d) fun x hx=>h x (List.mem_cons_of_mem _ hx)
  simp[compD,h1,ih,acf]
theorem vh{mc:M Bool}{me:M D}{rest:Ro}{p:D->Bool}{f:D->D}:∀{l:List D} {ys:List D} {s:Sl},(∀d∈l,mc (.val d::rest)=some (.ok (p d),.val d::rest))->(∀d∈l,p d=true->me (.val d::rest)=some (.ok (f d),.val d::rest)) ->
  compD (du 0) mc me l ys (s::rest)=some (.ok (ys++(l.filter p).map f),acf s l::rest)
 | [],ys,s,_,_=>by simp[compD,acf]
 | d::r,ys,s,hc,h=>by
  have h0:=hc d (List.mem_cons_self ..);cases hp:p d with
  | true =>
   have h1:=h d (List.mem_cons_self ..) hp;have ih:=vh (mc:=mc) (me:=me) (rest:=rest) (p:=p) (f:=f) (l:=r) (ys:=ys++[f d]) (s:=.val d) (fun x hx=>hc x (List.mem_cons_of_mem _ hx)) fun x hx=>h x (List.mem_cons_of_mem _ hx)
   simp[compD,h0,h1,ih,acf,hp]
  | false =>
   have ih:=vh (mc:=mc) (me:=me) (rest:=rest) (p:=p) (f:=f) (l:=r) (ys:=ys) (s:=.val d) (fun x hx=>hc x (List.mem_cons_of_mem _ hx)) fun x hx=>h x (List.mem_cons_of_mem _ hx)
   simp[compD,h0,ih,acf,hp]
@[simp] theorem ayk(b:D->Ro->Option Ro)(g:Sd)(ρ:Ro):forD b g [] ρ=some (.nx,ρ):=rfl
theorem uf(b:D->Ro->Option Ro)(g:Sd)(d:D)(ds:List D)(ρ:Ro):forD b g (d::ds) ρ=match b d ρ with
  | none=>none
  | some ρ1=>match g ρ1 with
   | some (.nx,ρ2)=>forD b g ds ρ2
   | some (.cont,ρ2)=>forD b g ds ρ2
   | some (.brk,ρ2)=>some (.nx,ρ2)
   | some (.ret r,ρ2)=>some (.ret r,ρ2)
   | some (.exc x,ρ2)=>some (.exc x,ρ2)
   | none=>none:=rfl
@[simp] theorem az6{α:Type}(p:α->Bool)(a:α)(l:List α):List.findIdx? p (a::l)=if p a=true then some 0 else (List.findIdx? p l).map (· + 1):=by
 rw[List.findIdx?_cons]
@[simp] theorem a0v{α:Type}(p:α->Bool):List.findIdx? p ([]:List α)=none:=rfl
theorem ae3(ns:List Int)(lo hi:Option Int):∃ms:List Int,cutD (ns.map D.int) lo hi=ms.map D.int/\ms.length<=ns.length:=by
 refine⟨(ns.drop (HT.sIx ns.length 0 lo)).take (HT.sIx ns.length ns.length hi - HT.sIx ns.length 0 lo),?_,?_⟩
 ·unfold cutD;rw[List.length_map,List.map_take,List.map_drop]
 ·rw[List.length_take,List.length_drop];omega
theorem akm{b:D->Ro->Option Ro}{g:Sd}(Inv:Nat->Ro->Prop):∀{l:List D} {ρ:Ro} (k:Nat),Inv k ρ->(∀i d ρ,l[i]? = some d->Inv (k+i) ρ->∃ρ1 ρ2,b d ρ=some ρ1/\(g ρ1=some (.nx,ρ2)∨g ρ1=some (.cont,ρ2))/\Inv (k+i+1) ρ2) ->
  ∃ρ',forD b g l ρ=some (.nx,ρ')/\Inv (k+l.length) ρ'
 | [],ρ,k,h0,_=>⟨ρ,rfl,h0⟩
 | d::r,ρ,k,h0,hs=>by
  obtain⟨ρ1,ρ2,e1,e2,h1⟩:=hs 0 d ρ rfl h0;obtain⟨ρ',e3,h3⟩:=akm (b:=b) (g:=g) Inv (l:=r) (ρ:=ρ2) (k+1) h1 fun i x ρ hx hi=>by
   have:=hs (i+1) x ρ (by simpa using hx) ((show k+(i+1)=k+1+i by omega)▸hi)
   have e:k+(i+1)+1=k+1+i+1:=by omega
   rw[e] at this;exact this
  refine⟨ρ',?_,?_⟩
  ·rw[uf,e1];rcases e2 with e2 | e2 <;> simp only[e2] <;> exact e3
  ·have e:k+(d::r).length=k+1+r.length:=by simp;omega
   rw[e];exact h3
theorem qu{b:D->Ro->Option Ro}{mc:M Bool}{me:M D}(Inv:Nat->List D->Ro->Prop):∀{l:List D} {ys:List D} {ρ:Ro} (k:Nat),Inv k ys ρ ->
  (∀i d ys ρ,l[i]? = some d->Inv (k+i) ys ρ->∃ρ1 ρ2 z,b d ρ=some ρ1/\mc ρ1=some (.ok z,ρ2)/\((z=false/\Inv (k+i+1) ys ρ2)∨(z=true/\∃y ρ3,me ρ2=some (.ok y,ρ3)/\Inv (k+i+1) (ys++[y]) ρ3))) ->
  ∃ys' ρ',compD b mc me l ys ρ=some (.ok ys',ρ')/\Inv (k+l.length) ys' ρ'
 | [],ys,ρ,k,h0,_=>⟨ys,ρ,rfl,h0⟩
 | d::r,ys,ρ,k,h0,hs=>by
  obtain⟨ρ1,ρ2,z,e1,e2,h1⟩:=hs 0 d ys ρ rfl h0;have nxt:∀{ys':List D} {ρ':Ro},Inv (k+0+1) ys' ρ'->∃ys2 ρ2,compD b mc me r ys' ρ'=some (.ok ys2,ρ2)/\Inv (k+1+r.length) ys2 ρ2:=fun{ys' ρ'} hi =>
   qu (b:=b) (mc:=mc) (me:=me) Inv (l:=r) (ys:=ys') (ρ:=ρ') (k+1) hi fun i x ys ρ hx hi=>by
    have:=hs (i+1) x ys ρ (by simpa using hx) ((show k+(i+1)=k+1+i by omega)▸hi)
    have e:k+(i+1)+1=k+1+i+1:=by omega
    rw[e] at this;exact this
  have el:k+(d::r).length=k+1+r.length:=by simp;omega
  rw[el];rcases h1 with⟨rfl,h1⟩ | ⟨rfl,y,ρ3,e3,h1⟩
  ·obtain⟨ys2,ρ4,e4,h4⟩:=nxt h1;exact⟨ys2,ρ4,by simp[compD,e1,e2,e4],h4⟩
  ·obtain⟨ys2,ρ4,e4,h4⟩:=nxt h1;exact⟨ys2,ρ4,by simp[compD,e1,e2,e3,e4],h4⟩
@[simp] theorem az2(neg:Bool)(a b:Int):gEq neg (.int a) (.int b)=some (.v (.bl (if neg then !(a==b) else (a==b)))):=rfl
@[simp] theorem a0r(neg:Bool)(a b:Bool):gEq neg (.bl a) (.bl b)=some (.v (.bl (if neg then !(a==b) else (a==b)))):=rfl
section
variable{K:Fg9}{X:Cx}{e a b c:Expr}{es:List Expr}{pos p p2:Pos}
def jd:List D->Option (List Int)
 | []=>some []
 | .int i::r=>(jd r).map (i :: ·)
 | _::_=>none
theorem qj:∀{l:List D} {ns:List Int},jd l=some ns->l=ns.map D.int
 | [],_,h=>by cases h;rfl
 | .int b::r,bs,h=>by
  have h':(jd r).map (b :: ·)=some bs:=h;cases e:jd r with
  | none=>rw[e] at h';cases h'
  | some t =>
   rw[e] at h';cases h';rw[qj e];rfl
 | .non::_,_,h=>by cases h
 | .bl _::_,_,h=>by cases h
 | .str _::_,_,h=>by cases h
 | .tup _::_,_,h=>by cases h
 | .lst _::_,_,h=>by cases h
 | .kst _::_,_,h=>by cases h
 | .dct _::_,_,h=>by cases h
@[simp] theorem my(ns:List Int):jd (ns.map D.int)=some ns:=by
 induction ns with
 | nil=>rfl
 | cons b r ih=>show(jd (r.map D.int)).map (b :: ·)=_;rw[ih];rfl
def insI(x:Int):List Int->List Int
 | []=>[x]
 | y::r=>if x<=y then x::y::r else y::insI x r
def sortI:List Int->List Int
 | []=>[]
 | x::r=>insI x (sortI r)
theorem insI_perm(x:Int):∀l:List Int,(insI x l).Perm (x::l)
 | []=>.refl _
 | y::r=>by
  unfold insI;split
  ·exact .refl _
  ·exact((insI_perm x r).cons y).trans (.swap x y r)
theorem sortI_perm:∀l:List Int,(sortI l).Perm l
 | []=>.refl _
 | x::r=>(insI_perm x (sortI r)).trans ((sortI_perm r).cons x)
theorem aer(x:Int):∀{l:List Int},l.Pairwise (· <= ·)->(insI x l).Pairwise (· <= ·)
 | [],_=>by simp[insI]
 | y::r,h=>by
  unfold insI;rw[List.pairwise_cons] at h;split
  ·rename_i hxy;rw[List.pairwise_cons,List.pairwise_cons];refine⟨fun z hz =>?_,h⟩
   rcases List.mem_cons.mp hz with rfl | hz
   ·exact hxy
   ·exact Int.le_trans hxy (h.1 z hz)
  ·rename_i hxy;rw[List.pairwise_cons];refine⟨fun z hz =>?_,aer x h.2⟩
   rcases List.mem_cons.mp ((insI_perm x r).mem_iff.mp hz) with rfl | hz
   ·omega
   ·exact h.1 z hz
theorem uy:∀l:List Int,(sortI l).Pairwise (· <= ·)
 | []=>.nil
 | x::r=>aer x (uy r)
theorem afl:∀{l k:List Int},l.Perm k->l.Pairwise (· <= ·)->k.Pairwise (· <= ·)->l=k
 | [],k,h,_,_=>h.nil_eq
 | x::r,[],h,_,_=>absurd h.length_eq (by simp)
 | x::r,y::t,h,hl,hk=>by
  rw[List.pairwise_cons] at hl hk;have e:x=y:=by
   have h1:x∈y::t:=h.mem_iff.mp (List.mem_cons_self ..);have h2:y∈x::r:=h.mem_iff.mpr (List.mem_cons_self ..);rcases List.mem_cons.mp h1 with h1 | h1
   ·exact h1
   ·rcases List.mem_cons.mp h2 with h2 | h2
    ·exact h2.symm
    ·have a:=hk.1 x h1;have b:=hl.1 y h2;omega
  subst e;rw[afl ((List.perm_cons x).mp h) hl.2 hk.2]
theorem adw{l k:List Int}(h:l.Perm k)(hs:l.Pairwise (· <= ·)):l=sortI k:=afl (h.trans (sortI_perm k).symm) hs (uy k)
theorem ux:∀{ns:List Int} {us:List Value},IntsAre us ns->Vals (ns.map V.int) us
 | _,_,.nil=>.nil
 | _,_,.cons n t h=>.cons ⟨t,rfl⟩ (ux h)
def agz:D->Option Rv
 | .lst l=>(jd l).bind fun ns=>if ns.length < 64 then some (.fr ((sortI ns).map D.int)) else none
 | _=>none
theorem aok:CallD K X (.builtin "sorted") (g1 agz):=zj fun hk jv s σ0 H x u Q tg F ρ σ d r I ru G bd eg q=>by
 subst hk;cases d with
 | lst l =>
  have eg:(jd l).bind (fun ns=>if ns.length < 64 then some (Rv.fr ((sortI ns).map D.int)) else none)=some r:=eg
  cases e:jd l with
  | none=>rw[e] at eg;cases eg
  | some ns =>
   rw[e] at eg;have eg:(if ns.length < 64 then some (Rv.fr ((sortI ns).map D.int)) else none)=some r:=eg
   split at eg
   ·rename_i h64;cases eg;obtain⟨a,vs,rfl,ea,hl⟩:=bd.lst G.sub;rw[qj e] at hl;rw[hl.int_inv] at ea;cases ru;obtain⟨its,rv,pl,_⟩:=I.list (SqL.of ea);have hlen:=rv.length;rw[List.length_map] at hlen;refine PyProof.Rows.sorted_ints pl.isList (intsAre_of rv) (by omega) fun out ns' i1 hp hs =>?_
    have e':=adw hp hs;subst e';obtain⟨ep,eo⟩:=PyProof.Rows.sortedAll_at s.heap its out;have hn:H (s.heap.objs.size+1)=none:=I.hok.fresh (Nat.le_succ _);refine⟨.ref (s.heap.objs.size+1),upd H (s.heap.objs.size+1) (.lst ((sortI ns).map V.int)),?_,rfl,Res.lst G q (aa0 _) hn⟩;refine I.laid (t':=s.toks) (fun b u e=>PyProof.Rows.sortedAll_old e) (Nat.le_succ _) ?_
    refine⟨?_,out.toList,ep,ux i1,by simpa using eo⟩
    rw[List.length_map,(sortI_perm ns).length_eq];exact Nat.le_of_lt (ab2 (by omega))
   ·cases eg
 | _=>cases eg
end
section
variable{K:Fg9}{X:Cx}{e a b c:Expr}{es:List Expr}{pos p p2:Pos}
def acl(lt:Int->Int->Bool):List Int->Int
 | []=>0
 | x::r=>r.foldl (fun m y=>if lt y m=true then y else m) x
theorem aoz(lt:Int->Int->Bool)(ns:List Int):∀k,k < ns.length->argBest (fun i j=>lt (ns.getD i 0) (ns.getD j 0)) k<=k/\ns.getD (argBest (fun i j=>lt (ns.getD i 0) (ns.getD j 0)) k) 0=acl lt (ns.take (k+1))
 | 0,h=>by
  cases ns with
  | nil=>simp at h
  | cons x r=>exact⟨Nat.le_refl _,rfl⟩
 | k+1,h=>by
  obtain⟨h1,h2⟩:=aoz lt ns k (by omega)
  have ht:ns.take (k+1+1)=ns.take (k+1)++[ns.getD (k+1) 0]:=by
   rw[List.take_add_one,List.getElem?_eq_getElem h];simp[List.getD,List.getElem?_eq_getElem h]
  have hb:acl lt (ns.take (k+1+1))=if lt (ns.getD (k+1) 0) (acl lt (ns.take (k+1)))=true then ns.getD (k+1) 0 else acl lt (ns.take (k+1)):=by
   rw[ht];cases ns with
   | nil=>simp at h
   | cons x r=>simp[acl,List.foldl_append]
  have ha:argBest (fun i j=>lt (ns.getD i 0) (ns.getD j 0)) (k+1)=if lt (ns.getD (k+1) 0) (ns.getD (argBest (fun i j=>lt (ns.getD i 0) (ns.getD j 0)) k) 0)=true then k+1 else argBest (fun i j=>lt (ns.getD i 0) (ns.getD j 0)) k:=rfl
  rw[hb,<-h2,ha]
  by_cases hc:lt (ns.getD (k+1) 0) (ns.getD (argBest (fun i j=>lt (ns.getD i 0) (ns.getD j 0)) k) 0)=true
  ·rw[if_pos hc,if_pos hc];exact⟨Nat.le_refl _,rfl⟩
  ·rw[if_neg hc,if_neg hc];exact⟨by omega,rfl⟩
theorem arc(lt:Int->Int->Bool)(ns:List Int)(h:ns≠[]):argBest (fun i j=>lt (ns.getD i 0) (ns.getD j 0)) (ns.length - 1) < ns.length/\ns.getD (argBest (fun i j=>lt (ns.getD i 0) (ns.getD j 0)) (ns.length - 1)) 0=acl lt ns:=by
 have hl:0 < ns.length:=List.length_pos_iff.mpr h;obtain⟨h1,h2⟩:=aoz lt ns (ns.length - 1) (by omega)
 refine⟨by omega,?_⟩
 rw[h2,show ns.length - 1+1=ns.length by omega,List.take_length]
def aw7(lt:Int->Int->Bool):D->Option Rv
 | .lst l=>(jd l).bind fun ns=>if ns=[] then none else some (.v (.int (acl lt ns)))
 | .tup l=>(jd l).bind fun ns=>if ns=[] then none else some (.v (.int (acl lt ns)))
 | _=>none
theorem ajq{lt:Int->Int->Bool}{d:D}{r:Rv}(h:aw7 lt d=some r):∃ns:List Int,ns≠[]/\r=.v (.int (acl lt ns))/\(d=.lst (ns.map D.int)∨d=.tup (ns.map D.int)):=by
 have go:∀l,(jd l).bind (fun ns=>if ns=[] then none else some (Rv.v (.int (acl lt ns))))=some r->∃ns:List Int,ns≠[]/\r=.v (.int (acl lt ns))/\l=ns.map D.int:=fun l h=>by
  cases e:jd l with
  | none=>rw[e] at h;cases h
  | some ns =>
   rw[e] at h;have h:(if ns=[] then none else some (Rv.v (.int (acl lt ns))))=some r:=h
   split at h
   ·cases h
   ·rename_i hn;cases h;exact⟨ns,hn,rfl,qj e⟩
 cases d with
 | lst l=>obtain⟨ns,h1,h2,rfl⟩:=go l h;exact⟨ns,h1,h2,.inl rfl⟩
 | tup l=>obtain⟨ns,h1,h2,rfl⟩:=go l h;exact⟨ns,h1,h2,.inr rfl⟩
 | _=>cases h
theorem aeo{ns:List Int}{its:List Value}(rv:Vals (ns.map V.int) its)(i:Nat)(v:Value)(h:its.toArray[i]? = some v):∃t,v=.int (ns.getD i 0) t:=by
 have h:its[i]? = some v:=by simpa using h
 have hi:i < its.length:=(List.getElem?_eq_some_iff.mp h).1;have hl:=rv.length;rw[List.length_map] at hl;have hi':i < ns.length:=by omega
 obtain⟨u,hu,t,rfl⟩:=rv.get (i:=i) (x:=V.int ns[i]) (by rw[List.getElem?_map,List.getElem?_eq_getElem hi'];rfl)
 rw[h] at hu;cases hu;exact⟨t,by simp[List.getD,List.getElem?_eq_getElem hi']⟩
def an2:D->Option Rv:=aw7 fun i j=>decide (i < j)
theorem aom(hc:X.calm=true):CallD K X (.builtin "min") (g1 an2):=zj fun hk jv s σ0 H x u Q tg F ρ σ d r I ru G bd eg q=>by
 subst hk;obtain⟨ns,hn,rfl,hd⟩:=ajq eg;have q':=Res.same G q (.int _);obtain⟨hb1,hb2⟩:=arc (fun i j=>decide (i < j)) ns hn
 have fin:∀{its:List Value} (rv:Vals (ns.map V.int) its) {v:Value} {h':Heap} {tk:Nat},its.toArray[argBest (fun i j=>decide (ns.getD i 0 < ns.getD j 0)) (its.toArray.size - 1)]? = some v->(∀b o,s.heap.get? b=some o->h'.get? b=some o)->EP X jv σ0 Q v { s with heap:=h',toks:=tk }:=fun{its} rv {v h' tk} hv hk=>by
  have hl:=rv.length;rw[List.length_map] at hl;rw[List.size_toArray,<-hl] at hv;obtain⟨t,rfl⟩:=aeo rv _ v hv;exact⟨.int (acl (fun i j=>decide (i < j)) ns),H,I.kept hk,⟨t,by rw[hb2]⟩,q'⟩
 rcases hd with rfl | rfl
 ·obtain⟨a,vs,rfl,ea,hl⟩:=bd.lst G.sub;rw[hl.int_inv] at ea;cases ru;obtain⟨its,rv,pl,_⟩:=I.list (SqL.of ea);have hl':=pl.isList;have hlt:a < s.heap.objs.size:=by obtain⟨_,e,_⟩:=hl';exact Heap.lt_size e
  have hlen:=rv.length;rw[List.length_map] at hlen;refine call_min_walk (wpAny_pyIter_list hl' ⟨s.heap.objs.size,[s.heap.objs.size,a],[s.heap.objs.size],its.toArray.size,_,_,_,rfl,Walks.list (A:=X.A.in1) (I.ok.hd hc) _ a (Nat.ne_of_lt hlt) its.toArray,
   ⟨⟨_,Heap.get?_push_size _ rfl,rfl,rfl⟩,hl'.push _⟩,fun b hb =>?_,?_,CmpOf.ints_lt (fun i=>ns.getD i 0) (fun i v=>aeo rv i v),fun v h' tk hP hk=>fin rv hP (LSm.kept_iter hk)⟩)
  ·have hs:∀o:Obj,(s.heap.push o).objs.size=s.heap.objs.size+1:=fun o=>Heap.size_push ..
   show b < (s.heap.push _).objs.size;rw[hs];rcases List.mem_cons.mp hb with hb | hb
   ·exact hb▸Nat.lt_succ_self _
   ·have hb:b=a:=by simpa using hb
    exact hb▸Nat.lt_succ_of_lt hlt
  ·rw[List.size_toArray,<-hlen];exact List.length_pos_iff.mpr hn
 ·obtain⟨a,vs,rfl,ea,hl⟩:=bd.tup;rw[hl.int_inv] at ea;cases ru;obtain⟨its,rv,pl,_⟩:=I.tuple (SqT.of (G.sub _ _ ea));have hlt:a < s.heap.objs.size:=by obtain⟨_,e,_⟩:=pl;exact Heap.lt_size e
  have hlen:=rv.length;rw[List.length_map] at hlen;refine call_min_walk (wpAny_pyIter_tuple pl ⟨s.heap.objs.size,[s.heap.objs.size,a],[s.heap.objs.size],its.toArray.size,_,_,_,rfl,Walks.tuple (A:=X.A.in1) (I.ok.hd hc) _ a (Nat.ne_of_lt hlt) its.toArray,
   ⟨⟨_,Heap.get?_push_size _ rfl,rfl,rfl⟩,pl.push _⟩,fun b hb =>?_,?_,CmpOf.ints_lt (fun i=>ns.getD i 0) (fun i v=>aeo rv i v),fun v h' tk hP hk=>fin rv hP (LSm.kept_iter hk)⟩)
  ·have hs:∀o:Obj,(s.heap.push o).objs.size=s.heap.objs.size+1:=fun o=>Heap.size_push ..
   show b < (s.heap.push _).objs.size;rw[hs];rcases List.mem_cons.mp hb with hb | hb
   ·exact hb▸Nat.lt_succ_self _
   ·have hb:b=a:=by simpa using hb
    exact hb▸Nat.lt_succ_of_lt hlt
  ·rw[List.size_toArray,<-hlen];exact List.length_pos_iff.mpr hn
end
end Dn
namespace En
open PySem PySem.Builtin
def It1(k:Bool)(h:Heap)(it l:Addr)(i:Nat):Prop:=cond k (h.IsTupleIter it l i) (h.IsListIter it l i)
def Sq1(k:Bool)(h:Heap)(l:Addr)(xs:Array Value):Prop:=cond k (h.IsTuple l xs) (h.IsList l xs)
section
variable{prog:Program}{w:World}{A:Around}{E:Value->Shared->Prop}{s:Shared}
theorem atk{it t:Addr}{i:Nat}{xs:Array Value}{x:Value}{Q:Value->Shared->Prop}(h1:s.heap.IsTupleIter it t i)(h2:s.heap.IsTuple t xs)(hx:xs[i]? = some x)
  (q:∀h',h'.IsTupleIter it t (i+1)->Heap.SameBut it s.heap h'->Q x { s with heap:=h' }):wpAny (model prog w) A (SmallTypes.nextOf (.ref it)) Q E s:=by
 obtain⟨o1,e1,c1,d1⟩:=id h1;obtain⟨o2,e2,_,k2,d2⟩:=h2;have nn:¬((Value.ref t==Value.none)=true):=Bool.false_ne_true;unfold SmallTypes.nextOf;refine wpAny_bind (wpAny_callSpecial?_slot (name:=Str.ofString "__next__") h1.typeIs F.slot_tuple_iterator_next (wpAny_call_entry F.slot_tuple_iterator_next h1.typeIs F.entry_tuple_iterator_next ?_ (F.args_tuple_iterator_next_1 _)));refine wpAny_bind (m:=field (.ref it) 0) (wpAny_field e1 d1 (x:=.ref t) rfl ?_);show wpAny _ _ (if (Value.ref t==Value.none)=true then _ else (field (.ref it) 1 >>= _)) _ _ s;rw[if_neg nn]
 refine wpAny_bind (m:=field (.ref it) 1) (wpAny_field e1 d1 (x:=.int i 0) rfl ?_);refine wpAny_bind (m:=seqItems? (.ref t)) (wpAny_seqItems e2 d2 ?_);simp only[Int.toNat_natCast,hx];refine wpAny_bind (wpAny_setField e1 d1 (by simp) (wpAny_pure ⟨x,rfl,wpAny_pure (q _ ?_ (Heap.SameBut.update ..))⟩))
 refine⟨_,Heap.get?_update_self _ e1 (Obj.isFreed_of_fields (Obj.data_mapFields d1 _)),(Obj.cls_mapFields ..).trans c1,?_⟩;rw[Obj.data_mapFields d1];simp[rawInt]
theorem auc{it t:Addr}{i:Nat}{xs:Array Value}{Q:Value->Shared->Prop}(hh:A.handled=none)(h1:s.heap.IsTupleIter it t i)(h2:s.heap.IsTuple t xs)(hx:xs[i]? = none)
  (q:∀h' e,Heap.ExtBut it s.heap h'->(∃o,h'.get? e=some o/\o.cls=.type "StopIteration")->E (.ref e) { s with heap:=h' }):wpAny (model prog w) A (SmallTypes.nextOf (.ref it)) Q E s:=by
 obtain⟨o1,e1,c1,d1⟩:=id h1;obtain⟨o2,e2,_,k2,d2⟩:=h2;have nn:¬((Value.ref t==Value.none)=true):=Bool.false_ne_true;unfold SmallTypes.nextOf;refine wpAny_bind (wpAny_callSpecial?_slot (name:=Str.ofString "__next__") h1.typeIs F.slot_tuple_iterator_next (wpAny_call_entry F.slot_tuple_iterator_next h1.typeIs F.entry_tuple_iterator_next ?_ (F.args_tuple_iterator_next_1 _)));refine wpAny_bind (m:=field (.ref it) 0) (wpAny_field e1 d1 (x:=.ref t) rfl ?_);show wpAny _ _ (if (Value.ref t==Value.none)=true then _ else (field (.ref it) 1 >>= _)) _ _ s;rw[if_neg nn]
 refine wpAny_bind (m:=field (.ref it) 1) (wpAny_field e1 d1 (x:=.int i 0) rfl ?_);refine wpAny_bind (m:=seqItems? (.ref t)) (wpAny_seqItems e2 d2 ?_);simp only[Int.toNat_natCast,hx];refine wpAny_bind (wpAny_rule (wpAny_bind (wpAny_setField e1 d1 (by simp) ?_)))
 refine wpAny_bind (m:=newExc (.type "StopIteration") []) ?_;simp only[newExc,newTuple];refine wpAny_bind (wpAny_newObj_type ?_ (by size_fits))
 refine wpAny_bind (m:=firstArgMember _ _) (wpAny_of_eq (a:=Value.none) (by first | rfl | (simp only[firstArgMember];rfl)) (wpAny_newObj_type ?_ (by size_fits)))
 simp only[raiseNew];refine wpAny_bind (wpAny_handled ?_);first | rw[show A.in1.handled=none from hh] | rw[hh]
 refine wpAny_bind (wpAny_pure (wpAny_throw (q _ _ ?_ ⟨_,Heap.get?_push_size _ rfl,rfl⟩)));exact((Heap.SameBut.update ..).extBut.push _).push _
theorem src(hh:A.handled=none)(k:Bool)(it l:Addr)(ne:l≠it)(xs:Array Value):Draws prog w A it [it,l] xs.size (fun i v=>xs[i]? = some v) (fun i h=>It1 k h it l i/\Sq1 k h l xs):=by
 cases k with
 | false=>exact Draws.list hh it l ne xs
 | true=>exact{
   live:=fun _ _ z=>let ⟨o,e,_⟩:=z.1;⟨o,e⟩
   frame:=fun _ _ _ z kk=>⟨(let ⟨o,e,r⟩:=z.1;⟨o,kk it (by simp) o e,r⟩),(let ⟨o,e,r⟩:=z.2;⟨o,kk l (by simp) o e,r⟩)⟩
   item:=fun i s Q E hi z q=>atk z.1 z.2 (x:=xs[i]) (by simp[hi]) fun h' z' sb=>q _ h' s.toks (by simp[hi]) ⟨z',Heap.IsTuple.extBut z.2 sb.extBut ne⟩ sb
   done:=fun s Q E z q=>auc hh z.1 z.2 (by simp) q }
theorem It1.at{k:Bool}{h h':Heap}{it l:Addr}{i:Nat}(x:It1 k h it l i)(e:∀o,h.get? it=some o->h'.get? it=some o):It1 k h' it l i:=by
 cases k <;> exact(let ⟨o,z,r⟩:=x;⟨o,e _ z,r⟩)
theorem It1.got{k:Bool}{h:Heap}{it l:Addr}{i:Nat}(x:It1 k h it l i):∃o,h.get? it=some o/\∀v,o.data≠.cell v:=by
 cases k <;> exact(let ⟨o,z,_,r⟩:=x;⟨o,z,fun v e=>by rw[r] at e;cases e⟩)
theorem Sq1.at{k:Bool}{h h':Heap}{l:Addr}{xs:Array Value}(x:Sq1 k h l xs)(e:∀o,h.get? l=some o->h'.get? l=some o):Sq1 k h' l xs:=by
 cases k <;> exact(let ⟨o,z,r⟩:=x;⟨o,e _ z,r⟩)
theorem Sq1.got{k:Bool}{h:Heap}{l:Addr}{xs:Array Value}(x:Sq1 k h l xs):∃o,h.get? l=some o:=by
 cases k <;> exact(let ⟨o,z,_⟩:=x;⟨o,z⟩)
theorem aqi{k:Bool}{l:Addr}{xs:Array Value}{Q:Value->Shared->Prop}(h:Sq1 k s.heap l xs)
  (q:Q (.ref s.heap.objs.size) { s with heap:=s.heap.push { cls:=.type (cond k "tuple_iterator" "list_iterator"),data:=.fields #[.ref l,.int 0 0] } }):wpAny (model prog w) A (pyIter (.ref l)) Q E s:=by
 cases k with
 | false=>exact wpAny_pyIter_list h q
 | true=>exact wpAny_pyIter_tuple h q
theorem ajk{k:Bool}{h:Heap}{l a:Addr}(e:h.get? a=some { cls:=.type (cond k "tuple_iterator" "list_iterator"),data:=.fields #[.ref l,.int 0 0] }):It1 k h a l 0:=by
 cases k <;> exact⟨_,e,rfl,rfl⟩
end
set_option maxRecDepth 100000
abbrev eh1(k:Bool)(h:Heap)(l:Addr):Heap:=h.push { cls:=.type (cond k "tuple_iterator" "list_iterator"),data:=.fields #[.ref l,.int 0 0] }
abbrev eh2(k:Bool)(h:Heap)(l:Addr):Heap:=(eh1 k h l).push { cls:=.type "enumerate", data:=.fields #[.none,.bool false,.ref h.objs.size,rawInt 0,.none,.none] }
theorem ato(k:Bool)(l:Addr)(o:Obj)(xs:Array Value) :
  Meets (Builtin.«enumerate.__new__» ⟨[.type "enumerate", .ref l],[]⟩) (fun _ R s=>s.heap.get? l=some o/\Sq1 k s.heap l xs/\R (.ok (.ret (.ref (eh1 k s.heap l).objs.size))) { s with heap:=eh2 k s.heap l }) :=
 .of_wp fun prog w A R s h=>by
  obtain⟨hp,g,d,tk,os⟩:=s;obtain⟨ho,r1,h⟩:=h;have sb:=sub_enumerate;have r1:Sq1 k (Shared.heap ⟨hp,g,d,tk,os⟩) l xs:=r1;wp_walk using AutoSeq1.wpAny_loadPart' ho;refine wpAny_stack_any fun st=>wpAny_pure ?_
  split
  ·rename_i c _ _ _ _ _;cases(c==Value.type "enumerate") <;> (wp_walk using AutoSeq1.wpAny_loadPart' ho,aqi r1;exact⟨_,rfl,h⟩)
  ·wp_walk using AutoSeq1.wpAny_loadPart' ho,aqi r1;exact⟨_,rfl,h⟩
theorem aos{prog:Program}{w:World}{A:Around}{E:Value->Shared->Prop}{s:Shared}{k:Bool}{l:Addr}{xs:Array Value}{Q:Value->Shared->Prop}(s1:Sq1 k s.heap l xs)
  (q:∀h',IsEnum h' (s.heap.objs.size+1) s.heap.objs.size 0 .none->It1 k h' s.heap.objs.size l 0->h'.objs.size=s.heap.objs.size+2->(∀b o,s.heap.get? b=some o->h'.get? b=some o)->Q (.ref (s.heap.objs.size+1)) { s with heap:=h' }) :
  wpAny (model prog w) A (call (.type "enumerate") [.ref l]) Q E s:=by
 obtain⟨o,ho⟩:=s1.got;refine callType_new F.called_enumerate (by decide) (F.typeCall_enumerate_1 _) (F.newCall_enumerate_1 _) (fun obj=>F.args_object_init_2 obj _) F.entry_enumerate_new (ato k l o xs) ⟨ho,s1,?_⟩
 have z1:(eh1 k s.heap l).objs.size=s.heap.objs.size+1:=Heap.size_push ..
 have g2:(eh2 k s.heap l).get? (eh1 k s.heap l).objs.size=some _:=Heap.get?_push_size _ rfl;have g1:(eh2 k s.heap l).get? s.heap.objs.size=some _:=Heap.get?_push_of_some _ (Heap.get?_push_size _ rfl);rw[z1] at g2;show _/\_;rw[z1];exact⟨⟨_,g2,rfl⟩,q _ g2 (ajk g1) (by rw[Heap.size_push,z1]) fun b o x=>Heap.get?_push_of_some _ (Heap.get?_push_of_some _ x)⟩
end En
namespace En
open PySem PySem.Builtin
set_option maxRecDepth 100000
theorem ase(v1 v2:Value):checkTypeCall "zip" ⟨[v1,v2],[]⟩=pure ():=by kernel_rfl
theorem atm(v1 v2:Value):checkBuiltinCall "zip.__new__" ⟨[.type "zip", v1,v2],[]⟩=pure ():=by kernel_rfl
theorem auv(o v1 v2:Value):argsOk "object.__init__" ⟨[o,v1,v2],[]⟩:=by
 unfold argsOk;rw[signature?_of (id := "object.__init__") (n:=['_','_','t','i','n','i','_','_']) (o:=['t','c','e','j','b','o']) (by kernel_rfl) F.owner_object];kernel_rfl
abbrev Row2(h:Heap)(T:Addr)(v1 v2:Value):Prop:=h.get? T=some { cls:=.type "tuple", data:=.seq #[v1,v2] }
structure Apart2 (z TI TO i1 i2 l1 l2:Addr):Prop where
 nTIz:TI≠z
 nTOz:TO≠z
 nTOTI:TO≠TI
 ni1z:i1≠z
 ni1TI:i1≠TI
 ni1TO:i1≠TO
 ni2z:i2≠z
 ni2TI:i2≠TI
 ni2TO:i2≠TO
 ni2i1:i2≠i1
 nl1z:l1≠z
 nl1TO:l1≠TO
 nl1i1:l1≠i1
 nl1i2:l1≠i2
 nl2z:l2≠z
 nl2TO:l2≠TO
 nl2i1:l2≠i1
 nl2i2:l2≠i2
section
variable{prog:Program}{w:World}{A:Around}{E:Value->Shared->Prop}{s:Shared}
theorem avj{T:Addr}{v1 v2 x:Value}{Q:Unit->Shared->Prop}(h:Row2 s.heap T v1 v2)(q:∀h',Row2 h' T x v2->Heap.SameBut T s.heap h'->Q () { s with heap:=h' }):wpAny (model prog w) A (updateSeq T (·.setIfInBounds 0 x)) Q E s:=by
 refine wpAny_updateSeq h rfl (q _ (show Heap.get? _ T=_ from ?_) (Heap.SameBut.update ..))
 rw[Heap.get?_update_self _ h rfl];simp[Obj.mapSeq]
theorem avi{T:Addr}{v1 v2 x:Value}{Q:Unit->Shared->Prop}(h:Row2 s.heap T v1 v2)(q:∀h',Row2 h' T v1 x->Heap.SameBut T s.heap h'->Q () { s with heap:=h' }):wpAny (model prog w) A (updateSeq T (·.setIfInBounds 1 x)) Q E s:=by
 refine wpAny_updateSeq h rfl (q _ (show Heap.get? _ T=_ from ?_) (Heap.SameBut.update ..))
 rw[Heap.get?_update_self _ h rfl];simp[Obj.mapSeq]
theorem al4{z TI TO i1 i2 l1 l2:Addr}{k1 k2:Bool}{i:Nat}{x1 x2:Array Value}{v1 v2:Value}{Q:Value->Shared->Prop}(hh:A.handled=none)(D:Apart2 z TI TO i1 i2 l1 l2)
  (hz:IsZip s.heap z TI TO .none) (hI:Row2 s.heap TI (.ref i1) (.ref i2)) (hO:Row2 s.heap TO v1 v2) (h1:It1 k1 s.heap i1 l1 i) (s1:Sq1 k1 s.heap l1 x1) (h2:It1 k2 s.heap i2 l2 i) (s2:Sq1 k2 s.heap l2 x2) (b1:i < x1.size) (b2:i < x2.size)
  (q:∀h' tk y1 y2,x1[i]? = some y1->x2[i]? = some y2->IsZip h' z TI TO (rawInt s.heap.objs.size)->Row2 h' TO y1 y2->It1 k1 h' i1 l1 (i+1)->It1 k2 h' i2 l2 (i+1)->Row2 h' s.heap.objs.size y1 y2->h'.objs.size=s.heap.objs.size+1 ->
   (∀c o,c≠z->c≠TO->c≠i1->c≠i2->s.heap.get? c=some o->h'.get? c=some o)->Q (.ref s.heap.objs.size) { s with heap:=h',toks:=tk }) :
  wpAny (model prog w) A (Builtin.«zip.__next__» ⟨[.ref z],[]⟩) (fun fin s'=>∃v,fin=.done (.ret v)/\Q v s') E s:=by
 refine wpAny_bind (m:=field (.ref z) 2) (wpAny_field hz rfl (x:=.bool false) rfl ?_);refine wpAny_bind (m:=field (.ref z) 3) (wpAny_field hz rfl (x:=.ref TI) rfl ?_);refine wpAny_bind (wpAny_seqItems hI rfl ?_);refine wpAny_bind (m:=SmallTypes.ownedTupleIsFree (.ref z)) ?_;unfold SmallTypes.ownedTupleIsFree;refine wpAny_bind (wpAny_field hz rfl (x:=.none) rfl (wpAny_pure ?_));simp only[if_true];refine wpAny_bind (wpAny_rule (wpAny_bind (wpAny_field hz rfl (x:=.ref TO) rfl ?_)));refine wpAny_bind (wpAny_setField_rec hz (by simp) fun g0 z0 a0 =>?_)
 have z0:IsZip g0 z TI TO .ellipsis:=z0;refine wpAny_bind ?_;simp only[List.zipIdx_cons,List.zipIdx_nil,List.forIn_cons,List.forIn_nil];refine wpAny_bind (wpAny_bind (wpAny_onRaise ?_));refine wpAny_bind (m:=SmallTypes.nextOf (.ref i1)) ((src hh k1 i1 l1 D.nl1i1 x1).item i _ _ _ b1 ⟨(h1.at fun _ e=>(a0.extBut _ _ D.ni1z e)),(s1.at fun _ e=>(a0.extBut _ _ D.nl1z e))⟩ fun y1 f1 t1 p1 q1 c1=>wpAny_pure ?_)
 have c1:Heap.SameBut i1 g0 f1:=c1;have P1:Row2 f1 TO v1 v2:=(c1.extBut _ _ D.ni1TO.symm (a0.extBut _ _ D.nTOz hO));refine wpAny_bind (wpAny_seqItems P1 rfl ?_);refine wpAny_bind (avj P1 fun g1 O1 a1 =>?_)
 have a1:Heap.SameBut TO f1 g1:=a1;refine wpAny_bind (wpAny_letGo (wpAny_pure ?_));refine wpAny_bind (wpAny_bind (wpAny_onRaise ?_));refine wpAny_bind (m:=SmallTypes.nextOf (.ref i2)) ((src hh k2 i2 l2 D.nl2i2 x2).item i _ _ _ b2 ⟨(h2.at fun _ e=>(a1.extBut _ _ D.ni2TO (c1.extBut _ _ D.ni2i1 (a0.extBut _ _ D.ni2z e)))),(s2.at fun _ e=>(a1.extBut _ _ D.nl2TO (c1.extBut _ _ D.nl2i1 (a0.extBut _ _ D.nl2z e))))⟩ fun y2 f2 t2 p2 q2 c2=>wpAny_pure ?_)
 have c2:Heap.SameBut i2 g1 f2:=c2;have P2:Row2 f2 TO y1 v2:=(c2.extBut _ _ D.ni2TO.symm O1);refine wpAny_bind (wpAny_seqItems P2 rfl ?_);refine wpAny_bind (avi P2 fun g2 O2 a2 =>?_)
 have a2:Heap.SameBut TO f2 g2:=a2;refine wpAny_bind (wpAny_letGo (wpAny_pure (wpAny_pure ?_)));refine wpAny_bind (wpAny_seqItems O2 rfl (wpAny_bind (wpAny_newTuple ?_)));have sz:g2.objs.size=s.heap.objs.size:=by rw[a2.1,c2.1,a1.1,c1.1,a0.1]
 have zn:IsZip g2 z TI TO .ellipsis:=(a2.extBut _ _ D.nTOz.symm (c2.extBut _ _ D.ni2z.symm (a1.extBut _ _ D.nTOz.symm (c1.extBut _ _ D.ni1z.symm z0))));have kn:∀c o,c≠z->c≠TO->c≠i1->c≠i2->s.heap.get? c=some o->g2.get? c=some o:=fun c o n0 n1 n2 n3 e=>(a2.extBut _ _ n1 (c2.extBut _ _ n3 (a1.extBut _ _ n1 (c1.extBut _ _ n2 (a0.extBut _ _ n0 e)))))
 have j1:It1 k1 g2 i1 l1 (i+1):=q1.1.at fun _ e=>(a2.extBut _ _ D.ni1TO (c2.extBut _ _ D.ni2i1.symm (a1.extBut _ _ D.ni1TO e)))
 have j2:It1 k2 g2 i2 l2 (i+1):=q2.1.at fun _ e=>(a2.extBut _ _ D.ni2TO e)
 have lz:z < g2.objs.size:=Heap.lt_size zn;refine wpAny_bind (m:=SmallTypes.ownedTupleHandOut (.ref z) (.ref g2.objs.size)) ?_;unfold SmallTypes.ownedTupleHandOut;have zp:IsZip (g2.push { cls:=.type "tuple", data:=.seq #[y1,y2] }) z TI TO .ellipsis:=Heap.get?_push_of_some _ zn;refine wpAny_bind (wpAny_setField_rec zp (by simp) fun e1 z1 b1' =>?_)
 have z1:IsZip e1 z TI TO (rawInt g2.objs.size):=z1;refine wpAny_setField_rec z1 (by simp) fun e2 z2 b2' =>?_
 have z2:IsZip e2 z TI TO (rawInt g2.objs.size):=z2;have up:∀c o,c≠z->g2.get? c=some o->e2.get? c=some o:=fun c o n1 e=>b2'.extBut _ _ n1 (b1'.extBut _ _ n1 (Heap.get?_push_of_some _ e))
 have t2:Row2 e2 g2.objs.size y1 y2:=b2'.extBut _ _ (Nat.ne_of_gt lz) (b1'.extBut _ _ (Nat.ne_of_gt lz) (Heap.get?_push_size _ rfl));have s2':e2.objs.size=g2.objs.size+1:=by rw[b2'.1,b1'.1,Heap.size_push]
 rw[sz] at z2 t2 s2';refine wpAny_pure ⟨_,rfl,?_⟩;show Q (.ref g2.objs.size) _;rw[sz];exact q e2 _ y1 y2 p1 p2 z2 (up _ _ D.nTOz O2) (j1.at fun _ e=>up _ _ D.ni1z e) (j2.at fun _ e=>up _ _ D.ni2z e) t2 s2' fun c o n0 n1 n2 n3 e=>up c o n0 (kn c o n0 n1 n2 n3 e)
theorem ao9{z TI TO i1 i2 l1 l2:Addr}{k1:Bool}{x1:Array Value}{v1 v2:Value}{Q:Fin->Shared->Prop}(hh:A.handled=none)(D:Apart2 z TI TO i1 i2 l1 l2)
  (hz:IsZip s.heap z TI TO .none) (hI:Row2 s.heap TI (.ref i1) (.ref i2)) (hO:Row2 s.heap TO v1 v2) (h1:It1 k1 s.heap i1 l1 x1.size) (s1:Sq1 k1 s.heap l1 x1)
  (q:∀h' e,(∀c o,c≠z->c≠i1->s.heap.get? c=some o->h'.get? c=some o)->(∃o,h'.get? e=some o/\o.cls=.type "StopIteration")->E (.ref e) { s with heap:=h' }) :
  wpAny (model prog w) A (Builtin.«zip.__next__» ⟨[.ref z],[]⟩) Q E s:=by
 refine wpAny_bind (m:=field (.ref z) 2) (wpAny_field hz rfl (x:=.bool false) rfl ?_);refine wpAny_bind (m:=field (.ref z) 3) (wpAny_field hz rfl (x:=.ref TI) rfl ?_);refine wpAny_bind (wpAny_seqItems hI rfl ?_);refine wpAny_bind (m:=SmallTypes.ownedTupleIsFree (.ref z)) ?_;unfold SmallTypes.ownedTupleIsFree;refine wpAny_bind (wpAny_field hz rfl (x:=.none) rfl (wpAny_pure ?_));simp only[if_true];refine wpAny_bind (wpAny_rule (wpAny_bind (wpAny_field hz rfl (x:=.ref TO) rfl ?_)));refine wpAny_bind (wpAny_setField_rec hz (by simp) fun g0 z0 a0 =>?_)
 have z0:IsZip g0 z TI TO .ellipsis:=z0;refine wpAny_bind ?_;simp only[List.zipIdx_cons,List.zipIdx_nil,List.forIn_cons,List.forIn_nil];refine wpAny_bind (wpAny_bind (wpAny_onRaise ?_));refine wpAny_bind (m:=SmallTypes.nextOf (.ref i1)) ((src hh k1 i1 l1 D.nl1i1 x1).done _ _ _ ⟨(h1.at fun _ e=>a0.extBut _ _ D.ni1z e),(s1.at fun _ e=>a0.extBut _ _ D.nl1z e)⟩ fun f1 e c1 ⟨oe,he,ce⟩ =>?_)
 have zf:IsZip f1 z TI TO .ellipsis:=c1 _ _ D.ni1z.symm z0;have ez:e≠z:=fun x=>by subst x;rw[zf] at he;cases he;simp at ce
 refine wpAny_setField_rec zf (by simp) fun f2 _ a1=>q f2 e (fun c o n1 n2 y=>a1.extBut _ _ n1 (c1 _ _ n2 (a0.extBut _ _ n1 y))) ⟨oe,a1.extBut _ _ ez he,ce⟩
abbrev al5(h:Heap)(k1 k2:Bool)(l1 l2:Addr):Heap:=h.push { cls:=.type (cond k1 "tuple_iterator" "list_iterator"),data:=.fields #[.ref l1,.int 0 0] }
abbrev apc(h:Heap)(k1 k2:Bool)(l1 l2:Addr):Heap:=(al5 h k1 k2 l1 l2).push { cls:=.type (cond k2 "tuple_iterator" "list_iterator"),data:=.fields #[.ref l2,.int 0 0] }
abbrev apb(h:Heap)(k1 k2:Bool)(l1 l2:Addr):Heap:=(apc h k1 k2 l1 l2).push { cls:=.type "tuple", data:=.seq #[.ref h.objs.size,.ref (al5 h k1 k2 l1 l2).objs.size] }
abbrev apa(h:Heap)(k1 k2:Bool)(l1 l2:Addr):Heap:=(apb h k1 k2 l1 l2).push { cls:=.type "tuple", data:=.seq #[.none,.none] }
abbrev aiv(h:Heap)(k1 k2:Bool)(l1 l2:Addr):Heap:=(apa h k1 k2 l1 l2).push { cls:=.type "zip", data:=.fields #[.none,.bool false,.bool false,.ref (apc h k1 k2 l1 l2).objs.size,.ref (apb h k1 k2 l1 l2).objs.size] }
theorem atn(k1 k2:Bool)(l1 l2:Addr)(x1 x2:Array Value) :
  Meets (Builtin.«zip.__new__» ⟨[.type "zip", .ref l1,.ref l2],[]⟩) (fun _ R s=>Sq1 k1 s.heap l1 x1/\Sq1 k2 s.heap l2 x2/\R (.ok (.ret (.ref (apa s.heap k1 k2 l1 l2).objs.size))) { s with heap:=aiv s.heap k1 k2 l1 l2 }) :=
 .of_wp fun prog w A R s h=>by
  obtain⟨hp,g,d,tk,os⟩:=s;obtain⟨s1,s2,h⟩:=h;have sb:=sub_zip;have r1:Sq1 k1 (Shared.heap ⟨hp,g,d,tk,os⟩) l1 x1:=s1.at fun _ e=>e
  have r2:Sq1 k2 (Shared.heap ⟨al5 hp k1 k2 l1 l2,g,d,tk,os⟩) l2 x2:=s2.at fun _ e=>Heap.get?_push_of_some _ (e)
  wp_walk using aqi r1,aqi r2;exact⟨_,rfl,h⟩
theorem aoo{k1 k2:Bool}{l1 l2:Addr}{x1 x2:Array Value}{Q:Value->Shared->Prop}(s1:Sq1 k1 s.heap l1 x1)(s2:Sq1 k2 s.heap l2 x2)
  (q:∀h',IsZip h' (s.heap.objs.size+4) (s.heap.objs.size+2) (s.heap.objs.size+3) .none->Row2 h' (s.heap.objs.size+2) (.ref s.heap.objs.size) (.ref (s.heap.objs.size+1))->Row2 h' (s.heap.objs.size+3) .none .none->It1 k1 h' s.heap.objs.size l1 0->It1 k2 h' (s.heap.objs.size+1) l2 0->h'.objs.size=s.heap.objs.size+5->(∀c o,s.heap.get? c=some o->h'.get? c=some o)->Q (.ref (s.heap.objs.size+4)) { s with heap:=h' }) :
  wpAny (model prog w) A (call (.type "zip") [.ref l1,.ref l2]) Q E s:=by
 refine callType_new F.called_zip (by decide) (ase _ _) (atm _ _) (fun obj=>auv obj _ _) F.entry_zip_new (atn k1 k2 l1 l2 x1 x2) ⟨s1,s2,?_⟩
 have e1:(al5 s.heap k1 k2 l1 l2).objs.size=s.heap.objs.size+1:=by rw[Heap.size_push]
 have e2:(apc s.heap k1 k2 l1 l2).objs.size=s.heap.objs.size+2:=by rw[Heap.size_push,e1]
 have eI:(apb s.heap k1 k2 l1 l2).objs.size=s.heap.objs.size+3:=by rw[Heap.size_push,e2]
 have eO:(apa s.heap k1 k2 l1 l2).objs.size=s.heap.objs.size+4:=by rw[Heap.size_push,eI]
 have eZ:(aiv s.heap k1 k2 l1 l2).objs.size=s.heap.objs.size+5:=by rw[Heap.size_push,eO]
 have gZ:(aiv s.heap k1 k2 l1 l2).get? (apa s.heap k1 k2 l1 l2).objs.size=some _:=Heap.get?_push_size _ rfl;have gO:(aiv s.heap k1 k2 l1 l2).get? (apb s.heap k1 k2 l1 l2).objs.size=some _:=Heap.get?_push_of_some _ (Heap.get?_push_size _ rfl);have gI:(aiv s.heap k1 k2 l1 l2).get? (apc s.heap k1 k2 l1 l2).objs.size=some _:=Heap.get?_push_of_some _ (Heap.get?_push_of_some _ (Heap.get?_push_size _ rfl));have j1:(aiv s.heap k1 k2 l1 l2).get? s.heap.objs.size=some _:=Heap.get?_push_of_some _ (Heap.get?_push_of_some _ (Heap.get?_push_of_some _ (Heap.get?_push_of_some _ (Heap.get?_push_size _ rfl))));have j2:(aiv s.heap k1 k2 l1 l2).get? (al5 s.heap k1 k2 l1 l2).objs.size=some _:=Heap.get?_push_of_some _ (Heap.get?_push_of_some _ (Heap.get?_push_of_some _ (Heap.get?_push_size _ rfl)));show _/\_;rw[e2,eI,eO] at gZ;rw[e1,e2] at gI;rw[eI] at gO;rw[e1] at j2;rw[eO];exact⟨⟨_,gZ,rfl⟩,q _ gZ gI gO (ajk j1) (ajk j2) eZ fun c o x=>Heap.get?_push_of_some _ (Heap.get?_push_of_some _ (Heap.get?_push_of_some _ (Heap.get?_push_of_some _ (Heap.get?_push_of_some _ (x)))))⟩
end
structure Apart3 (z TI TO i1 i2 i3 l1 l2 l3:Addr):Prop where
 nTIz:TI≠z
 nTOz:TO≠z
 nTOTI:TO≠TI
 ni1z:i1≠z
 ni1TI:i1≠TI
 ni1TO:i1≠TO
 ni2z:i2≠z
 ni2TI:i2≠TI
 ni2TO:i2≠TO
 ni2i1:i2≠i1
 ni3z:i3≠z
 ni3TI:i3≠TI
 ni3TO:i3≠TO
 ni3i1:i3≠i1
 ni3i2:i3≠i2
 nl1z:l1≠z
 nl1TO:l1≠TO
 nl1i1:l1≠i1
 nl1i2:l1≠i2
 nl1i3:l1≠i3
 nl2z:l2≠z
 nl2TO:l2≠TO
 nl2i1:l2≠i1
 nl2i2:l2≠i2
 nl2i3:l2≠i3
 nl3z:l3≠z
 nl3TO:l3≠TO
 nl3i1:l3≠i1
 nl3i2:l3≠i2
 nl3i3:l3≠i3
section
variable{prog:Program}{w:World}{A:Around}{E:Value->Shared->Prop}{s:Shared}
end
end En
namespace Mn
open L2 En
def SqK(k:Bool)(K:Fg9)(H:Hp)(a:Addr)(xs:List V):Prop:=cond k (SqT K H a xs) (SqL K H a xs)
theorem ad1{xs:List V}{us:List Value}(r:Vals xs us){i:Nat}{x:V}{u:Value}(h:xs[i]? = some x)(h':us.toArray[i]? = some u):RelV x u:=by
 obtain⟨u',e,z⟩:=r.get h;have:us[i]? = some u:=by simpa using h'
 rw[this] at e;cases e;exact z
section
variable{X:Cx}{jv:List (Addr×Obj)}{σ:L2.St}{H:Hp}{s:Shared}{h':Heap}{a:Addr}{xs ys:List V}{k:Bool}
theorem adk(I:Inv X jv σ H s)(h:SqK k X.K H a xs):∃its:List Value,Vals xs its/\Sq1 k s.heap a its.toArray:=by
 cases k with
 | false =>
  obtain⟨its,r,p,_⟩:=I.list h;exact⟨its,r,p.isList⟩
 | true =>
  obtain⟨its,r,p,_⟩:=I.tuple h;exact⟨its,r,p⟩
theorem ajl(I:Inv X jv σ H s)(h:SqK k X.K H a xs)(h2:SqK k X.K H a ys):xs=ys:=by
 cases k with
 | false=>exact I.list_inj h h2
 | true=>exact I.tuple_inj h h2
theorem ac3{t':Nat}{fp:List Addr}(I:Inv X jv σ H s)(kk:∀b o,b∉fp->s.heap.get? b=some o->h'.get? b=some o)(hf:∀b∈fp,FpOk X jv H b):Inv X jv σ H { s with heap:=h',toks:=t' }:=by
 have nit:∀b u,H b=some u->b∉fp:=fun b u e z=>by rw[(hf b z).1] at e;cases e
 have nL:X.env.locals∉fp:=fun z=>(hf _ z).2.1 rfl
 refine I.step (g':=s.gens) (d':=s.drawn) (ch:=fp) (fun b hb=>⟨(hf b hb).2.2.2.1,(hf b hb).2.1,(hf b hb).2.2.2.2.1,(hf b hb).2.2.2.2.2⟩) (fun b o _ _ hc e _=>kk b o hc e) (fun b o _ _ hc e _=>⟨o.slots,kk b o hc e⟩) (fun _ _ _ _ n=>n)
  (fun b o hc e=>⟨o,kk b o hc e⟩) (fun _ _ e=>e) (fun _ _ _ e=>e) (fun b ps e=>⟨#[],by rw[e];simp⟩) (fun m hm =>?_) (fun b u e =>?_) I.bare
 ·obtain⟨o,es,ep,ho,r⟩:=hm;exact⟨o,es,ep,kk _ o nL ho,r⟩
 ·refine(I.hok b u e).stay (fun c v hc q=>kk c v ?_ q) (fun _ q=>q) fun _ _ q=>q
  rcases hc with z | z
  ·rw[z];exact nit b u e
  ·exact nit c _ z
theorem anw{t':Nat}{fp:List Addr}{vs:List V}{us:List Value}(I:Inv X jv σ H s)(kk:∀b o,b∉fp->s.heap.get? b=some o->h'.get? b=some o)(hf:∀b∈fp,FpOk X jv H b)(hb:∀b∈fp,b < s.heap.objs.size)
  (r:Vals vs us) (hz:vs.length<=sizeLine) (ht:h'.get? s.heap.objs.size=some { cls:=.type "tuple", data:=.seq us.toArray }):Inv X jv σ (upd H s.heap.objs.size (.tup vs)) { s with heap:=h',toks:=t' }:=by
 have I1:=I.laid (h':=s.heap.push { cls:=.type "tuple", data:=.seq us.toArray }) (t':=s.toks) (a:=s.heap.objs.size) (o:=.tup vs) (fun b u e=>Heap.get?_push_of_some _ e) (Nat.le_refl _) ⟨hz,us,r,⟨_,Heap.get?_push_size _ rfl,rfl,rfl,_,rfl⟩⟩
 have k2:∀b o,b∉fp->(s.heap.push { cls:=.type "tuple", data:=.seq us.toArray }).get? b=some o->h'.get? b=some o:=fun b o hn e=>by
  rcases Heap.get?_push_cases e with⟨rfl,rfl⟩ | e
  ·exact ht
  ·exact kk b o hn e
 have f2:∀b∈fp,FpOk X jv (upd H s.heap.objs.size (.tup vs)) b:=fun b hb'=>by
  obtain⟨f0,f⟩:=hf b hb';exact⟨by rw[cj (Nat.ne_of_lt (hb b hb'))];exact f0,f⟩
 have R:=ac3 (t':=t') (h':=h') (fp:=fp) I1 k2 f2;exact R
end
theorem arz{k:Bool}{h:Heap}{it a l:Addr}{i:Nat}{xs:Array Value}(x:It1 k h it l i){k':Bool}(y:Sq1 k' h a xs):a≠it:=fun e=>by
 subst e;cases k <;> cases k' <;> exact(by
  obtain⟨o,e1,c1,_⟩:=x;obtain⟨o',e2,c2,_⟩:=y;rw[e1] at e2;cases e2;rw[c1] at c2;simp at c2)
theorem ayv{h:Heap}{a b:Addr}{o:Obj}{n:String}{k:Bool}{xs:Array Value}(e:h.get? b=some o)(c:o.cls=.type n)(hn:n ≠ "list" /\ n ≠ "tuple")(y:Sq1 k h a xs):a≠b:=fun z=>by
 subst z;cases k <;> exact(by
  obtain⟨o',e2,c2,_⟩:=y;rw[e] at e2;cases e2;rw[c] at c2;simp at c2
  first | exact hn.1 c2 | exact hn.2 c2)
def Ite(K:Fg9)(k:Bool)(a:Addr):It :=
 ⟨fun i H=>∃xs x,SqK k K H a xs/\xs[i]? = some x,fun i H x H'=>∃q v,H q=none/\x=.ref q/\H'=upd H q (.tup [.int i,v])/\∀xs,SqK k K H a xs->xs[i]? = some v,fun i H=>∃xs,SqK k K H a xs/\xs.length=i⟩
theorem amb{P:Program}{w:World}{K:Fg9}{elts:List Expr}{n:Nat}{pos:Pos}(k:Bool)(a e it:Addr)(ne:e≠it) :
  Turn P w K (.Tuple elts n pos) (Ite K k a) [e,it] e (fun i h=>(∃old,IsEnum h e it i old)/\It1 k h it a i) where
 mem:=by simp
 obj:=fun i h st b hb=>by
  have hb:b=e∨b=it:=by simpa using hb
  rcases hb with rfl | rfl
  ·obtain⟨old,z⟩:=st.1;exact⟨_,z,fun v z=>by cases z⟩
  ·exact st.2.got
 keep:=fun i h h' st kk=>by
  obtain⟨⟨old,z⟩,y⟩:=st;exact⟨⟨old,kk e (by simp) _ z⟩,y.at fun o z=>kk it (by simp) o z⟩
 item:=by
  intro X hP hw hK hc i jv s σ H E I hf st hg;subst hP hw hK;obtain⟨⟨old,he⟩,hi⟩:=st;obtain⟨xs,x,hq,hx⟩:=hg;obtain⟨its,rv,sq⟩:=adk I hq;obtain⟨u,hu,ru⟩:=rv.get hx;have hlt:i < its.toArray.size:=by simpa using (List.getElem?_eq_some_iff.mp hu).1
  have nai:=arz hi sq;have nae:a≠e:=ayv he rfl (by decide) sq
  have D:=En.src (prog:=X.prog) (w:=X.w) (A:=X.A.in1) (I.ok.hd hc) k it a nai its.toArray;refine wpAny_pyNext_enum_itemD D he ⟨hi,sq⟩ hlt ne (by simp[ne,nae.symm]) fun y g tk hy ho hs hT hz hk =>?_
  refine⟨_,rfl,wpAny_letOwnedTupleGo_enum ho fun g2 he2 sb =>?_⟩
  have ry:=ad1 rv hx hy;have lte:e < s.heap.objs.size:=Heap.lt_size he;have lti:it < s.heap.objs.size:=by obtain⟨o,z,_⟩:=hi.got;exact Heap.lt_size z
  have fr:H s.heap.objs.size=none:=I.hok.fresh (Nat.le_refl _);refine⟨.ref s.heap.objs.size,upd H s.heap.objs.size (.tup [.int i,x]),?_,rfl,⟨_,x,fr,rfl,rfl,fun ys hy=>by rw[ajl I hy hq];exact hx⟩,⟨⟨_,he2⟩,hs.1.at fun o z=>sb.extBut _ _ ne.symm z⟩,fun b hb =>?_⟩
  ·refine anw (fp:=[e,it]) (us:=[.int i tk,y]) I (fun b o hn z =>?_) hf (fun b hb =>?_) (.cons ⟨tk,rfl⟩ (.cons ry .nil)) (by rw[sizeLine_eq];simp) (sb.extBut _ _ (Nat.ne_of_gt lte) hT)
   ·have h1:b≠e:=fun z=>hn (by simp[z])
    have h2:b≠it:=fun z=>hn (by simp[z])
    exact sb.extBut _ _ h1 (hk b o h1 h2 z)
   ·have hb:b=e∨b=it:=by simpa using hb
    rcases hb with rfl | rfl
    ·exact lte
    ·exact lti
  ·have hb':b=e∨b=it:=by simpa using hb
   rw[cj (by rcases hb' with rfl | rfl;exact Nat.ne_of_lt lte;exact Nat.ne_of_lt lti)]
   exact(hf b hb).1
 done:=by
  intro X hP hw hK hc i jv s σ H E I hf st hg;subst hP hw hK;obtain⟨⟨old,he⟩,hi⟩:=st;obtain⟨xs,hq,hx⟩:=hg;obtain⟨its,rv,sq⟩:=adk I hq;have hl:i=its.toArray.size:=by have:=rv.length;simp;omega
  subst hl;have D:=En.src (prog:=X.prog) (w:=X.w) (A:=X.A.in1) (I.ok.hd hc) k it a (arz hi sq) its.toArray;refine wpAny_pyNext_enum_endD D he ⟨hi,sq⟩ fun g eb=>⟨rfl,ac3 (t':=s.toks) (fp:=[e,it]) I (fun b o hn z=>eb b o (fun z=>hn (by simp[z])) z) hf⟩
 self:=fun _ _ _ _ _ st h=>let ⟨_,z⟩:=st.1;wpAny_pyIter_enum z h
theorem axg:bootBuiltins "zip" = some (.type "zip"):=by decide +kernel
section
variable{X:Cx}
def azx(K:Fg9)(ta:TA):TI:=fun σ H R=>ta σ H fun vs H1=>∃a k,vs=[.ref a]/\(∃xs,SqK k K H1 a xs)/\R (Ite K k a) H1
theorem as7{a:Expr}{ta:TA}{p pos:Pos}{elts:List Expr}{n:Nat}{tp:Pos}(hg:Gl X "enumerate")(hm:X.mg "enumerate" = none)(ha:PA X [a] ta)(hs:starEach [a] X.env=[(false,eval a X.env)]:=by rfl) :
  PI X (.Tuple elts n tp) (.Call (.Name "enumerate" p) [a] [] pos) (azx X.K ta):=by
 intro jv s σ H R I h;refine Call_ (afq I hg hm ain (PyProof.Rows.callWith_type1 (thn (ha pos jv s σ H _ I h) fun us s1 ⟨vs,H1,I1,r1,q1⟩ =>?_) hs rfl))
 obtain⟨b,k,rfl,⟨xs,hq⟩,q⟩:=q1;obtain⟨u,rfl,ru⟩:=vals1 r1;cases ru;obtain⟨its,rv,sq⟩:=adk I1 hq;refine aos sq fun g he hi hz kk=>wpAny_pyIter_enum he ?_
 have I2:Inv X jv σ H1 { s1 with heap:=g }:=I1.kept (t':=s1.toks) kk
 refine⟨_,[s1.heap.objs.size+1,s1.heap.objs.size],_,_,H1,rfl,I2,amb k b _ _ (Nat.succ_ne_self _),⟨⟨_,he⟩,hi⟩,fun c hc =>?_,q⟩
 have hc:c=s1.heap.objs.size+1∨c=s1.heap.objs.size:=by simpa using hc
 rcases hc with rfl | rfl
 ·exact I1.fpOk (Nat.le_succ _) (I1.hok.fresh (Nat.le_succ _))
 ·exact I1.fpOk (Nat.le_refl _) (I1.hok.fresh (Nat.le_refl _))
end
end Mn
namespace En
open PySem PySem.Builtin
theorem aru{prog:Program}{w:World}{A:Around}{E:Value->Shared->Prop}{s:Shared}{z TI TO:Addr}{f0:Value}{Q:Option Value->Shared->Prop}(hz:IsZip s.heap z TI TO f0)
  (h:wpAny (model prog w) A.in1 (Builtin.«zip.__next__» ⟨[.ref z],[]⟩) (fun fin s'=>∃v,fin=.done (.ret v)/\Q (some v) s') (fun e s'=>∃a o,e=.ref a/\s'.heap.get? a=some o/\o.cls=.type "StopIteration" /\ Q none s') s) :
  wpAny (model prog w) A (pyNext (.ref z)) Q E s:=by
 have tz:s.TypeIs (.ref z) "zip" := ⟨_,hz,rfl⟩;unfold pyNext;refine wpAny_bind (wpAny_attempt (wpAny_callSpecial?_slot (name:=Str.ofString "__next__") tz F.slot_zip_next (wpAny_call_entry F.slot_zip_next tz F.entry_zip_next (wpAny_mono h (fun fin s' ⟨v,e,q⟩=>⟨v,e,wpAny_pure q⟩) fun e s' ⟨a,o,e1,e2,e3,q⟩ =>?_) (F.args_zip_next_1 _))))
 subst e1;exact wpAny_bind (wpAny_isInstance (T := "StopIteration") (b:=true) ⟨o,e2,e3⟩ isSubtype_stop (wpAny_pure q))
end En
namespace Mn
open L2 En
def Itz2(K:Fg9)(k1 k2:Bool)(a1 a2:Addr):It :=
 ⟨fun i H=>∃x1 x2 v1 v2,(SqK k1 K H a1 x1/\x1[i]? = some v1)/\(SqK k2 K H a2 x2/\x2[i]? = some v2),fun i H x H'=>∃q v1 v2,H q=none/\x=.ref q/\H'=upd H q (.tup [v1,v2])/\(∀xs,SqK k1 K H a1 xs->xs[i]? = some v1)/\(∀xs,SqK k2 K H a2 xs->xs[i]? = some v2),fun i H=>∃xs,SqK k1 K H a1 xs/\xs.length=i⟩
theorem al9{P:Program}{w:World}{K:Fg9}{elts:List Expr}{n:Nat}{pos:Pos}(k1 k2:Bool)(a1 a2 z TI TO i1 i2:Addr)(D:Apart2 z TI TO i1 i2 a1 a2) :
  Turn P w K (.Tuple elts n pos) (Itz2 K k1 k2 a1 a2) [z,TI,TO,i1,i2] z (fun i h=>IsZip h z TI TO .none/\Row2 h TI (.ref i1) (.ref i2)/\(∃v1 v2,Row2 h TO v1 v2)/\It1 k1 h i1 a1 i/\It1 k2 h i2 a2 i) where
 mem:=by simp
 obj:=fun i h ⟨hz,hI,⟨v1,v2,hO⟩,h1,h2⟩ b hb=>by
  have hb:b=z∨b=TI∨b=TO∨b=i1∨b=i2:=by simpa using hb
  rcases hb with rfl | rfl | rfl | rfl | rfl
  ·exact⟨_,hz,fun v z=>by cases z⟩
  ·exact⟨_,hI,fun v z=>by cases z⟩
  ·exact⟨_,hO,fun v z=>by cases z⟩
  ·exact h1.got
  ·exact h2.got
 keep:=fun i h h' ⟨hz,hI,⟨v1,v2,hO⟩,h1,h2⟩ kk=>⟨kk z (by simp) _ hz,kk TI (by simp) _ hI,⟨v1,v2,kk TO (by simp) _ hO⟩,h1.at fun o e=>kk i1 (by simp) o e,h2.at fun o e=>kk i2 (by simp) o e⟩
 item:=by
  intro X hP hw hK hc i jv s σ H E I hf st hg;subst hP hw hK;obtain⟨hz,hI,⟨o1,o2,hO⟩,h1,h2⟩:=st;obtain⟨x1,x2,v1,v2,⟨hq1,hx1⟩,⟨hq2,hx2⟩⟩:=hg;obtain⟨t1,r1,s1⟩:=adk I hq1;obtain⟨u1,hu1,_⟩:=r1.get hx1;have b1:i < t1.toArray.size:=by simpa using (List.getElem?_eq_some_iff.mp hu1).1
  obtain⟨t2,r2,s2⟩:=adk I hq2;obtain⟨u2,hu2,_⟩:=r2.get hx2;have b2:i < t2.toArray.size:=by simpa using (List.getElem?_eq_some_iff.mp hu2).1
  refine aru hz (al4 (I.ok.hd hc) D hz hI hO h1 s1 h2 s2 b1 b2 fun g tk y1 y2 p1 p2 z2 O2 j1 j2 T2 hsz hk =>?_)
  refine⟨_,rfl,wpAny_letOwnedTupleGo_zip z2 fun g2 he2 sb =>?_⟩
  have fr:H s.heap.objs.size=none:=I.hok.fresh (Nat.le_refl _);have lt:∀b∈[z,TI,TO,i1,i2],b < s.heap.objs.size:=fun b hb=>by
   have hb:b=z∨b=TI∨b=TO∨b=i1∨b=i2:=by simpa using hb
   rcases hb with rfl | rfl | rfl | rfl | rfl
   ·exact Heap.lt_size hz
   ·exact Heap.lt_size hI
   ·exact Heap.lt_size hO
   ·obtain⟨o,e,_⟩:=h1.got;exact Heap.lt_size e
   ·obtain⟨o,e,_⟩:=h2.got;exact Heap.lt_size e
  have up:∀b o,b∉[z,TI,TO,i1,i2]->s.heap.get? b=some o->g2.get? b=some o:=fun b o hn e=>sb.extBut _ _ (fun x=>hn (by simp[x])) (hk b o (fun x=>hn (by simp[x])) (fun x=>hn (by simp[x])) (fun x=>hn (by simp[x])) (fun x=>hn (by simp[x])) e)
  have TI2:g2.get? TI=_:=sb.extBut _ _ D.nTIz (hk TI _ D.nTIz D.nTOTI.symm D.ni1TI.symm D.ni2TI.symm hI);refine⟨.ref s.heap.objs.size,upd H s.heap.objs.size (.tup [v1,v2]),?_,rfl,⟨_,v1,v2,fr,rfl,rfl,fun ys hy=>by rw[ajl I hy hq1];exact hx1,fun ys hy=>by rw[ajl I hy hq2];exact hx2⟩,⟨he2,TI2,⟨y1,y2,sb.extBut _ _ D.nTOz O2⟩,(j1.at fun o e=>sb.extBut _ _ D.ni1z e),(j2.at fun o e=>sb.extBut _ _ D.ni2z e)⟩,fun b hb =>?_⟩
  ·exact anw (fp:=[z,TI,TO,i1,i2]) (us:=[y1,y2]) I up hf lt (.cons (ad1 r1 hx1 p1) (.cons (ad1 r2 hx2 p2) .nil)) (by rw[sizeLine_eq];simp) (sb.extBut _ _ (Nat.ne_of_gt (lt z (by simp))) T2)
  ·rw[cj (Nat.ne_of_lt (lt b hb))];exact(hf b hb).1
 done:=by
  intro X hP hw hK hc i jv s σ H E I hf st hg;subst hP hw hK;obtain⟨hz,hI,⟨o1,o2,hO⟩,h1,h2⟩:=st;obtain⟨xs,hq,hx⟩:=hg;obtain⟨its,rv,sq⟩:=adk I hq;have hl:i=its.toArray.size:=by have:=rv.length;simp;omega
  subst hl;refine aru hz (ao9 (I.ok.hd hc) D hz hI hO h1 sq fun g e kk ⟨o,he,ce⟩=>⟨e,o,rfl,he,ce,rfl,ac3 (t':=s.toks) (fp:=[z,TI,TO,i1,i2]) I (fun b o hn z=>kk b o (fun z=>hn (by simp[z])) (fun z=>hn (by simp[z])) z) hf⟩)
 self:=fun _ _ _ _ _ st h=>wpAny_pyIter_zip st.1 h
theorem apart2{N l1 l2:Nat}(h1:l1 < N)(h2:l2 < N):Apart2 (N+4) (N+2) (N+3) N (N+1) l1 l2:=by
 constructor <;> (intro e;have e:(_:Nat)=_:=e;omega)
section
variable{X:Cx}
def azu(K:Fg9)(ta:TA):TI:=fun σ H R=>ta σ H fun vs H1=>∃a1 a2 k1 k2,vs=[.ref a1,.ref a2]/\(∃xs,SqK k1 K H1 a1 xs)/\(∃xs,SqK k2 K H1 a2 xs)/\R (Itz2 K k1 k2 a1 a2) H1
theorem as6{e1 e2:Expr}{ta:TA}{p pos:Pos}{elts:List Expr}{n:Nat}{tp:Pos}(hg:Gl X "zip")(hm:X.mg "zip" = none)(ha:PA X [e1,e2] ta)(hs:starEach [e1,e2] X.env=[(false,eval e1 X.env),(false,eval e2 X.env)]:=by rfl)(hs2:starEach [e2] X.env=[(false,eval e2 X.env)]:=by rfl) :
  PI X (.Tuple elts n tp) (.Call (.Name "zip" p) [e1,e2] [] pos) (azu X.K ta):=by
 intro jv s σ H R I h;refine Call_ (afq I hg hm axg (PyProof.Rows.callWith_type1 (thn (ha pos jv s σ H _ I h) fun us s1 ⟨vs,H1,I1,r1,q1⟩ =>?_) (by rw[hs,hs2]) (by rw[hs2];rfl)))
 obtain⟨a1,a2,k1,k2,rfl,⟨x1,hq1⟩,⟨x2,hq2⟩,q⟩:=q1;obtain⟨u1,u2,rfl,ru1,ru2⟩:=vals2 r1;cases ru1;cases ru2;obtain⟨t1,r1',sq1⟩:=adk I1 hq1;have b1:a1 < s1.heap.objs.size:=by obtain⟨o,e⟩:=sq1.got;exact Heap.lt_size e
 obtain⟨t2,r2',sq2⟩:=adk I1 hq2;have b2:a2 < s1.heap.objs.size:=by obtain⟨o,e⟩:=sq2.got;exact Heap.lt_size e
 refine aoo sq1 sq2 fun g hz hI hO h1 h2 hsz kk=>wpAny_pyIter_zip hz ?_
 have I2:Inv X jv σ H1 { s1 with heap:=g }:=I1.kept (t':=s1.toks) kk
 refine⟨_,[s1.heap.objs.size+4,s1.heap.objs.size+2,s1.heap.objs.size+3,s1.heap.objs.size,s1.heap.objs.size+1],_,_,H1,rfl,I2,al9 k1 k2 a1 a2 _ _ _ _ _ (apart2 b1 b2),⟨hz,hI,⟨_,_,hO⟩,h1,h2⟩,fun c hc =>?_,q⟩
 have hc:s1.heap.objs.size<=c:=by
  simp only[List.mem_cons,List.not_mem_nil,or_false] at hc;rcases hc with rfl | rfl | rfl | rfl | rfl <;> first | exact Nat.le_refl _ | exact Nat.le_add_right _ _
 exact I1.fpOk hc (I1.hok.fresh hc)
end
section
variable{X:Cx}
end
end Mn
namespace Dn
open L2 Mn
section
variable{K:Fg9}{X:Cx}{e a b c:Expr}{es elts:List Expr}{pos p tp:Pos}{n:Nat}
theorem aml{F:Hp}{d:D}{l:List D}{v:V}(e:itemsD d=some l)(h:Is K F d v):∃a k vs,v=.ref a/\IsL K F l vs/\∀H,Same F H->SqK k K H a vs:=by
 cases h with
 | tup e1 h1=>cases e;exact⟨_,true,_,rfl,h1,fun H g=>SqT.of (g _ _ e1)⟩
 | lst e1 h1=>cases e;exact⟨_,false,_,rfl,h1,fun H g=>SqL.of (g _ _ e1)⟩
 | kst e1 h1=>cases e;exact⟨_,false,_,rfl,h1,fun H g=>L2.Same.seq g e1⟩
 | _=>cases e
def afh(l:List D):List D:=l.mapIdx fun i d=>.tup [.int (i:Nat),d]
def at7:List D->Option (List D)
 | [d]=>(itemsD d).map afh
 | _=>none
theorem ae0(l:List D):(afh l).length=l.length:=by unfold afh;simp
theorem aig{l:List D}{i:Nat}{d:D}(h:(afh l)[i]? = some d):∃d0,l[i]? = some d0/\d=.tup [.int (i:Nat),d0]:=by
 unfold afh at h;rw[List.getElem?_mapIdx] at h;cases e:l[i]? with
 | none=>rw[e] at h;cases h
 | some d0=>rw[e] at h;cases h;exact⟨d0,rfl,rfl⟩
theorem aqk{F:Hp}{k:Bool}{a:Addr}{l:List D}{vs:List V}(il:IsL K F l vs)(hs:∀H,Same F H->SqK k K H a vs):ItD K (Ite K k a) (afh l) F where
 go:=fun i H s hi=>by
  have hi:i < vs.length:=by rw[<-il.length,<-ae0];exact hi
  exact⟨vs,_,hs H s,List.getElem?_eq_getElem hi⟩
 yld:=fun i H x H' d s y hd=>by
  obtain⟨d0,h0,rfl⟩:=aig hd;obtain⟨q,v,hq,rfl,rfl,hv⟩:=y;obtain⟨v',e1,i1⟩:=il.get h0;have:=hv _ (hs H s);rw[e1] at this;cases this;exact .inr ⟨q,_,_,hq,rfl,rfl,rfl,.cons (.int _) (.cons i1 .nil)⟩
 stop:=fun H s=>⟨vs,hs H s,by rw[ae0,il.length]⟩
theorem atx{m:M (List D)}(hg:Gl X "enumerate")(hm:X.mg "enumerate" = none)(h:ED K X [a] m)(hs:starEach [a] X.env=[(false,eval a X.env)]:=by rfl):IT K X (.Tuple elts n tp) (.Call (.Name "enumerate" p) [a] [] pos) (mGet at7 m):=IT.mk fun hk=>by
 intro jv s σ H R I ⟨tg,F,ρ,l,ρ',G,em,q⟩;obtain⟨ds,ρ1,e1,em⟩:=bh em;obtain⟨e2,rfl⟩:=jc em;have h:=h hk;subst hk;refine as7 hg hm h hs jv s σ H R I ⟨tg,F,ρ,ds,_,G,e1,fun vs H' F' G' x r =>?_⟩
 match ds,e2 with
 | [d],e2 =>
  have e2:(itemsD d).map afh=some l:=e2;cases e3:itemsD d with
  | none=>rw[e3] at e2;cases e2
  | some l0 =>
   rw[e3] at e2;cases e2;cases r with
   | cons h1 t =>
    cases t;obtain⟨b,k,ws,rfl,il,hq⟩:=aml e3 h1;exact⟨b,k,rfl,⟨ws,hq _ G'.sub⟩,q _ H' F' G' x (aqk il hq)⟩
def ab1(l1 l2:List D):List D:=List.zipWith (fun x y=>.tup [x,y]) l1 l2
def an0:List D->Option (List D)
 | [a,b]=>(itemsD a).bind fun l1=>(itemsD b).bind fun l2=>if l1.length<=l2.length then some (ab1 l1 l2) else none
 | _=>none
theorem ab0{l1 l2:List D}{i:Nat}{d:D}(h:(ab1 l1 l2)[i]? = some d):∃d1 d2,l1[i]? = some d1/\l2[i]? = some d2/\d=.tup [d1,d2]:=by
 unfold ab1 at h;rw[List.getElem?_zipWith] at h;cases e1:l1[i]? with
 | none=>rw[e1] at h;cases h
 | some d1 =>
  cases e2:l2[i]? with
  | none=>rw[e1,e2] at h;cases h
  | some d2=>rw[e1,e2] at h;cases h;exact⟨_,_,rfl,rfl,rfl⟩
theorem aqj{F:Hp}{k1 k2:Bool}{a1 a2:Addr}{l1 l2:List D}{x1 x2:List V}(h:l1.length<=l2.length)(i1:IsL K F l1 x1)(i2:IsL K F l2 x2)(s1:∀H,Same F H->SqK k1 K H a1 x1)(s2:∀H,Same F H->SqK k2 K H a2 x2):ItD K (Itz2 K k1 k2 a1 a2) (ab1 l1 l2) F where
 go:=fun i H s hi=>by
  have z1:=i1.length;have z2:=i2.length;have hi:i < l1.length:=by unfold ab1 at hi;simp at hi;omega
  exact⟨x1,x2,_,_,⟨s1 H s,List.getElem?_eq_getElem (by omega)⟩,s2 H s,List.getElem?_eq_getElem (by omega)⟩
 yld:=fun i H x H' d s y hd=>by
  obtain⟨d1,d2,h1,h2,rfl⟩:=ab0 hd;obtain⟨q,v1,v2,hq,rfl,rfl,y1,y2⟩:=y;obtain⟨w1,e1,j1⟩:=i1.get h1;obtain⟨w2,e2,j2⟩:=i2.get h2;have z1:=y1 _ (s1 H s);have z2:=y2 _ (s2 H s);rw[e1] at z1;rw[e2] at z2;cases z1;cases z2;exact .inr ⟨q,_,_,hq,rfl,rfl,rfl,.cons j1 (.cons j2 .nil)⟩
 stop:=fun H s=>⟨x1,s1 H s,by unfold ab1;rw[List.length_zipWith,<-i1.length];omega⟩
theorem ajh{m:M (List D)}(hg:Gl X "zip")(hm:X.mg "zip" = none)(h:ED K X [a,b] m)(hs:starEach [a,b] X.env=[(false,eval a X.env),(false,eval b X.env)]:=by rfl)(hs2:starEach [b] X.env=[(false,eval b X.env)]:=by rfl) :
  IT K X (.Tuple elts n tp) (.Call (.Name "zip" p) [a,b] [] pos) (mGet an0 m):=IT.mk fun hk=>by
 intro jv s σ H R I ⟨tg,F,ρ,l,ρ',G,em,q⟩;obtain⟨ds,ρ1,e1,em⟩:=bh em;obtain⟨e2,rfl⟩:=jc em;have h:=h hk;subst hk;refine as6 hg hm h hs hs2 jv s σ H R I ⟨tg,F,ρ,ds,_,G,e1,fun vs H' F' G' x r =>?_⟩
 match ds,e2 with
 | [d,d'],e2 =>
  have e2:((itemsD d).bind fun l1=>(itemsD d').bind fun l2=>if l1.length<=l2.length then some (ab1 l1 l2) else none)=some l:=e2
  cases e3:itemsD d with
  | none=>rw[e3] at e2;cases e2
  | some l1 =>
   cases e4:itemsD d' with
   | none=>rw[e3,e4] at e2;cases e2
   | some l2 =>
    rw[e3,e4] at e2;have e2:(if l1.length<=l2.length then some (ab1 l1 l2) else none)=some l:=e2
    split at e2
    ·rename_i hle;cases e2;cases r with
     | cons h1 t =>
      cases t with
      | cons h2 t =>
       cases t;obtain⟨b1,k1,w1,rfl,il1,hq1⟩:=aml e3 h1;obtain⟨b2,k2,w2,rfl,il2,hq2⟩:=aml e4 h2;exact⟨b1,b2,k1,k2,rfl,⟨w1,hq1 _ G'.sub⟩,⟨w2,hq2 _ G'.sub⟩,q _ H' F' G' x (aqj hle il1 il2 hq1 hq2)⟩
    ·cases e2
end
section
variable{K:Fg9}{X:Cx}{a:Expr}{pos p p2 pos2:Pos}
theorem aop:aau X (.type "range") (fun xs H Q=>∃b,xs=[.int b]/\∀q,H q=none->Q (.ref q) (upd H q (.rng 0 b))):=by
 intro jv s σ H xs us Q I r h;obtain⟨b,rfl,q⟩:=h;obtain⟨u,rfl,ru⟩:=vals1 r;obtain⟨t,rfl⟩:=ru;exact call_range_1 ⟨.ref s.heap.objs.size,_,I.laid (t':=s.toks+1+1) (o:=.rng 0 b) (fun b ob q=>Heap.get?_push_of_some _ q) (Nat.le_refl _) ⟨_,_,_,Heap.get?_push_size _ rfl⟩,rfl,q _ (I.hok.fresh (Nat.le_refl _))⟩
theorem ape{acc:Array Value}{n:Nat}(h:ItemsOf (fun i v=>∃t,v=.int (0+i*1) t) acc n):Vals (ups 0 n) acc.toList:=by
 have key:∀(l:List Value) (k:Nat),(∀j v,l[j]? = some v->∃t,v=Value.int ((k+j:Nat):Int) t)->Vals ((List.range' k l.length).map fun(i:Nat)=>V.int ((i:Nat):Int)) l:=by
  intro l
  induction l with
  | nil=>intro k _;exact .nil
  | cons x r ih =>
   intro k hk;rw[List.length_cons,List.range'_succ,List.map_cons];refine .cons ?_ (ih (k+1) fun j v hj =>?_)
   ·obtain⟨t,rfl⟩:=hk 0 x rfl;exact⟨t,by simp⟩
   ·obtain⟨t,rfl⟩:=hk (j+1) v (by simpa using hj)
    exact⟨t,by rw[show k+(j+1)=k+1+j by omega]⟩
 have e:=key acc.toList 0 fun j v hj=>by
  obtain⟨t,rfl⟩:=h.2 j v (by simpa using hj)
  exact⟨t,by simp⟩
 have hs:acc.toList.length=n:=by simpa using h.1
 rw[hs] at e;unfold ups;rw[List.range_eq_range']
 simpa using e
theorem aii(hc:X.calm=true):aau X (.type "list") (fun xs H Q=>∃p b,xs=[.ref p]/\H p=some (.rng 0 b)/\b.natAbs < 1000000/\∀q,H q=none->Q (.ref q) (upd H q (.lst (ups 0 b.toNat)))):=by
 intro jv s σ H xs us Q I r h;obtain⟨p,b,rfl,hp,hb,q⟩:=h;obtain⟨u,rfl,ru⟩:=vals1 r;cases ru;obtain⟨t,u,v,e⟩:=I.hok p _ hp;have e62:(2:Int) ^ 62=4611686018427387904:=by decide
 have e24:(2:Nat) ^ 24=16777216:=by decide
 refine call_list_range (I.ok.hd hc) e (small_one (by omega) (by omega) (by omega) (by omega)) (n:=b.toNat) (by rw[rangeSize_one];split <;> omega) (by omega) fun h' tk acc c' kk e' it =>?_
 refine⟨.ref s.heap.objs.size,_,?_,rfl,q _ (I.hok.fresh (Nat.le_refl _))⟩;exact I.laid kk (Nat.le_refl _) ⟨by rw[af4,sizeLine_eq];omega,acc.toList,c',ape it,by simpa using e'⟩
def aa1:List D->Option Rv
 | [.int j]=>if j.natAbs < 1000000 then some (.fr (jx 0 j.toNat)) else none
 | _=>none
def ac1(m:M (List D)):M Rv:=m.bind fun ds=>lift (aa1 ds)
@[simp] theorem ap7(ρ:Ro)(m:M (List D)):ac1 m ρ=(m.bind fun ds=>lift (aa1 ds)) ρ:=rfl
@[simp] theorem ao8(j:Int):aa1 [.int j]=if j.natAbs < 1000000 then some (.fr (jx 0 j.toNat)) else none:=rfl
theorem aif{m:M (List D)}(hc:X.calm=true)(hg1:Gl X "list")(hm1:X.mg "list" = none)(hg2:Gl X "range")(hm2:X.mg "range" = none)(h:ED K X [a] m)
  (he:starEach [a] X.env=[(false,eval a X.env)]:=by rfl) (he2:starEach [.Call (.Name "range" p2) [a] [] pos2] X.env=[(false,eval (.Call (.Name "range" p2) [a] [] pos2) X.env)]:=by rfl) :
  ER K X (.Call (.Name "list" p) [.Call (.Name "range" p2) [a] [] pos2] [] pos) (ac1 m):=ER.mk fun hk=>PE.imp (aad (aii hc) hg1 hm1 aow (vq (aad aop hg2 hm2 arb (h hk) (by decide) (by decide) he rfl) aeg he2) (by decide) (by decide) he2 rfl) fun σ H Q z9=>by
 obtain⟨tg,F,ρ,r,ρ',G,em,q⟩:=z9;obtain⟨ds,ρ1,e1,em⟩:=bh em;obtain⟨e2,rfl⟩:=jc em;refine⟨tg,F,ρ,ds,_,G,e1,fun vs H1 F1 G1 x1 bl =>?_⟩
 unfold aa1 at e2;split at e2
 ·rename_i j;split at e2
  ·rename_i hb;cases e2;cases bl with
   | cons hd t =>
    cases t;cases hd;refine⟨j,rfl,fun a hna =>?_⟩
    refine⟨a,j,rfl,gb,hb,fun b hnb =>?_⟩
    have G2:=G1.fresh hna (.rng 0 j);have X2:=G1.freshX hna (.rng 0 j);exact Res.lst G2 (fun v H3 F3 G3 x3 rr=>q v H3 F3 G3 ((x1.trans X2).trans x3) (j4 (x1.trans X2) rr)) (aj5 0 _) hnb
  ·cases e2
 ·cases e2
end
end Dn
namespace Mn
open L2
section
variable{prog:Program}{w:World}{A:Around}{E:Value->Shared->Prop}{s:Shared}
theorem al1(n:Nat):Builtin.Slice.sliceAdjust none none (-1) (n:Int)=((n:Int) - 1,-1):=rfl
theorem ale(n:Nat):Builtin.Slice.slicePlaces ((n:Int) - 1) (-1) (-1)=n:=by
 unfold Builtin.Slice.slicePlaces;have h1:¬((-1:Int) > 0):=by omega
 have h2:(- -1:Int)=1:=by decide
 simp only[h1,if_false,h2,Int.ediv_one];split <;> omega
theorem akn{α β:Type}{f g:α->Option β}:∀l:List α,(∀x∈l,f x=g x)->l.filterMap f=l.filterMap g
 | [],_=>rfl
 | x::r,h=>by rw[List.filterMap_cons,List.filterMap_cons,h x (List.mem_cons_self ..),akn r fun y hy=>h y (List.mem_cons_of_mem _ hy)]
theorem aj6(xs:Array Value):((List.range xs.size).filterMap fun(m:Nat)=>xs[(((xs.size:Int) - 1)+(m:Int)*(-1)).toNat]?).toArray=xs.toList.reverse.toArray:=by
 congr 1
 have e:(List.range xs.size).filterMap (fun(m:Nat)=>xs[(((xs.size:Int) - 1)+(m:Int)*(-1)).toNat]?)=(List.range xs.size).filterMap (fun m=>xs.toList.reverse[m]?):=by
  refine akn _ fun m hm =>?_
  have hm':m < xs.size:=List.mem_range.mp hm;have e2:(((xs.size:Int) - 1)+(m:Int)*(-1)).toNat=xs.size - 1 - m:=by omega
  rw[e2,List.getElem?_reverse (by simpa using hm')]
  simp
 rw[e];have key:∀l:List Value,(List.range l.length).filterMap (fun m=>l[m]?)=l:=by
  intro l
  induction l with
  | nil=>rfl
  | cons x r ih =>
   rw[List.length_cons,List.range_succ_eq_map,List.filterMap_cons];simp only[List.getElem?_cons_zero,List.filterMap_map]
   congr 1
 have:=key xs.toList.reverse
 simpa using this
theorem ac6{t sl:Addr}{items:Array Value}{u:Tok}{Q:Value->Shared->Prop}(ht:IsTup s.heap t items)(hs:s.heap.IsSliceOf sl .none .none (.int (-1) u))
  (h:Q (.ref s.heap.objs.size) { s with heap:=s.heap.push { cls:=.type "tuple", data:=.seq items.toList.reverse.toArray } })
  (hsz:items.size<=sizeLine):wpAny (model prog w) A (getItem (.ref t) (.ref sl)) Q E s:=by
 have htake:sizeOk (.seq items.toList.reverse.toArray):=by
  show items.toList.reverse.toArray.size<=sizeLine
  simpa using hsz
 obtain⟨os,hos,hcs,hds⟩:=id hs;have hTs:s.TypeIs (.ref sl) "slice" := ⟨os,hos,hcs⟩;unfold getItem
 try with_reducible refine wpAny_holding ?_
 first | refine wpAny_bind (wpAny_pure ?_) | skip
 refine wpAny_bind (wpAny_sequenceKey ht.typeIs (by decide) ?_)
 refine wpAny_bind (wpAny_callSpecial?_slot (name:=Str.ofString "__getitem__") ht.typeIs PyProof.Rows.slot_tuple_getitem
  (wpAny_call_entry PyProof.Rows.slot_tuple_getitem ht.typeIs entry_tuple_getitem ?_ (args_tuple_getitem _ _)))
 show wpAny _ _ (Builtin.Tuple.tupleItemsOf (.ref t) >>= _) _ _ s;refine wpAny_bind (tupleItemsOf_ ht ?_);refine wpAny_bind (wpAny_typeOf hTs ?_);rw[if_pos (by decide)]
 have happ:∀{Q:Int×Int×Nat->Shared->Prop} {E:Value->Shared->Prop} {A:Around},Q ((items.size:Int) - 1,-1,items.size) s->wpAny (model prog w) A (Builtin.Slice.sliceApplied (.ref sl) (pure (items.size:Int))) Q E s:=by
  intro Q E A h;unfold Builtin.Slice.sliceApplied Builtin.Slice.sliceFields;refine wpAny_bind (wpAny_bind (wpAny_field hos hds (x:=.none) rfl (wpAny_bind (wpAny_field hos hds (x:=.none) rfl (wpAny_bind (wpAny_field hos hds (x:=.int (-1) u) rfl (wpAny_pure ?_)))))));refine wpAny_bind (slicePart_int ?_);show wpAny _ _ (if ((-1:Int)==0)=true then _ else _) _ _ s
  rw[if_neg (by decide)]
  refine wpAny_bind (slicePart_none (wpAny_bind (slicePart_none (wpAny_bind (wpAny_pure ?_)))));show wpAny _ _ (match Builtin.Slice.sliceAdjust none none (-1) (items.size:Int) with | (lo,hi)=>pure (lo,(-1:Int),Builtin.Slice.slicePlaces lo hi (-1))) _ _ s
  rw[al1];show wpAny _ _ (pure ((items.size:Int) - 1,(-1:Int),Builtin.Slice.slicePlaces ((items.size:Int) - 1) (-1) (-1))) _ _ s;rw[ale];exact wpAny_pure h
 refine wpAny_bind (happ ?_);have hno:¬((((items.size:Int) - 1)==0&&(-1:Int)==1&&items.size==items.size)=true):=by
  intro q;rw[Bool.and_eq_true,Bool.and_eq_true] at q;exact absurd q.1.2 (by decide)
 show wpAny _ _ (if (((items.size:Int) - 1)==0&&(-1:Int)==1&&items.size==items.size)=true then _ else _) _ _ s
 rw[if_neg hno,aj6]
 first
  | exact wpAny_bind (m:=Builtin.Tuple.tupleExact _) (wpAny_newObj_type (wpAny_pure ⟨_,rfl,wpAny_pure h⟩) htake)
  | exact wpAny_bind (m:=Builtin.Tuple.tupleExact _) (wpAny_newObj_type (wpAny_bind (wpAny_pure (wpAny_pure ⟨_,rfl,wpAny_pure h⟩))) htake)
  | exact wpAny_bind (wpAny_bind (m:=Builtin.Tuple.tupleExact _) (wpAny_newObj_type (wpAny_pure (wpAny_pure ⟨_,rfl,wpAny_pure h⟩)) htake))
  | exact wpAny_bind (wpAny_bind (m:=Builtin.Tuple.tupleExact _) (wpAny_newObj_type (wpAny_pure ⟨_,rfl,wpAny_pure h⟩) htake))
end
section
variable{X:Cx}{e:Expr}{te:TE}{pos p2 p3:Pos}{st:Expr}{ts:TE}
def tRev(K:Fg9)(te ts:TE):TE:=fun σ H Q=>te σ H fun x H1=>ts σ H1 fun k H2=>k=.int (-1)/\∃a xs,x=.ref a/\SqT K H2 a xs/\∀p,H2 p=none->Q (.ref p) (upd H2 p (.tup xs.reverse))
theorem Vals.rev{xs:List V}{us:List Value}(h:Vals xs us):Vals xs.reverse us.reverse:=by
 induction h with
 | nil=>exact .nil
 | cons h1 h2 ih =>
  rw[List.reverse_cons,List.reverse_cons];exact ih.append (.cons h1 .nil)
theorem avw(he:PE X e te)(hs:PE X st ts):PE X (.Subscript e (.Slice none none (some st) p2) pos) (tRev X.K te ts):=by
 intro jv s σ H Q I h;refine Subscript_ (thn (he jv s σ H _ I h) fun v s1 ⟨x,H1,I1,r1,q1⟩ =>?_)
 refine wpAny_Slice ?_;rw[evalPart_none];refine wpAny_pure (wpAny_pure ?_);rw[evalPart_some];refine thn (hs jv s1 σ H1 _ I1 q1) fun k s2 z9 =>?_
 obtain⟨y,H2,I2,r2,q2⟩:=z9;obtain⟨rfl,a,xs,rfl,hx,q⟩:=q2;obtain⟨t,rfl⟩:=r2;cases r1;have I4:Inv X jv σ H2 { s2 with heap:=s2.heap.push { cls:=.type "slice", data:=.fields #[.none,.none,.int (-1) t] } }:=I2.kept (t':=s2.toks) fun b ob q=>Heap.get?_push_of_some _ q
 obtain⟨its,r,ht,hz⟩:=I4.tuple hx;have hlen:its.toArray.size=xs.length:=by rw[List.size_toArray];exact r.length.symm
 show wpAny (model X.prog X.w) X.A (subscriptTail e (.Slice none none (some st) p2) (.ref a) (.ref s2.heap.objs.size)) (EP X jv σ Q) X.xe { s2 with heap:=s2.heap.push { cls:=.type "slice", data:=.fields #[.none,.none,.int (-1) t] } }
 have hg:wpAny (model X.prog X.w) X.A (getItem (.ref a) (.ref s2.heap.objs.size)) (EP X jv σ Q) X.xe { s2 with heap:=s2.heap.push { cls:=.type "slice", data:=.fields #[.none,.none,.int (-1) t] } }:=by
  refine ac6 ht (Heap.IsSliceOf.new ..) ?_ (by rw[hlen];exact hz)
  refine⟨.ref _,_,I4.laid (t':=s2.toks) (o:=.tup xs.reverse) (fun b ob q=>Heap.get?_push_of_some _ q) (Nat.le_refl _) ?_,rfl,q _ (I4.hok.fresh (Nat.le_refl _))⟩
  exact⟨by rw[List.length_reverse];exact hz,_,Vals.rev r,IsTp.new _ _⟩
 exact tail_any (ops:=[.ref a,.ref s2.heap.objs.size]) ht.typeIs PyProof.Rows.slot_tuple_getitem.lookup hg (by with_unfolding_all rfl)
end
end Mn
namespace Dn
open L2 Mn
section
variable{K:Fg9}{X:Cx}{a st:Expr}{pos p p2 pos2:Pos}
def gRev:D->D->Option Rv
 | .tup l,.int k=>if k = -1 then some (.v (.tup l.reverse)) else none
 | _,_=>none
@[simp] theorem ax5(l:List D):gRev (.tup l) (.int (-1))=some (.v (.tup l.reverse)):=rfl
theorem IsL.rev{F:Hp}:∀{ds:List D} {vs:List V},IsL K F ds vs->IsL K F ds.reverse vs.reverse
 | _,_,.nil=>.nil
 | _,_,.cons h t=>by
  rw[List.reverse_cons,List.reverse_cons];exact(IsL.rev t).append (.cons h .nil)
end
end Dn
namespace Mn
open L2
section
variable{prog:Program}{w:World}{A:Around}{E:Value->Shared->Prop}{s:Shared}
theorem ak4{l:Addr}{vs:List Value}{ns:List Int}{Q:Value->Shared->Prop}(hl:IsTup s.heap l vs.toArray)(hI:IntsAre vs ns)(h64:vs.length < 64)
  (h:∀(h1 h':Heap) (out:Array Value) (ns':List Int) (e:Nat),(∀b o,s.heap.get? b=some o->h1.get? b=some o)->(∀b o,h1.get? b=some o->h'.get? b=some o)->h'.get? h1.objs.size=some (seqObj "list" out e)->IntsAre out.toList ns'->ns'.Perm ns->ns'.Pairwise (· <= ·)->Q (.ref h1.objs.size) { s with heap:=h' }) :
  wpAny (model prog w) A (call (.builtin "sorted") [.ref l]) Q E s:=by
 obtain⟨o,ho,hc,n,hd⟩:=id hl;refine Calls.call_function_entry kind_sorted plain_sorted entry_sorted (args_sorted1 _) ?_;unfold Builtin.«sorted»
 refine wpAny_bind (m:=checkCount "sorted" 1 1 _) (wpAny_pure ?_);refine wpAny_bind (wpAny_collect_seq l (.inr rfl) ho hc hd (fun h1 k1 =>?_) (by rw[List.size_toArray,sizeLine_eq];omega))
 refine wpAny_bind (wpAny_newList ?_);have hoL:(h1.push (seqObj "list" vs.toArray 0)).get? h1.objs.size=some (seqObj "list" vs.toArray 0):=Heap.get?_push_size _ rfl;show wpAny _ _ _ _ _ { s with heap:=h1.push (seqObj "list" vs.toArray 0) }
 refine wpAny_bind (wpAny_holding (wpAny_call_entry slot_list_sort ⟨_,hoL,rfl⟩ entry_list_sort (list_sort_tree hoL hI h64 fun out ns' a1 a2 a3=>⟨_,rfl,?_⟩) (args_list_sort _)))
 obtain⟨e,he⟩:=sortedHeap_at (out:=out) hoL;exact wpAny_pure ⟨_,rfl,h h1 _ out ns' e k1 (fun b ob q=>by
  have hlt:b < h1.objs.size:=Heap.lt_size q;rw[sortedHeap_old (Nat.ne_of_lt hlt) (by rw[size_push'];exact Nat.lt_succ_of_lt hlt)]
  exact Heap.get?_push_of_some _ q) he a1 a2 a3⟩
end
end Mn
namespace Dn
open L2 Mn
section
variable{K:Fg9}{X:Cx}
def vf:D->Option Rv
 | .tup l=>(jd l).bind fun ns=>if ns.length < 64 then some (.fr ((sortI ns).map D.int)) else none
 | d=>agz d
@[simp] theorem ar0(l:List D):vf (.lst l)=agz (.lst l):=rfl
theorem aib{ns:List Int}(h:ns.length < 64):vf (.tup (ns.map D.int))=some (.fr ((sortI ns).map D.int)):=by
 show(jd (ns.map D.int)).bind _=_;rw[my];simp[h]
theorem alx:CallD K X (.builtin "sorted") (g1 fun d=>match d with | .tup l=>(jd l).bind fun ns=>if ns.length < 64 then some (.fr ((sortI ns).map D.int)) else none | _=>none):=zj fun hk jv s σ0 H x u Q tg F ρ σ d r I ru G bd eg q=>by
 subst hk;cases d with
 | tup l =>
  have eg:(jd l).bind (fun ns=>if ns.length < 64 then some (Rv.fr ((sortI ns).map D.int)) else none)=some r:=eg
  cases e:jd l with
  | none=>rw[e] at eg;cases eg
  | some ns =>
   rw[e] at eg;have eg:(if ns.length < 64 then some (Rv.fr ((sortI ns).map D.int)) else none)=some r:=eg
   split at eg
   ·rename_i h64;cases eg;obtain⟨a,vs,rfl,ea,hl⟩:=bd.tup;rw[qj e] at hl;rw[hl.int_inv] at ea;cases ru;obtain⟨its,rv,pl,_⟩:=I.tuple (SqT.of (G.sub _ _ ea));have hlen:=rv.length;rw[List.length_map] at hlen;refine ak4 pl (intsAre_of rv) (by omega) fun h1 h' out ns' ep k1 k2 eo i1 hp hs =>?_
    have e':=adw hp hs;subst e';have I1:=I.kept (h':=h1) (t':=s.toks) k1;have hn:H h1.objs.size=none:=I1.hok.fresh (Nat.le_refl _);refine⟨.ref h1.objs.size,upd H h1.objs.size (.lst ((sortI ns).map V.int)),?_,rfl,Res.lst G q (aa0 _) hn⟩;refine I1.laid (t':=s.toks) k2 (Nat.le_refl _) ?_;refine⟨?_,out.toList,ep,ux i1,by simpa using eo⟩
    rw[List.length_map,(sortI_perm ns).length_eq];exact Nat.le_of_lt (ab2 (by omega))
   ·cases eg
 | _=>cases eg
theorem adc:CallD K X (.builtin "sorted") (g1 vf):=zj fun hk jv s σ0 H x u Q tg F ρ σ d r I ru G bd eg q=>by
 cases d with
 | tup l=>exact alx.go hk jv s σ0 H [x] [u] Q I (.cons ru .nil) ⟨tg,F,ρ,σ,[.tup l],r,G,.cons bd .nil,eg,q⟩
 | lst l=>exact aok.go hk jv s σ0 H [x] [u] Q I (.cons ru .nil) ⟨tg,F,ρ,σ,[.lst l],r,G,.cons bd .nil,eg,q⟩
 | _=>cases eg
end
section
variable{K:Fg9}{X:Cx}
def apj(d:D):Option Rv:=if okD 30 d&&(toPy d).showable&&decide ((toPy d).shown.length<=capS) then some (.v (.str (toPy d).shown)) else none
def gRepr:D->Option Rv
 | .dct [(.inr x,.int n)]=>if (PyData.dict [(.str x,.int n)]).showable&&decide ((PyData.dict [(.str x,.int n)]).shown.length<=capS) then some (.v (.str (PyData.dict [(.str x,.int n)]).shown)) else none
 | d=>apj d
theorem aol(hg:X.A.guards=some [])(hu:X.A.units+64 < cLine):CallD K X (.builtin "repr") (g1 gRepr):=zj fun hk jv s σ0 H x u Q tg F ρ σ d r I ru G bd eg q=>by
 subst hk;have gen:okD 30 d=true->(toPy d).showable=true->(toPy d).shown.length<=capS->r=.v (.str (toPy d).shown)->wpAny (model X.prog X.w) X.A (call (.builtin "repr") [u]) (EP X jv σ0 Q) X.xe s:=fun k1 k2 k3 k4=>by
  subst k4;have q':=Res.same G q (.str _);obtain⟨as,rd⟩:=ue I G.sub bd k1 ru;obtain⟨l1,l2⟩:=aa9 30 d k1;have nd:=PyData.hasDict_of_canLay _ l1;cases d with
  | non=>cases rd;exact P.repr_of_none ⟨.str _,H,I.tok _,⟨_,rfl⟩,q'⟩
  | bl b=>cases rd;exact P.repr_of_bool ⟨.str _,H,I.tok _,⟨_,rfl⟩,q'⟩
  | int i=>cases rd;exact P.repr_of_int (of_decide_eq_true k2) ⟨.str _,H,I.tok _,⟨_,rfl⟩,q'⟩
  | str i=>cases rd;exact P.repr_of_str ⟨.str _,H,I.tok _,⟨_,rfl⟩,q'⟩ k3
  | dct l=>cases k1
  | exn c fs=>cases k1
  | tup l =>
   have hr:∃a,u=.ref a:=by cases rd;exact⟨_,rfl⟩
   obtain⟨a,rfl⟩:=hr;exact repr_of_reads' rd k2 (PyData.noDict_hsm nd) hg (by omega) (fun _ _ e=>e) (fun h' w tk hk=>⟨.str _,H,I.kept hk,⟨_,rfl⟩,q'⟩) k3
  | lst l =>
   have hr:∃a,u=.ref a:=by cases rd;exact⟨_,rfl⟩
   obtain⟨a,rfl⟩:=hr;exact repr_of_reads' rd k2 (PyData.noDict_hsm nd) hg (by omega) (fun _ _ e=>e) (fun h' w tk hk=>⟨.str _,H,I.kept hk,⟨_,rfl⟩,q'⟩) k3
  | kst l =>
   have hr:∃a,u=.ref a:=by cases rd;exact⟨_,rfl⟩
   obtain⟨a,rfl⟩:=hr;exact repr_of_reads' rd k2 (PyData.noDict_hsm nd) hg (by omega) (fun _ _ e=>e) (fun h' w tk hk=>⟨.str _,H,I.kept hk,⟨_,rfl⟩,q'⟩) k3
 unfold gRepr at eg;split at eg
 ·rename_i y n;split at eg
  ·rename_i hc;rw[Bool.and_eq_true,decide_eq_true_eq] at hc;cases eg;have q':=Res.same G q (.str _);have bd':Is X.K F (.dct [(.inr y,.int n)]) x:=by
    rcases bd with bd | ⟨_,_,_,e,_⟩
    ·exact bd
    ·cases e
   cases bd' with
   | dct e h =>
    rename_i a kvs;cases ru;obtain⟨_,hsys,vs,kv,o,es,ep,ho,hx,hd,_,hp,_⟩:=(show ut X.prog X.w H s.heap a (.dK kvs) from I.hok a _ (G.sub _ _ e))
    cases h with
    | cons h1 h2 =>
     cases h2;cases h1;cases kv with
     | @cons _ b _ _ k1 k2 =>
      cases k2;obtain⟨k3,k4⟩:=k1;obtain⟨bk,bv⟩:=b;dsimp only at k3 k4;subst k3;obtain⟨t,rfl⟩:=k4;generalize hes:es.toList=el at hp;cases hp with
      | cons p1 p2 p3 =>
       cases p3;rename_i en;have p1:ank (.inr y) en.key=true:=p1;rcases ji p1 with⟨i,t2,z,_⟩ | ⟨x2,t2,z,ek⟩
       ·cases z
       ·cases z;have rd:Reads s.heap (.ref a) (.dict [(.str y,.int n)]) (a::([]++[])++([]++[])):=by
         refine .dict ho hx.1 hd ?_ ?_
         ·rw[hes];show ReadsAll s.heap [en.key] [.str y] _;rw[ek];exact .cons (.str y t2) .nil
         ·rw[hes];show ReadsAll s.heap [en.val] [.int n] _;rw[p2];exact .cons (.int n t) .nil
        refine repr_of_reads' rd hc.1 (fun _ hm =>?_) hg (by simp only[PyData.depth,PyData.depthKv];omega) (fun _ _ e=>e) (fun h' w tk hk=>⟨.str _,H,I.kept hk,⟨_,rfl⟩,q'⟩) hc.2
        have:sysModules=a:=by simpa using hm
        rw[this] at hsys;simp at hsys
  ·cases eg
 ·unfold apj at eg;split at eg
  ·rename_i hc;rw[Bool.and_eq_true,Bool.and_eq_true,decide_eq_true_eq] at hc;exact gen hc.1.1 hc.1.2 hc.2 (by cases eg;rfl)
  ·cases eg
end
end Dn
namespace Mn
open L2
theorem af8(its:List Value):slicePick its.toArray none none (some (-1))=its.reverse.toArray:=by
 have h1:sliceBounds none none (some (-1)) its.toArray.size=((its.toArray.size:Int) - 1,-1,-1):=rfl;unfold slicePick;rw[h1];dsimp only;have h2:sliceRange ((its.toArray.size:Int) - 1) (-1) (-1)=(List.range its.toArray.size).map fun(k:Nat)=>((its.toArray.size:Int) - 1+(k:Int)*(-1)).toNat:=by
  unfold sliceRange;have hc:(if (-1:Int) > 0 then (if ((its.toArray.size:Int) - 1) < -1 then (-1 - ((its.toArray.size:Int) - 1) + -1 - 1) / -1 else 0) else (if ((its.toArray.size:Int) - 1) > -1 then (((its.toArray.size:Int) - 1) - -1 - -1 - 1) / (- -1) else 0)).toNat=its.toArray.size:=by
   have h0:¬((-1:Int) > 0):=by decide
   have e:(- -1:Int)=1:=by decide
   simp only[h0,if_false,e,Int.ediv_one];split <;> omega
  dsimp only;rw[hc];apply List.map_congr_left;intro k _
  congr 1
  omega
 rw[h2,List.filterMap_map];have:=aj6 its.toArray
 simpa[Function.comp_def] using this
section
variable{X:Cx}{e:Expr}{te:TE}{pos p2 p3:Pos}{st:Expr}{ts:TE}
def ayo(K:Fg9)(te ts:TE):TE:=fun σ H Q=>te σ H fun x H1=>ts σ H1 fun k H2=>k=.int (-1)/\∃a xs,x=.ref a/\SqL K H2 a xs/\∀p,H2 p=none->Q (.ref p) (upd H2 p (.lst xs.reverse))
theorem ata(he:PE X e te)(hs:PE X st ts):PE X (.Subscript e (.Slice none none (some st) p2) pos) (ayo X.K te ts):=by
 intro jv s σ H Q I h;refine Subscript_ (thn (he jv s σ H _ I h) fun v s1 ⟨x,H1,I1,r1,q1⟩ =>?_)
 refine wpAny_Slice ?_;rw[evalPart_none];refine wpAny_pure (wpAny_pure ?_);rw[evalPart_some];refine thn (hs jv s1 σ H1 _ I1 q1) fun k s2 z9 =>?_
 obtain⟨y,H2,I2,r2,q2⟩:=z9;obtain⟨rfl,a,xs,rfl,hx,q⟩:=q2;obtain⟨t,rfl⟩:=r2;cases r1;have I4:Inv X jv σ H2 { s2 with heap:=s2.heap.push { cls:=.type "slice", data:=.fields #[.none,.none,.int (-1) t] } }:=I2.kept (t':=s2.toks) fun b ob q=>Heap.get?_push_of_some _ q
 obtain⟨its,r,ht,hz⟩:=I4.list hx;have hlen:=r.length;show wpAny (model X.prog X.w) X.A (subscriptTail e (.Slice none none (some st) p2) (.ref a) (.ref s2.heap.objs.size)) (EP X jv σ Q) X.xe { s2 with heap:=s2.heap.push { cls:=.type "slice", data:=.fields #[.none,.none,.int (-1) t] } }
 have hg:wpAny (model X.prog X.w) X.A (getItem (.ref a) (.ref s2.heap.objs.size)) (EP X jv σ Q) X.xe { s2 with heap:=s2.heap.push { cls:=.type "slice", data:=.fields #[.none,.none,.int (-1) t] } }:=by
  refine wpAny_getItem_list_slice ht.isList (Heap.IsSliceOf.new ..) .none .none (.int (-1) t) (by simp) ?_ (by rw[List.size_toArray] <;> omega)
  rw[af8];refine⟨.ref _,_,I4.laid (t':=s2.toks) (o:=.lst xs.reverse) (fun b ob q=>Heap.get?_push_of_some _ q) (Nat.le_refl _) ?_,rfl,q _ (I4.hok.fresh (Nat.le_refl _))⟩
  exact⟨by rw[List.length_reverse];exact hz,_,0,Mn.Vals.rev r,Heap.get?_push_size _ rfl⟩
 exact tail_any (ops:=[.ref a,.ref s2.heap.objs.size]) ht.isList.typeIs slot_list_getitem.lookup hg (by with_unfolding_all rfl)
end
end Mn
namespace Dn
open L2 Mn
section
variable{K:Fg9}{X:Cx}{a st:Expr}{pos p p2 pos2:Pos}
def aqs:D->D->Option Rv
 | .lst l,.int k=>if k = -1 then some (.fr l.reverse) else none
 | d,k=>gRev d k
@[simp] theorem aw4(l:List D):aqs (.lst l) (.int (-1))=some (.fr l.reverse):=rfl
@[simp] theorem aw3(l:List D):aqs (.tup l) (.int (-1))=some (.v (.tup l.reverse)):=rfl
def atr(m ms:M D):M Rv:=m.bind fun d=>ms.bind fun k=>lift (aqs d k)
@[simp] theorem axu(ρ:Ro)(m ms:M D):atr m ms ρ=(m.bind fun d=>ms.bind fun k=>lift (aqs d k)) ρ:=rfl
theorem aub{m ms:M D}(h:EV K X a m)(hs:EV K X st ms):ER K X (.Subscript a (.Slice none none (some st) p2) pos) (atr m ms):=ER.mk fun hk=>by
 subst hk;have p1:=avw (pos:=pos) (p2:=p2) (h rfl) (hs rfl);have p2':=ata (pos:=pos) (p2:=p2) (h rfl) (hs rfl);intro jv s σ H Q I ⟨tg,F,ρ,r,ρ',G,em,q⟩;obtain⟨d,ρ1,e1,em⟩:=bh em;obtain⟨k,ρ2,e2,em⟩:=bh em;obtain⟨e4,rfl⟩:=jc em;cases d with
 | tup l =>
  refine p1 jv s σ H Q I ⟨tg,F,ρ,.tup l,ρ1,G,e1,fun v H1 F1 G1 x1 r1=>⟨tg,F1,ρ1,k,_,G1,e2,fun v2 H2 F2 G2 x2 r2 =>?_⟩⟩
  have e4:gRev (.tup l) k=some r:=e4;unfold gRev at e4;split at e4
  ·split at e4
   ·rename_i l' j ez _ hj;cases ez;subst hj;cases e4;cases r2;refine⟨rfl,?_⟩;cases r1.mono x2.sub with
    | tup ea hl =>
     exact⟨_,_,rfl,SqT.of (G2.sub _ _ ea),fun p hp=>Res.tup G2 (fun v' H4 F4 G4 x4 rr=>q v' H4 F4 G4 ((x1.trans x2).trans x4) (j4 (x1.trans x2) rr)) hl.rev hp⟩
   ·cases e4
  ·cases e4
 | lst l =>
  refine p2' jv s σ H Q I ⟨tg,F,ρ,.lst l,ρ1,G,e1,fun v H1 F1 G1 x1 r1=>⟨tg,F1,ρ1,k,_,G1,e2,fun v2 H2 F2 G2 x2 r2 =>?_⟩⟩
  cases k with
  | int j =>
   have e4:(if j = -1 then some (Rv.fr l.reverse) else none)=some r:=e4
   split at e4
   ·rename_i hj;subst hj;cases e4;cases r2;refine⟨rfl,?_⟩;cases r1.mono x2.sub with
    | lst ea hl =>
     exact⟨_,_,rfl,SqL.of (G2.sub _ _ ea),fun p hp=>Res.lst G2 (fun v' H4 F4 G4 x4 rr=>q v' H4 F4 G4 ((x1.trans x2).trans x4) (j4 (x1.trans x2) rr)) hl.rev hp⟩
   ·cases e4
  | _=>cases e4
 | _=>cases e4
end
end Dn
namespace Mn
open PySem
theorem aov:bootBuiltins "repr" = some (.builtin "repr"):=by decide +kernel
end Mn
namespace Stt
open PySem
def Rise(t:SetTable):Prop:=t.place.toList.Pairwise (· < ·)
theorem Rise.lt{t:SetTable}(h:Rise t){i j:Nat}{x y:Nat}(hij:i < j)(hx:t.place[i]? = some x)(hy:t.place[j]? = some y):x < y:=by
 obtain⟨hi,rfl⟩:=Array.getElem?_eq_some_iff.mp hx;obtain⟨hj,rfl⟩:=Array.getElem?_eq_some_iff.mp hy;have:=List.pairwise_iff_getElem.mp h i j (by simpa using hi) (by simpa using hj) hij
 simpa using this
def Cut(xs:Array Nat)(j p:Nat):Prop:=p<=xs.size/\(∀i x,i < p->xs[i]? = some x->x < j)/\∀i x,p<=i->xs[i]? = some x->j<=x
theorem ag5{xs:Array Nat}(hs:xs.toList.Pairwise (· < ·))(j:Nat):∀(fuel lo hi:Nat),hi - lo<=fuel->lo<=hi->hi<=xs.size->(∀i x,i < lo->xs[i]? = some x->x < j)->(∀i x,hi<=i->xs[i]? = some x->j<=x) ->
  Cut xs j (SetTable.below.go xs j fuel lo hi)
 | 0,lo,hi,hf,hle,hsz,a,b=>by
  have:lo=hi:=by omega
  subst this;exact⟨hsz,a,b⟩
 | fuel+1,lo,hi,hf,hle,hsz,a,b=>by
  unfold SetTable.below.go;split
  ·rename_i hlt;dsimp only;have hm:(lo+hi) / 2 < xs.size:=by omega
   have hg:xs.getD ((lo+hi) / 2) j=xs[(lo+hi) / 2]:=by simp[Array.getD,hm]
   have hx:xs[(lo+hi) / 2]? = some (xs[(lo+hi) / 2]):=by simp[hm]
   rw[hg]
   by_cases hc:xs[(lo+hi) / 2] < j
   ·rw[if_pos hc];refine ag5 hs j fuel ((lo+hi) / 2+1) hi (by omega) (by omega) hsz (fun i x hi' hx' =>?_) b
    rcases Nat.lt_or_ge i ((lo+hi) / 2) with h | h
    ·exact Nat.lt_trans (Rise.lt (t:={ mask:=0,place:=xs,dummies := #[],finger:=0,led:=true,moves:=0,plain:=true }) hs h hx' hx) hc
    ·have:i=(lo+hi) / 2:=by omega
     subst this;rw[hx] at hx';cases hx';exact hc
   ·rw[if_neg hc];refine ag5 hs j fuel lo ((lo+hi) / 2) (by omega) (by omega) (by omega) a (fun i x hi' hx' =>?_)
    rcases Nat.lt_or_ge ((lo+hi) / 2) i with h | h
    ·exact Nat.le_trans (Nat.not_lt.mp hc) (Nat.le_of_lt (Rise.lt (t:={ mask:=0,place:=xs,dummies := #[],finger:=0,led:=true,moves:=0,plain:=true }) hs h hx hx'))
    ·have:i=(lo+hi) / 2:=by omega
     subst this;rw[hx] at hx';cases hx';omega
  ·have:lo=hi:=by omega
   subst this;exact⟨hsz,a,b⟩
theorem ae8{xs:Array Nat}(hs:xs.toList.Pairwise (· < ·))(j:Nat):Cut xs j (SetTable.below xs j) :=
 ag5 hs j xs.size 0 xs.size (by omega) (Nat.zero_le _) (Nat.le_refl _) (fun i x h _=>absurd h (Nat.not_lt_zero _)) fun i x h hx=>by
  obtain⟨h',_⟩:=Array.getElem?_eq_some_iff.mp hx;omega
theorem alz{t:SetTable}(h:Rise t):SetTable.below t.place 0=0:=by
 obtain⟨hp,a,b⟩:=ae8 h 0;rcases Nat.eq_zero_or_pos (SetTable.below t.place 0) with h0 | h0
 ·exact h0
 ·have h1:0 < t.place.size:=by omega
  exact absurd (a 0 t.place[0] h0 (by simp[h1])) (Nat.not_lt_zero _)
theorem al0{t:SetTable}(h:Rise t){i x:Nat}(hx:t.place[i]? = some x):SetTable.below t.place (x+1)=i+1:=by
 obtain⟨hp,a,b⟩:=ae8 h (x+1);rcases Nat.lt_trichotomy (SetTable.below t.place (x+1)) (i+1) with h1 | h1 | h1
 ·have:=b i x (by omega) hx
  omega
 ·exact h1
 ·have h2:i+1 < t.place.size:=by omega
  have h3:t.place[i+1]? = some t.place[i+1]:=by simp[h2]
  have:=a (i+1) _ h1 h3;have:=h.lt (Nat.lt_succ_self i) hx h3;omega
theorem ai2{t:SetTable}(h:Rise t){j:Nat}(hj:t.place[SetTable.below t.place j]? ≠ some j):(SetTable.insertAt t.place (SetTable.below t.place j) j).toList.Pairwise (· < ·):=by
 obtain⟨hp,a,b⟩:=ae8 h j;rw[SetTable.toList_insertAt];generalize hq:SetTable.below t.place j=p at *;rw[List.pairwise_append];refine⟨List.Pairwise.sublist (List.take_sublist _ _) h,?_,?_⟩
 ·rw[List.pairwise_cons];refine⟨fun y hy =>?_,List.Pairwise.sublist (List.drop_sublist _ _) h⟩
  obtain⟨i,hi,rfl⟩:=List.mem_iff_getElem.mp hy;rw[List.length_drop,Array.length_toList] at hi;rw[List.getElem_drop,Array.getElem_toList];have h1:t.place[p+i]? = some t.place[p+i]:=by simp
  have h2:=b (p+i) _ (by omega) h1
  rcases Nat.eq_or_lt_of_le h2 with e | e
  ·exfalso;rcases Nat.eq_zero_or_pos i with z | z
   ·subst z;exact hj (by rw[e];exact h1)
   ·have h3:t.place[p]? = some t.place[p]:=by simp
    have h4:=h.lt (show p < p+i by omega) h3 h1
    have h5:=b p _ (Nat.le_refl _) h3;omega
  ·exact e
 ·intro x hx y hy;have hxj:x < j:=by
   obtain⟨i,hi,rfl⟩:=List.mem_iff_getElem.mp hx;rw[List.length_take,Array.length_toList] at hi;rw[List.getElem_take,Array.getElem_toList];exact a i _ (by omega) (by simp)
  rcases List.mem_cons.mp hy with rfl | hy
  ·exact hxj
  ·obtain⟨i,hi,rfl⟩:=List.mem_iff_getElem.mp hy;rw[List.length_drop,Array.length_toList] at hi;rw[List.getElem_drop,Array.getElem_toList];have:=b (p+i) t.place[p+i] (by omega) (by simp)
   omega
def Away(t:SetTable)(j:Nat):Prop:=t.place[SetTable.below t.place j]? ≠ some j
theorem ahc{t:SetTable}{j:Nat}(h:∀i,t.slot j≠.live i):Away t j:=fun e=>h (SetTable.below t.place j) (by
 unfold SetTable.slot;dsimp only;rw[if_pos (by rw[e];exact beq_self_eq_true _)])
theorem acw{t:SetTable}{f:Nat->Int}{h:Int}:∀(fuel:Nat) (p:SetTable.Probe) (j:Nat) (d:Option Nat),(∀x,p.dummy=some x->Away t x)->SetTable.probe.go t f h fuel p=some (.empty j d)->Away t (d.getD j)
 | 0,p,j,d,_,e=>by cases e
 | fuel+1,p,j,d,hd,e=>by
  unfold SetTable.probe.go at e;have adv:∀q:SetTable.Probe,(t.advance q).dummy=q.dummy:=fun q=>by unfold SetTable.advance;split <;> rfl
  split at e
  ·rename_i hs;cases e;cases hq:p.dummy with
   | none=>exact ahc fun i z=>by rw[Option.getD_none,hs] at z;cases z
   | some x=>exact hd x hq
  ·rename_i hs;refine acw fuel _ j d (fun x hx =>?_) e
   rw[adv] at hx;cases hx;exact ahc fun i z=>by rw[hs] at z;cases z
  ·split at e
   ·cases e
   ·exact acw fuel _ j d (fun x hx=>by rw[adv] at hx;exact hd x hx) e
theorem an3{t:SetTable}{h:Int}{j:Nat}{b:Bool}(e:t.freeSlot h=some (j,b)):Away t j:=by
 unfold SetTable.freeSlot at e;split at e
 ·rename_i j' d hp;cases e;exact acw _ _ j' d (fun x hx=>by cases hx) hp
 ·cases e
theorem ald(n:Nat):(Array.range n).toList.Pairwise (· < ·):=by
 rw[Array.toList_range];exact List.pairwise_lt_range
def Kept(b:Bool)(t:SetTable):Prop:=Rise t/\t.led=b
theorem Kept.standIn{b:Bool}{t:SetTable}(h:Kept b t)(n:Nat):Kept b (t.standIn n):=⟨ald n,h.2⟩
theorem ajf{b:Bool}{t:SetTable}(h:Kept b t)(es:Array (Int×Value))(k:Int)(x:Value):Kept b (layNew t es k x).2.1:=by
 unfold layNew;split
 ·rename_i slot wd e;dsimp only;have h':Kept b (t.put slot).1:=⟨ai2 h.1 (an3 e),h.2⟩;unfold SetTable.orStandIn;split
  ·exact h'
  ·exact h'.standIn _
 ·exact h.standIn _
theorem ang{m f mv:Nat}{b p:Bool}{hs:Array Int}{t:SetTable}{o:Array Nat}(e:SetTable.laid m f mv b p hs=some (t,o)):Kept b t:=by
 unfold SetTable.laid at e;cases e1:SetTable.layClean m hs with
 | none=>rw[e1] at e;cases e
 | some ow =>
  rw[e1] at e;cases e;refine⟨?_,rfl⟩;show List.Pairwise _ _;dsimp only;have h0:((List.range (m+1)).filterMap fun j=>(ow.getD j none).map (j,·)).map (·.1)=(List.range (m+1)).filter fun j=>(ow.getD j none).isSome:=by
   generalize List.range (m+1)=l
   induction l with
   | nil=>rfl
   | cons a r ih =>
    cases h:ow.getD a none with
    | none=>simp only[List.filterMap_cons,List.filter_cons,h,Option.map_none,Option.isSome_none];simpa using ih
    | some z=>simp only[List.filterMap_cons,List.filter_cons,h,Option.map_some,Option.isSome_some,List.map_cons];simpa using ih
  rw[h0];exact List.Pairwise.sublist List.filter_sublist List.pairwise_lt_range
theorem alb{b:Bool}{t:SetTable}(h:Kept b t)(es:Array (Int×Value))(n:Nat):Kept b (relayAll t es n).2.1:=by
 unfold relayAll;split
 ·rename_i t' o e;dsimp only;split
  ·have:=ang e;rw[h.2] at this;exact this
  ·exact h.standIn _
 ·exact h.standIn _
theorem alv(b:Bool):Kept b (.fresh 0 0 b):=⟨List.Pairwise.nil,rfl⟩
open PySem.Spec PyProof.Rows
def keyE(e:Int×Value):Int:=match e.2 with
 | .int k _=>k
 | _=>0
def Ent(e:Int×Value):Prop:=∃k u,e=(hashInt k,Value.int k u)
structure SetG (w:World) (es:Array (Int×Value)) (t:SetTable) (ns:List Int):Prop where
 ent:∀e∈es.toList,Ent e
 nd:(es.toList.map keyE).Nodup
 mem:∀k,k∈es.toList.map keyE↔k∈ns
 fit:t.fits es.size=true
 kept:Kept (!w.params.followText "set-order") t
def setO(es:Array (Int×Value))(ep:Nat)(t:SetTable):Obj:={ cls:=.type "set", dict:=none,data:=.set es ep t }
theorem SetG.elems{prog:Program}{w:World}{es:Array (Int×Value)}{t:SetTable}{ns:List Int}(g:SetG w es t ns):ElemsOf (intKind prog w) es.toList:=fun e he=>by
 obtain⟨k,u,rfl⟩:=g.ent e he;exact⟨⟨k,intKind_is _ _ _ _,rfl⟩,rfl⟩
theorem SetG.empty(w:World):SetG w #[] (.fresh 0 0 (!w.params.followText "set-order")) []:=⟨fun e he=>by simp at he,List.Pairwise.nil,fun k=>by simp,rfl,alv _⟩
theorem aoc{e:Int×Value}(h:Ent e)(k:Int):Value.isInt k e.2=true↔keyE e=k:=by
 obtain⟨j,u,rfl⟩:=h;simp[Value.isInt,keyE]
theorem SetG.push{w:World}{es es':Array (Int×Value)}{t t':SetTable}{ns:List Int}{k:Int}{u:Tok}(g:SetG w es t ns)(hn:k∉es.toList.map keyE)(hp:es'.toList.Perm (es.push (hashInt k,.int k u)).toList)(hf:t'.fits es'.size=true)
  (hk:Kept (!w.params.followText "set-order") t'):SetG w es' t' (ns++[k]):=by
 rw[Array.toList_push] at hp;have hm:=hp.map keyE;rw[List.map_append] at hm;refine⟨fun e he =>?_,?_,fun j =>?_,hf,hk⟩
 ·rcases List.mem_append.mp (hp.mem_iff.mp he) with h | h
  ·exact g.ent e h
  ·rw[List.mem_singleton] at h;exact⟨k,u,h⟩
 ·rw[hm.nodup_iff,List.nodup_append];refine⟨g.nd,by simp,fun a ha b hb e =>?_⟩
  simp only[List.map_cons,List.map_nil,List.mem_singleton] at hb;subst hb;subst e;exact hn ha
 ·rw[hm.mem_iff,List.mem_append,List.mem_append,g.mem j];rfl
theorem SetG.perm{w:World}{es es':Array (Int×Value)}{t t':SetTable}{ns:List Int}(g:SetG w es t ns)(hp:es'.toList.Perm es.toList)(hf:t'.fits es'.size=true)(hk:Kept (!w.params.followText "set-order") t'):SetG w es' t' ns :=
 ⟨fun e he=>g.ent e (hp.mem_iff.mp he),(hp.map keyE).nodup_iff.mpr g.nd,fun k=>by rw[(hp.map keyE).mem_iff,g.mem k],hf,hk⟩
section
variable{prog:Program}{w:World}{A:Around}{E:Value->Shared->Prop}{s:Shared}
theorem ajz{h:Heap}{a:Addr}{es es':Array (Int×Value)}{ep:Nat}{t t':SetTable}(ho:h.get? a=some (setO es ep t)):(h.update a (Obj.putSet es' t')).get? a=some (setO es' (ep+1) t'):=by
 have:=Heap.get?_update_self (Obj.putSet es' t') ho (by rw[putSet_of es' t' (o:=setO es ep t) rfl];rfl)
 rw[putSet_of es' t' (o:=setO es ep t) rfl] at this;exact this
theorem ar9{a:Addr}{es es1:Array (Int×Value)}{ep:Nat}{t t2:SetTable}{ns:List Int}(g:Bool->Sem Unit)(hg:∀(b:Bool) (s₁:Shared) (Q':Unit->Shared->Prop),Q' () s₁->wpAny (model prog w) A (g b) Q' E s₁)
  (ho:s.heap.get? a=some (setO es ep t)) (G:SetG w es1 t2 ns) (hb:es1.size < scanBound) {wasDummy:Bool} {R:Option Bool->Shared->Prop}
  (h:∀h' es' ep' t',Heap.SameBut a s.heap h'->h'.get? a=some (setO es' ep' t')->SetG w es' t' ns->es'.size=es1.size->R (some true) { s with heap:=h' }) :
  wpAny (model prog w) A (do
    storeSet a es1 t2
    if (!wasDummy&&t2.tooFull)=true then do
      g (relayAll t2 es1 (SetTable.grown es1.size)).2.2
      storeSet a (relayAll t2 es1 (SetTable.grown es1.size)).1 (relayAll t2 es1 (SetTable.grown es1.size)).2.1
      pure (some true)
     else pure (some true)) R E s:=by
 refine wpAny_bind (wpAny_storeSet_of ho rfl ?_ (fits_of_scanBound hb));have h1:=ajz (es':=es1) (t':=t2) ho;have b1:=Heap.SameBut.update s.heap a (Obj.putSet es1 t2);split
 ·have hp:=relayAll_perm t2 es1 (SetTable.grown es1.size);have hsz:(relayAll t2 es1 (SetTable.grown es1.size)).1.size=es1.size:=by rw[<-Array.length_toList,hp.length_eq,Array.length_toList]
  refine wpAny_bind (hg _ _ _ ?_);refine wpAny_bind (wpAny_storeSet_of h1 rfl ?_ (fits_of_scanBound (by rw[hsz];exact hb)))
  exact wpAny_pure (h _ _ _ _ (b1.trans (Heap.SameBut.update _ a _)) (ajz h1) (G.perm hp (relayAll_fits _ _ _) (alb G.kept _ _)) hsz)
 ·exact wpAny_pure (h _ _ _ _ b1 h1 G rfl)
theorem axm{a:Addr}{es:Array (Int×Value)}{ep:Nat}{t:SetTable}{ns:List Int}{k:Int}{u:Tok}{Q:Bool->Shared->Prop}(ho:s.heap.get? a=some (setO es ep t))(G:SetG w es t ns)(hb:es.size+1 < scanBound)
  (h:∀h' es' ep' t' b,Heap.SameBut a s.heap h'->h'.get? a=some (setO es' ep' t')->SetG w es' t' (ns++[k])->es'.size<=es.size+1->Q b { s with heap:=h' }) :
  wpAny (model prog w) A (setAddHashed a (.int k u) (hashInt k)) Q E s:=by
 have hel:ElemsOf (intKind prog w) es.toList:=G.elems;have hkey:(intKind prog w).is k (.int k u)=true:=intKind_is _ _ _ _;unfold setAddHashed setAddHashedIn;refine wpAny_holding (wpAny_bind (wpAny_setState_of ho rfl G.fit ?_));dsimp only;rw[byScan_of (knd:=intKind prog w) rfl (by omega) hel]
 simp only[↓reduceIte];unfold setAddByScan;refine wpAny_bind ?_;refine wpAny_bind (wpAny_rule ?_);refine wpAny_bind (wpAny_setScan_of (knd:=intKind prog w) hkey ho rfl G.fit hel ?_);cases hr:List.findIdx? (fun e=>(intKind prog w).is k e.2) es.toList with
 | some j =>
  dsimp only;obtain⟨hj,hpj,_⟩:=List.findIdx?_eq_some_iff_getElem.mp hr;have hin:k∈es.toList.map keyE:=List.mem_map.mpr ⟨_,List.getElem_mem hj,(aoc (G.ent _ (List.getElem_mem hj)) k).mp hpj⟩;refine wpAny_pure (wpAny_pure ?_);refine h s.heap es ep t _ (Heap.SameBut.refl a s.heap) ho ⟨G.ent,G.nd,fun j' =>?_,G.fit,G.kept⟩ (by omega)
  rw[List.mem_append,List.mem_singleton,G.mem j'];exact⟨.inl,fun z=>z.elim id fun z=>z▸(G.mem k).mp hin⟩
 | none =>
  dsimp only;have hout:k∉es.toList.map keyE:=fun z=>by
   obtain⟨e,he,hk⟩:=List.mem_map.mp z;have h1:=List.findIdx?_eq_none_iff.mp hr e he;have h2:(intKind prog w).is k e.2=true:=(aoc (G.ent e he) k).mpr hk;rw[h2] at h1;cases h1
  have hgw:∀(b:Bool) {s₁:Shared} {Q':Unit->Shared->Prop},Q' () s₁->wpAny (model prog w) A (match b with | true=>rule "set.scan.the-table-gave-way" | false=>pure ()) Q' E s₁ :=
   fun b s₁ Q' hq=>by cases b <;> first | exact wpAny_pure hq | exact wpAny_rule hq
  have hperm:=layNew_perm t es (hashInt k) (.int k u);have hfits:=layNew_fits t es (hashInt k) (.int k u);have hkept:=ajf G.kept es (hashInt k) (.int k u);show wpAny (model prog w) A _ _ _ _
  change wpAny (model prog w) A (match layNew t es (hashInt k) (.int k u) with | (es,t,wasDummy,gave)=>_) _ _ _
  generalize hL:layNew t es (hashInt k) (.int k u)=L at hperm hfits hkept ⊢
  obtain⟨es1,t1,wasDummy,gave⟩:=L;dsimp only at hperm hfits hkept ⊢
  have G1:=G.push hout hperm hfits hkept;have hsz1:es1.size=es.size+1:=by rw[<-Array.length_toList,hperm.length_eq,Array.length_toList,Array.size_push]
  refine wpAny_bind (hgw _ ?_);split
  ·refine wpAny_bind ?_;rw[hashByValue_scannable 8 rfl];refine wpAny_pure ?_;refine ar9 _ ?_ ho (ns:=ns++[k]) ?_ (by omega) ?_
   ·intro b s₁ Q' hq;cases b <;> first | exact wpAny_pure hq | exact wpAny_rule hq
   ·exact G1
   ·intro h' es' ep' t' hsb ho' G' hz;exact wpAny_pure (h h' es' ep' t' _ hsb ho' G' (by omega))
  ·refine wpAny_bind (wpAny_pure ?_);simp only[↓reduceIte];refine ar9 _ ?_ ho (ns:=ns++[k]) G1 (by omega) ?_
   ·intro b s₁ Q' hq;cases b <;> first | exact wpAny_pure hq | exact wpAny_rule hq
   ·intro h' es' ep' t' hsb ho' G' hz;exact wpAny_pure (h h' es' ep' t' _ hsb ho' G' (by omega))
end
section
variable{prog:Program}{w:World}{A:Around}{R:Result->Shared->Prop}{I:Addr}{fp wr:List Addr}{G:Array GenState->Array GenState->Prop}{n:Nat}{P:Nat->Value->Prop}{St:Nat->Shared->Prop}
theorem asd(W:WalksS prog w A.in1 I fp wr G n P St)(S:Addr)(hSf:S∉fp)(val:Nat->Int)(hval:∀i v,P i v->∃t,v=.int (val i) t)(hb:n+1 < scanBound) :
  ∀(k i:Nat) (s:Shared) (es:Array (Int×Value)) (ep:Nat) (t:SetTable),n - i=k->i<=n->St i s->s.heap.get? S=some (setO es ep t)->SetG w es t ((List.range i).map val)->es.size<=i ->
   (∀s' es' ep' t',Moved (S::wr) G s s'->s'.heap.get? S=some (setO es' ep' t')->SetG w es' t' ((List.range n).map val)->es'.size<=n->R (.ok (.ret .none)) s') ->
   codeAny (model prog w) A (.builtin "set.update.loop" ⟨[.ref S,.ref I],[]⟩) R s:=by
 have hSw:S∉wr:=fun h=>hSf (W.sub _ h)
 have hsub:∀b∈wr,b∈S::wr:=fun b hb=>List.mem_cons_of_mem _ hb
 intro k
 induction k with
 | zero =>
  intro i s es ep t hk hi hst ho g hz hR;have hin:i=n:=by omega
  subst hin;refine codeAny_builtin F.entry_set_update_loop ?_;rw[Around.under_plainId F.plain_set_update_loop _];show wpAny _ A.in1 (pyNext (.ref I) >>= _) _ _ s;refine wpAny_bind (W.done s _ _ hst fun s' hm =>?_)
  show wpAny _ A.in1 (ret Value.none) _ _ s';exact wpAny_pure (hR s' es ep t (hm.mono hsub) (hm.heap S _ hSw ho) g hz)
 | succ k ih =>
  intro i s es ep t hk hi hst ho g hz hR;have hlt:i < n:=by omega
  refine codeAny_builtin F.entry_set_update_loop ?_;rw[Around.under_plainId F.plain_set_update_loop _];show wpAny _ A.in1 (pyNext (.ref I) >>= _) _ _ s;refine wpAny_bind (W.item i s _ _ hlt hst fun v s' hP hst' hm =>?_)
  obtain⟨u,rfl⟩:=hval i v hP;have ho':s'.heap.get? S=some (setO es ep t):=hm.heap S _ hSw ho;show wpAny _ A.in1 (holding [Value.int (val i) u] (setAdd S (.int (val i) u)) >>= _) _ _ s';refine wpAny_bind (wpAny_holding ?_);unfold setAdd;refine wpAny_holding ?_;refine wpAny_bind ((intKind prog w).pyHash (k:=val i) (intKind_is _ _ _ _) ?_);refine axm (s:={ s' with toks:=s'.toks+1 }) (u:=u) (k:=val i) ho' g (by omega) fun h' es' ep' t' b hsb ho2 g2 hz2 =>?_
  have g3:SetG w es' t' ((List.range (i+1)).map val):=by
   rw[List.range_succ,List.map_append];exact g2
  refine wpAny_pure ⟨plainId_quiet F.plain_set_update_loop _,ih (i+1) _ es' ep' t' (by omega) hlt (W.frame _ s' _ _ hst' (Nat.le_succ _) fun b hb o e =>?_) ho2 g3 (by omega) fun s'' es'' ep'' t'' hm'' ho'' g'' hz'' =>?_⟩
  ·rw[hsb.2 b (fun h:b=S=>hSf (by rw[<-h];exact hb))];exact e
  ·refine hR s'' es'' ep'' t'' (Moved.trans W.gtrans ((hm.mono hsub).then_heap (Nat.le_succ _) fun b o hb e =>?_) hm'') ho'' g'' hz''
   rw[hsb.2 b (fun h:b=S=>hb (by rw[h];exact List.mem_cons_self))];exact e
end
theorem sub_tuple_set:isSubtype (.type "tuple") (.type "set")=pure false:=by rw[isSubtype_type];kernel_rfl
theorem sub_tuple_frozenset:isSubtype (.type "tuple") (.type "frozenset")=pure false:=by rw[isSubtype_type];kernel_rfl
section
variable{prog:Program}{w:World}{A:Around}{E:Value->Shared->Prop}{s:Shared}
abbrev fresh0(w:World):Obj:=setO #[] 0 (.fresh 0 0 (!w.params.followText "set-order"))
theorem atl(a:Value){Q₁:Value->Shared->Prop}(h:Q₁ (.ref s.heap.objs.size) { s with heap:=s.heap.push (fresh0 w) }) :
  codeAny (model prog w) A (.call (.builtin "set.__new__") ⟨[.type "set", a],[]⟩) (wants Q₁ E) s:=by
 refine codeAny_of_tree ?_;show wpAny _ A.in1 (do checkBuiltinCall "set.__new__" ⟨[.type "set", a],[]⟩;again (.builtin "set.__new__" ⟨[.type "set", a],[]⟩)) _ _ s
 refine wpAny_bind (wpAny_of_eq (F.newCall_set_1 a) (wpAny_pure ⟨plainId_quiet F.plain_set_new _,codeAny_builtin F.entry_set_new ?_⟩));rw[Around.under_plainId F.plain_set_new _];unfold Builtin.«set.__new__» Builtin.Frozenset.newClass;have hsub:=sub_set_self;obtain⟨hp,g,d,tk,os⟩:=s;dsimp only;wp_walk;refine wpAny_askSetting (wpAny_pure ?_);dsimp only;simp only[newObj];refine wpAny_bind (wpAny_alloc (wpAny_pure ?_));exact wpAny_pure h
set_option maxRecDepth 100000 in
set_option maxHeartbeats 3200000 in
theorem au9{l:Addr}{items:Array Value}{ns:List Int}{Q:Value->Shared->Prop}(hh:A.handled=none)(hl:s.heap.IsTuple l items)(hi:IntsAre items.toList ns)(hb:items.size+1 < scanBound)
  (h:∀(h':Heap) (tk:Nat) es ep t,h'.get? s.heap.objs.size=some (setO es ep t)->SetG w es t ns->es.size<=items.size->(∀b o,s.heap.get? b=some o->h'.get? b=some o)->Q (.ref s.heap.objs.size) { s with heap:=h',toks:=tk }) :
  wpAny (model prog w) A (call (.type "set") [.ref l]) Q E s:=by
 obtain⟨c,tl,hmro⟩:=F.called_set.mro;have hmade:=F.called_set.made;have hsub:=F.called_set.sub;refine wpAny_call (codeAny_of_tree ?_);show wpAny _ _ (callAny (.type "set") _) _ _ _;refine wpAny_pure ⟨Code.quiet_builtin _ (by decide +kernel),codeAny_builtin F.entry_type_call ?_⟩
 rw[Around.under_plain (weight_type_call_type "set" [.ref l] []) rfl];have h1:=F.called_set.notType;have h2:=F.called_set.canCreate;have hct:=F.typeCall_set_1 (.ref l)
 repeat (any_goals (first | assumption | wp_step))
 refine codeAny_mono (atl (.ref l) (E:=E) (Q₁:=fun obj s₁=>obj=.ref s.heap.objs.size/\s₁={ s with heap:=s.heap.push (fresh0 w) }) ⟨rfl,rfl⟩) fun r s₁ hr =>?_
 cases r with
 | error e=>exact hr
 | ok fl =>
  cases fl with
  | ret obj =>
   obtain⟨rfl,rfl⟩:=hr;have hS:(s.heap.push (fresh0 w)).get? s.heap.objs.size=some (fresh0 w):=Heap.get?_push_size _ rfl;have hT:Shared.TypeIs { s with heap:=s.heap.push (fresh0 w) } (.ref s.heap.objs.size) "set" := ⟨_,hS,rfl⟩
   have hli:=F.called_set.init.lookup;have hbi:=F.called_set.init.bind (.ref s.heap.objs.size)
   repeat (any_goals (first | assumption | wp_step))
   refine codeAny_mono (codeAny_call_builtin (R:=wants (fun r s₂=>r=.none/\∃h' tk es ep t,s₂={ s with heap:=h',toks:=tk }/\h'.get? s.heap.objs.size=some (setO es ep t)/\SetG w es t ns/\es.size<=items.size /\
     (∀b o,s.heap.get? b=some o->h'.get? b=some o)) E) F.called_set.init.plain F.entry_set_init (check_set_init_1 hT ?_)) fun r₂ s₂ hr₂ =>?_
   ·obtain⟨ol,hol,hcl,nl,hdl⟩:=hl;obtain⟨ocls,odict,odata,oslots⟩:=ol;simp only at hcl hdl;subst hcl;subst hdl;have hol':(s.heap.push (fresh0 w)).get? l=some { cls:=.type "tuple", dict:=odict,data:=.seq items nl,slots:=oslots }:=Heap.get?_push_of_some _ hol;have hsls:=sub_tuple_set;have hslf:=sub_tuple_frozenset;have hne:(Value.type "tuple" == Value.type "dict")=false:=by decide
    have hl1:(s.heap.push (fresh0 w)).IsTuple l items:=⟨_,hol',rfl,nl,rfl⟩;unfold Builtin.«set.__init__» noKeywords Builtin.Frozenset.updateFrom;generalize hPI:pyIter=PI;wp_walk;subst hPI;refine wpAny_pyIter_tuple hl1 ?_;refine wpAny_bind (wpAny_runValue ?_);have hlS:l < s.heap.objs.size:=Heap.lt_size hol;have hh3:A.in1.in1.in1.handled=none:=by simp[hh]
    have hneI:l≠(s.heap.push (fresh0 w)).objs.size:=by
     rw[Heap.size_push];exact Nat.ne_of_lt (Nat.lt_succ_of_lt hlS)
    have hSf:s.heap.objs.size∉[(s.heap.push (fresh0 w)).objs.size,l]:=by
     rw[Heap.size_push];simp only[List.mem_cons,List.mem_singleton,List.not_mem_nil,or_false,not_or];exact⟨Nat.ne_of_lt (Nat.lt_succ_self _),Nat.ne_of_gt hlS⟩
    have hval:∀(i:Nat) (v:Value),items[i]? = some v->∃t,v=.int ((fun i=>ns.getD i 0) i) t:=fun i v hv =>
     PyProof.Rows.IntsAre.int_at hi i v (by rw[Array.getElem?_toList];exact hv)
    have hlen:items.size=ns.length:=by rw[<-Array.length_toList];exact hi.length
    have hns:(List.range items.size).map (fun i=>ns.getD i 0)=ns:=by
     rw[hlen];apply List.ext_getElem
     ·simp
     ·intro i h1 h2;simp[List.getD_eq_getElem?_getD,h2]
    refine asd ((Walks.tuple hh3 _ l hneI items).toS) s.heap.objs.size hSf (fun i=>ns.getD i 0) hval hb (items.size - 0) 0 _ #[] 0 _ (by omega) (Nat.zero_le _)
     ⟨⟨_,Heap.get?_push_size _ rfl,rfl,rfl⟩,(hl1.push _)⟩ (Heap.get?_push_of_some _ hS) (SetG.empty w) (Nat.zero_le _) ?hR
    case hR =>
     intro s' es ep t hm ho' g' hz';rw[hns] at g';obtain⟨h',g₀,d',tk',os'⟩:=s';have eg:g₀=s.gens:=hm.gens;have ed:d'=s.drawn:=hm.drawn;have eo:os'=s.os:=hm.os;subst eg;subst ed;subst eo;show wpAny _ _ _ _ _ _;refine wpAny_pure ?_;show wpAny _ _ (ret Value.none) _ _ _;refine wpAny_pure ⟨rfl,h',tk',es,ep,t,rfl,ho',g',hz',fun b o e =>?_⟩
     have hlt:=Heap.lt_size e;have hb1:b≠s.heap.objs.size:=Nat.ne_of_lt hlt;have hb2:b≠(s.heap.push (fresh0 w)).objs.size:=by
      rw[Heap.size_push];exact Nat.ne_of_lt (Nat.lt_succ_of_lt hlt)
     exact hm.heap b o (by simp only[List.mem_cons,List.mem_singleton,List.not_mem_nil,or_false,not_or];exact⟨hb1,hb2⟩) (Heap.get?_push_of_some _ (Heap.get?_push_of_some _ e))
   ·cases r₂ with
    | error e=>exact hr₂
    | ok fl₂ =>
     cases fl₂ with
     | ret r =>
      obtain⟨rfl,h',tk,es,ep,t,rfl,hS',g',hz',hk'⟩:=hr₂
      repeat (any_goals (first | assumption | wp_step))
      exact h _ _ _ _ _ hS' g' hz' hk'
     | _=>exact hr₂.elim
  | _=>exact hr.elim
end
theorem afi:entryFor table "set.__iter__" = some Builtin.«frozenset.__iter__» :=
 entryFor_alias (id' := "frozenset.__iter__") (by kernel_rfl) rfl (by decide +kernel) (by kernel_rfl)
theorem dw:Slot "set_iterator" "__next__" "set_iterator.__next__" :=
 .of (owner := "set_iterator") (n := "__next__") (by rw[typeLookup_type,builtinLookup_eq_fast];kernel_rfl) (by decide +kernel) (by decide +kernel) (by decide +kernel)
  (by first | exact .inl (by decide +kernel) | exact .inr (by decide +kernel)) (by rw[isSubtype_type];kernel_rfl)
theorem sr:entryFor table "set_iterator.__next__" = some Builtin.«set_iterator.__next__» := entryFor_of_tree (by kernel_rfl)
theorem adf:Slot "set_iterator" "__iter__" "set_iterator.__iter__" :=
 .of (owner := "set_iterator") (n := "__iter__") (by rw[typeLookup_type,builtinLookup_eq_fast];kernel_rfl) (by decide +kernel) (by decide +kernel) (by decide +kernel)
  (by first | exact .inl (by decide +kernel) | exact .inr (by decide +kernel)) (by rw[isSubtype_type];kernel_rfl)
theorem ag4:entryFor table "set_iterator.__iter__" = some Builtin.«dict_keyiterator.__iter__» :=
 entryFor_alias (id' := "dict_keyiterator.__iter__") (by kernel_rfl) rfl (by decide +kernel) (by kernel_rfl)
theorem aj7:Manifest.owners.lookup (String.ofList ['r','o','t','a','r','e','t','i','_','t','e','s'].reverse)=some Manifest.sig_set_iterator:=by kernel_rfl
theorem vo(a:Value):argsOk "set_iterator.__next__" ⟨[a],[]⟩:=by
 unfold argsOk;rw[signature?_of (id := "set_iterator.__next__") (n:=['_','_','t','x','e','n','_','_']) (o:=['r','o','t','a','r','e','t','i','_','t','e','s']) (by kernel_rfl) aj7];kernel_rfl
theorem aiu(a:Value):argsOk "set_iterator.__iter__" ⟨[a],[]⟩:=by
 unfold argsOk;rw[signature?_of (id := "set_iterator.__iter__") (n:=['_','_','r','e','t','i','_','_']) (o:=['r','o','t','a','r','e','t','i','_','t','e','s']) (by kernel_rfl) aj7];kernel_rfl
def IsSI(h:Heap)(I S:Addr)(first:Value)(i n ep:Nat):Prop:=∃o,h.get? I=some o/\o.cls=.type "set_iterator" /\ o.data=.fields #[first,.int i 0,.ref S,.int n 0,.int ep 0]
theorem IsSI.typeIs{s:Shared}{I S:Addr}{first:Value}{i n ep:Nat}(x:IsSI s.heap I S first i n ep):s.TypeIs (.ref I) "set_iterator" := let ⟨o,ho,hc,_⟩:=x;⟨o,ho,hc⟩
theorem IsSI.at{h h':Heap}{I S:Addr}{first:Value}{i n ep:Nat}(x:IsSI h I S first i n ep)(e:∀o,h.get? I=some o->h'.get? I=some o):IsSI h' I S first i n ep:=let ⟨o,ho,r⟩:=x;⟨o,e _ ho,r⟩
section
variable{prog:Program}{w:World}{A:Around}{E:Value->Shared->Prop}{s:Shared}
theorem aiy{I S:Addr}{first:Value}{i n ep:Nat}{Q:Value->Shared->Prop}(hit:IsSI s.heap I S first i n ep)(h:Q (.ref I) s):wpAny (model prog w) A (pyIter (.ref I)) Q E s:=by
 refine wpAny_pyIter_slot hit.typeIs adf (wpAny_call_entry adf hit.typeIs ag4 ?_ (aiu _));show wpAny _ _ (ret (.ref I)) _ _ s;exact wpAny_pure ⟨_,rfl, "set_iterator", _,hit.typeIs,dw.lookup,h⟩
theorem amh{I S:Addr}{slot i:Nat}{es:Array (Int×Value)}{ep:Nat}{t:SetTable}{Q:Option Value->Shared->Prop}{x:Value}{slot':Nat}(hit:IsSI s.heap I S (.int slot 0) i es.size ep)(ho:s.heap.get? S=some (setO es ep t))(hf:t.fits es.size=true)
  (hn:∀(A':Around) (Q':Option (Value×Nat)->Shared->Prop) (E':Value->Shared->Prop),Q' (some (x,slot')) s->wpAny (model prog w) A' (setNext S slot i ep) Q' E' s)
  (hQ:∀h',IsSI h' I S (.int slot' 0) (i+1) es.size ep->Heap.SameBut I s.heap h'->Q (some x) { s with heap:=h' }) :
  wpAny (model prog w) A (pyNext (.ref I)) Q E s:=by
 obtain⟨o,hI,hc,hd⟩:=id hit;unfold pyNext;refine wpAny_bind (wpAny_attempt (wpAny_callSpecial?_slot (name:=Str.ofString "__next__") hit.typeIs dw
  (wpAny_call_entry dw hit.typeIs sr ?_ (vo _))))
 refine wpAny_bind (wpAny_pure ?_);refine wpAny_bind (wpAny_fieldsOf hI hd ?_);dsimp only;refine wpAny_bind (wpAny_setEntries_of ho rfl hf ?_);rw[if_neg (by simp)]
 simp only[Int.toNat_natCast];refine wpAny_bind (hn _ _ _ ?_);dsimp only;refine wpAny_bind (wpAny_setField hI hd (by simp) ?_)
 have h1:=Heap.get?_update_self (Obj.mapFields (·.setIfInBounds 0 (rawInt (slot':Int)))) hI (Obj.isFreed_of_fields (Obj.data_mapFields hd _));refine wpAny_bind (wpAny_setField h1 (Obj.data_mapFields hd _) (by simp) ?_)
 refine wpAny_pure ⟨_,rfl,wpAny_pure (hQ _ ?_ ((Heap.SameBut.update ..).trans (Heap.SameBut.update ..)))⟩;exact⟨_,Heap.get?_update_self _ h1 (Obj.isFreed_of_fields (Obj.data_mapFields (Obj.data_mapFields hd _) _)),(Obj.cls_mapFields ..).trans ((Obj.cls_mapFields ..).trans hc),by
  rw[Obj.data_mapFields (Obj.data_mapFields hd _)];simp[rawInt]⟩
theorem arn{I S:Addr}{slot i:Nat}{es:Array (Int×Value)}{ep:Nat}{t:SetTable}{Q:Option Value->Shared->Prop}(hh:A.handled=none)(hit:IsSI s.heap I S (.int slot 0) i es.size ep)(ho:s.heap.get? S=some (setO es ep t))(hf:t.fits es.size=true)
  (hn:∀(A':Around) (Q':Option (Value×Nat)->Shared->Prop) (E':Value->Shared->Prop),Q' none s->wpAny (model prog w) A' (setNext S slot i ep) Q' E' s)
  (hQ:∀h',Heap.ExtBut I s.heap h'->Q none { s with heap:=h' }):wpAny (model prog w) A (pyNext (.ref I)) Q E s:=by
 obtain⟨o,hI,hc,hd⟩:=id hit;unfold pyNext;refine wpAny_bind (wpAny_attempt (wpAny_callSpecial?_slot (name:=Str.ofString "__next__") hit.typeIs dw
  (wpAny_call_entry dw hit.typeIs sr ?_ (vo _))))
 refine wpAny_bind (wpAny_pure ?_);refine wpAny_bind (wpAny_fieldsOf hI hd ?_);dsimp only;refine wpAny_bind (wpAny_setEntries_of ho rfl hf ?_);rw[if_neg (by simp)]
 simp only[Int.toNat_natCast];refine wpAny_bind (hn _ _ _ ?_);dsimp only;refine wpAny_bind (wpAny_setField hI hd (by simp) ?_)
 show wpAny _ _ (newExc (.type "StopIteration") [] >>= _) _ _ _;refine wpAny_bind ?_;simp only[newExc,newTuple];refine wpAny_bind (wpAny_newObj_type ?_ (by size_fits))
 refine wpAny_bind (m:=firstArgMember _ _) (wpAny_of_eq (a:=Value.none) (by first | rfl | (simp only[firstArgMember];rfl)) ?_)
 refine wpAny_newObj_type ?_ (by size_fits)
 simp only[raiseNew];refine wpAny_bind (wpAny_handled ?_);rw[show A.in1.handled=none from hh]
 refine wpAny_bind (wpAny_pure (wpAny_throw ?_));refine wpAny_bind (wpAny_isInstance (T := "StopIteration") (b:=true) ⟨_,Heap.get?_push_size _ rfl,rfl⟩ isSubtype_stop ?_);exact wpAny_pure (hQ _ (((Heap.SameBut.update ..).extBut.push _).push _))
theorem aph{I S q:Addr}{i j m:Nat}{es:Array (Int×Value)}{ep:Nat}{t:SetTable}{Q:Option Value->Shared->Prop}{x:Int×Value}{ps:Array Value}(hit:IsSI s.heap I S (.ref q) i es.size ep)(ho:s.heap.get? S=some (setO es ep t))(hf:t.fits es.size=true)
  (hq:∃oq,s.heap.get? q=some oq/\oq.data=.seq ps m) (hp:ps[i]? = some (.int (j:Nat) 0)) (hx:es[j]? = some x)
  (hQ:∀h',IsSI h' I S (.ref q) (i+1) es.size ep->Heap.SameBut I s.heap h'->Q (some x.2) { s with heap:=h' }) :
  wpAny (model prog w) A (pyNext (.ref I)) Q E s:=by
 obtain⟨o,hI,hc,hd⟩:=id hit;obtain⟨oq,hoq,hdq⟩:=hq;unfold pyNext;refine wpAny_bind (wpAny_attempt (wpAny_callSpecial?_slot (name:=Str.ofString "__next__") hit.typeIs dw
  (wpAny_call_entry dw hit.typeIs sr ?_ (vo _))))
 refine wpAny_bind (wpAny_pure ?_);refine wpAny_bind (wpAny_fieldsOf hI hd ?_);dsimp only;refine wpAny_bind (wpAny_setEntries_of ho rfl hf ?_);rw[if_neg (by simp)]
 refine wpAny_bind (wpAny_seqItems hoq hdq ?_);dsimp only;simp only[Int.toNat_natCast,hp];unfold setNextDrawn;refine wpAny_bind (wpAny_bind (wpAny_setState_of ho rfl hf ?_));dsimp only;rw[if_neg (by simp)]
 rw[hx];refine wpAny_pure ?_;refine wpAny_bind (wpAny_setField hI hd (by simp) ?_)
 refine wpAny_pure ⟨_,rfl,wpAny_pure (hQ _ ?_ (Heap.SameBut.update ..))⟩;exact⟨_,Heap.get?_update_self _ hI (Obj.isFreed_of_fields (Obj.data_mapFields hd _)),(Obj.cls_mapFields ..).trans hc,by
  rw[Obj.data_mapFields hd];simp[rawInt]⟩
theorem ahe{I S q:Addr}{i m:Nat}{es:Array (Int×Value)}{ep:Nat}{t:SetTable}{Q:Option Value->Shared->Prop}{ps:Array Value}(hh:A.handled=none)(hit:IsSI s.heap I S (.ref q) i es.size ep)(ho:s.heap.get? S=some (setO es ep t))(hf:t.fits es.size=true)
  (hq:∃oq,s.heap.get? q=some oq/\oq.data=.seq ps m) (hp:ps[i]? = none)
  (hQ:∀h',Heap.ExtBut I s.heap h'->Q none { s with heap:=h' }):wpAny (model prog w) A (pyNext (.ref I)) Q E s:=by
 obtain⟨o,hI,hc,hd⟩:=id hit;obtain⟨oq,hoq,hdq⟩:=hq;unfold pyNext;refine wpAny_bind (wpAny_attempt (wpAny_callSpecial?_slot (name:=Str.ofString "__next__") hit.typeIs dw
  (wpAny_call_entry dw hit.typeIs sr ?_ (vo _))))
 refine wpAny_bind (wpAny_pure ?_);refine wpAny_bind (wpAny_fieldsOf hI hd ?_);dsimp only;refine wpAny_bind (wpAny_setEntries_of ho rfl hf ?_);rw[if_neg (by simp)]
 refine wpAny_bind (wpAny_seqItems hoq hdq ?_);dsimp only;simp only[Int.toNat_natCast,hp];refine wpAny_bind (wpAny_setField hI hd (by simp) ?_)
 have h1:=Heap.get?_update_self (Obj.mapFields (·.setIfInBounds 0 (rawInt 0))) hI (Obj.isFreed_of_fields (Obj.data_mapFields hd _));refine wpAny_bind (wpAny_setField h1 (Obj.data_mapFields hd _) (by simp) ?_)
 show wpAny _ _ (newExc (.type "StopIteration") [] >>= _) _ _ _;refine wpAny_bind ?_;simp only[newExc,newTuple];refine wpAny_bind (wpAny_newObj_type ?_ (by size_fits))
 refine wpAny_bind (m:=firstArgMember _ _) (wpAny_of_eq (a:=Value.none) (by first | rfl | (simp only[firstArgMember];rfl)) ?_)
 refine wpAny_newObj_type ?_ (by size_fits)
 simp only[raiseNew];refine wpAny_bind (wpAny_handled ?_);rw[show A.in1.handled=none from hh]
 refine wpAny_bind (wpAny_pure (wpAny_throw ?_));refine wpAny_bind (wpAny_isInstance (T := "StopIteration") (b:=true) ⟨_,Heap.get?_push_size _ rfl,rfl⟩ isSubtype_stop ?_);exact wpAny_pure (hQ _ ((((Heap.SameBut.update ..).trans (Heap.SameBut.update ..)).extBut.push _).push _))
end
section
variable{prog:Program}{w:World}{A:Around}{E:Value->Shared->Prop}{s:Shared}
theorem ae7{Q:Bool->Shared->Prop}(h:Q (w.params.followText "set-order") s):wpAny (model prog w) A setsByText Q E s:=by
 unfold setsByText;exact wpAny_bind (wpAny_askSetting (wpAny_pure h))
theorem alo{S:Addr}{slot g i j:Nat}{es:Array (Int×Value)}{ep:Nat}{t:SetTable}{e:Int×Value}{Q:Option (Value×Nat)->Shared->Prop}(ho:s.heap.get? S=some (setO es ep t))(hf:t.fits es.size=true)
  (hw:w.params.followText "set-order" = false) (hd:(!t.plain&&decide (es.size > 1))=false) (hl:t.led=true) (hb:SetTable.below t.place slot=i) (he:es[i]? = some e) (hp:t.place[i]? = some j)
  (h:Q (some (e.2,j+1)) s):wpAny (model prog w) A (setNext S slot g ep) Q E s:=by
 unfold setNext;refine wpAny_bind (wpAny_setState_of ho rfl hf ?_);dsimp only;refine wpAny_bind (ae7 ?_);rw[hw,if_neg (by simp)]
 show wpAny _ _ (if (!t.plain&&decide (es.size > 1))=true then _ else _) _ _ _
 rw[hd,if_neg (by simp)]
 refine wpAny_bind (m:=if (!t.led && !es.isEmpty)=true then _ else _) ?_
 rw[hl,if_neg (by simp)]
 refine wpAny_pure ?_;rw[hb,he,hp];exact wpAny_pure h
theorem am5{S:Addr}{slot g i:Nat}{es:Array (Int×Value)}{ep:Nat}{t:SetTable}{Q:Option (Value×Nat)->Shared->Prop}(ho:s.heap.get? S=some (setO es ep t))(hf:t.fits es.size=true)
  (hw:w.params.followText "set-order" = false) (hd:(!t.plain&&decide (es.size > 1))=false) (hl:t.led=true) (hb:SetTable.below t.place slot=i) (he:es[i]? = none)
  (h:Q none s):wpAny (model prog w) A (setNext S slot g ep) Q E s:=by
 unfold setNext;refine wpAny_bind (wpAny_setState_of ho rfl hf ?_);dsimp only;refine wpAny_bind (ae7 ?_);rw[hw,if_neg (by simp)]
 show wpAny _ _ (if (!t.plain&&decide (es.size > 1))=true then _ else _) _ _ _
 rw[hd,if_neg (by simp)]
 refine wpAny_bind (m:=if (!t.led && !es.isEmpty)=true then _ else _) ?_
 rw[hl,if_neg (by simp)]
 refine wpAny_pure ?_;rw[hb,he];exact wpAny_pure h
theorem ahx{S:Addr}{slot g:Nat}{es:Array (Int×Value)}{ep:Nat}{t:SetTable}{Q:Option (Value×Nat)->Shared->Prop}(ho:s.heap.get? S=some (setO es ep t))(hf:t.fits es.size=true)
  (hw:w.params.followText "set-order" = true) (h:Q (((pickOrder (w.params.setOrder S ep) es)[g]?).map fun e=>(e.2,slot)) s):wpAny (model prog w) A (setNext S slot g ep) Q E s:=by
 unfold setNext;refine wpAny_bind (wpAny_setState_of ho rfl hf ?_);dsimp only;refine wpAny_bind (ae7 ?_);rw[hw,if_pos rfl,if_neg (by simp)]
 unfold setWalk;refine wpAny_bind (wpAny_bind (wpAny_setState_of ho rfl hf ?_));dsimp only;refine wpAny_bind (ae7 ?_);rw[hw,if_pos rfl];exact wpAny_bind (wpAny_askSetting (wpAny_pure (wpAny_pure h)))
theorem ac8{α:Type}:∀(l:List α) (i:Nat) (x:α),l[i]? = some x->(x::l.eraseIdx i).Perm l
 | [],i,x,h=>by simp at h
 | a::r,0,x,h=>by simp at h;subst h;exact .refl _
 | a::r,i+1,x,h=>by
  rw[List.getElem?_cons_succ] at h;exact(List.Perm.swap a x _).trans ((ac8 r i x h).cons a)
theorem amw{α:Type}(next:Nat->Nat):∀(fuel k:Nat) (left:List α) (out:Array α),left.length=fuel->(pickOrder.go next fuel k left out).toList.Perm (out.toList++left)
 | 0,k,left,out,h=>by
  have:left=[]:=List.length_eq_zero_iff.mp h;subst this;show out.toList.Perm _;simp
 | fuel+1,k,left,out,h=>by
  have hlt:next k % left.length < left.length:=Nat.mod_lt _ (by omega)
  unfold pickOrder.go;have hx:left[next k % left.length]? = some left[next k % left.length]:=List.getElem?_eq_getElem hlt;rw[hx];dsimp only;have hlen:(left.eraseIdx (next k % left.length)).length=fuel:=by rw[List.length_eraseIdx_of_lt hlt];omega
  refine(amw next fuel (k+1) _ _ hlen).trans ?_;rw[Array.toList_push,List.append_assoc];exact List.Perm.append_left _ (ac8 _ _ _ hx)
theorem aef{α:Type}(next:Nat->Nat)(xs:Array α):(pickOrder next xs).toList.Perm xs.toList:=by
 have:=amw next xs.size 0 xs.toList #[] (by simp)
 simpa[pickOrder] using this
theorem afy:∀(n:Nat) {α:Type} (xs:List α) (s:Shared) (Q:List α->Shared->Prop),xs.length=n->(∀ys d,ys.Perm xs->Q ys { s with drawn:=d })->wpAny (model prog w) A (drawOrder n xs) Q E s
 | 0,α,xs,s,Q,h,q=>by
  have:xs=[]:=List.length_eq_zero_iff.mp h;subst this;exact wpAny_pure (q [] s.drawn (.refl _))
 | n+1,α,[],s,Q,h,q=>by cases h
 | n+1,α,x::r,s,Q,h,q=>by
  unfold drawOrder;intro Γ p hΓ;show(x::r).length≠0/\_;refine⟨by simp,?_⟩
  revert Γ p hΓ
  show wpAny _ _ (match (x::r)[(model prog w).w.draws .order (s.drawn.get .order) % (x::r).length]? with | some y=>_ | none=>_) _ _ _
  have hlt:(model prog w).w.draws .order (s.drawn.get .order) % (x::r).length < (x::r).length:=Nat.mod_lt _ (by simp)
  have hx:=List.getElem?_eq_getElem hlt;rw[hx];refine wpAny_bind (afy n _ _ _ (by rw[List.length_eraseIdx_of_lt hlt];simpa using h) fun ys d hp =>?_)
  exact wpAny_pure (q _ _ ((hp.cons _).trans (ac8 _ _ _ hx)))
end
def PW(ord:Array (Int×Value))(i:Nat)(v:Value):Prop:=∃e,ord[i]? = some e/\v=e.2
theorem aiz{h h':Heap}{I S:Addr}{o:Obj}(hne:S≠I)(ho:h.get? S=some o)(hs:Heap.SameBut I h h'):h'.get? S=some o:=(hs.2 S hne).trans ho
theorem an5{t:SetTable}{n:Nat}(h:t.fits n=true):t.place.size=n:=by
 unfold SetTable.fits at h;rw[Bool.and_eq_true] at h;exact eq_of_beq h.1
section
variable{prog:Program}{w:World}{A:Around}
theorem apd(hh:A.handled=none)(I S:Addr)(hne:S≠I){es:Array (Int×Value)}{ep:Nat}{t:SetTable}(hf:t.fits es.size=true)(hw:w.params.followText "set-order" = true) :
  Walks prog w A I [I,S] [I] es.size (PW (pickOrder (w.params.setOrder S ep) es)) (fun i h=>IsSI h I S (.int (0:Nat) 0) i es.size ep/\h.get? S=some (setO es ep t)) where
 sub:=fun b hb=>by simp at hb;simp[hb]
 frame:=fun _ _ _ st hk=>⟨st.1.at fun o e=>hk I (by simp) o e,hk S (by simp) _ st.2⟩
 item:=fun i s Q E hi st hQ=>by
  have hsz:(pickOrder (w.params.setOrder S ep) es).size=es.size:=by rw[<-Array.length_toList,(aef _ _).length_eq,Array.length_toList]
  have hx:(pickOrder (w.params.setOrder S ep) es)[i]? = some (pickOrder (w.params.setOrder S ep) es)[i]:=by simp[hsz,hi]
  refine amh (x:=((pickOrder (w.params.setOrder S ep) es)[i]).2) (slot':=0) st.1 st.2 hf (fun A' Q' E' q=>ahx st.2 hf hw (by rw[hx];exact q)) fun h' hit' hs' =>?_
  exact hQ _ h' s.toks ⟨_,hx,rfl⟩ ⟨hit',aiz hne st.2 hs'⟩ fun b o hb e=>hs'.extBut b o (fun h=>hb (by simp[h])) e
 done:=fun s Q E st hQ=>by
  have hsz:(pickOrder (w.params.setOrder S ep) es).size=es.size:=by rw[<-Array.length_toList,(aef _ _).length_eq,Array.length_toList]
  refine arn hh st.1 st.2 hf (fun A' Q' E' q=>ahx st.2 hf hw (by rw[Array.getElem?_eq_none (by omega)];exact q)) fun h' he'=>hQ h' s.toks fun b o hb e=>he' b o (fun h=>hb (by simp[h])) e
 self:=fun _ _ _ _ st hQ=>aiy st.1 hQ
theorem al7(hh:A.handled=none)(I S:Addr)(hne:S≠I){es:Array (Int×Value)}{ep:Nat}{t:SetTable}(hf:t.fits es.size=true)(hw:w.params.followText "set-order" = false)(hr:Rise t)(hd:(!t.plain&&decide (es.size > 1))=false)(hl:t.led=true) :
  Walks prog w A I [I,S] [I] es.size (PW es) (fun i h=>(∃slot:Nat,SetTable.below t.place slot=i/\IsSI h I S (.int slot 0) i es.size ep)/\h.get? S=some (setO es ep t)) where
 sub:=fun b hb=>by simp at hb;simp[hb]
 frame:=fun _ _ _ ⟨⟨slot,hb,st⟩,ho⟩ hk=>⟨⟨slot,hb,st.at fun o e=>hk I (by simp) o e⟩,hk S (by simp) _ ho⟩
 item:=fun i s Q E hi ⟨⟨slot,hb,st⟩,ho⟩ hQ=>by
  have hx:es[i]? = some es[i]:=by simp[hi]
  have hps:=an5 hf;have hp:t.place[i]? = some (t.place[i]):=by simp[hps,hi]
  refine amh (x:=(es[i]).2) (slot':=t.place[i]+1) st ho hf (fun A' Q' E' q=>alo ho hf hw hd hl hb hx hp q) fun h' hit' hs' =>?_
  exact hQ _ h' s.toks ⟨_,hx,rfl⟩ ⟨⟨_,al0 hr hp,hit'⟩,aiz hne ho hs'⟩ fun b o hb e=>hs'.extBut b o (fun h=>hb (by simp[h])) e
 done:=fun s Q E ⟨⟨slot,hb,st⟩,ho⟩ hQ=>by
  refine arn hh st ho hf (fun A' Q' E' q=>am5 ho hf hw hd hl hb (Array.getElem?_eq_none (Nat.le_refl _)) q) fun h' he'=>hQ h' s.toks fun b o hb e=>he' b o (fun h=>hb (by simp[h])) e
 self:=fun _ _ _ _ ⟨⟨slot,hb,st⟩,ho⟩ hQ=>aiy st hQ
theorem al8(hh:A.handled=none)(I S q:Addr)(hne:S≠I)(hq:q≠I){es:Array (Int×Value)}{ep:Nat}{t:SetTable}(hf:t.fits es.size=true)(js:List Nat)(hj:js.Perm (List.range es.size)) :
  Walks prog w A I [I,S,q] [I] es.size (PW (js.map fun j=>es.getD j (0,.none)).toArray) (fun i h=>IsSI h I S (.ref q) i es.size ep/\h.get? S=some (setO es ep t)/\∃oq m,h.get? q=some oq/\oq.data=.seq (js.map fun(j:Nat)=>rawInt j).toArray m) where
 sub:=fun b hb=>by simp at hb;simp[hb]
 frame:=fun _ _ _ ⟨st,ho,oq,m,h1,h2⟩ hk=>⟨st.at fun o e=>hk I (by simp) o e,hk S (by simp) _ ho,oq,m,hk q (by simp) _ h1,h2⟩
 item:=fun i s Q E hi ⟨st,ho,oq,m,h1,h2⟩ hQ=>by
  have hlen:js.length=es.size:=by rw[hj.length_eq,List.length_range]
  have hjlt:js[i] < es.size:=List.mem_range.mp (hj.mem_iff.mp (List.getElem_mem (by omega)))
  have hx:es[js[i]]? = some es[js[i]]:=by simp[hjlt]
  refine aph (j:=js[i]) (x:=es[js[i]]) st ho hf ⟨oq,h1,h2⟩ (by simp[hlen,hi,rawInt]) hx fun h' hit' hs' =>?_
  refine hQ _ h' s.toks ⟨es[js[i]],?_,rfl⟩ ⟨hit',aiz hne ho hs',oq,m,(hs'.2 q hq).trans h1,h2⟩ fun b o hb e=>hs'.extBut b o (fun h=>hb (by simp[h])) e
  simp[hlen,hi,Array.getD,hjlt]
 done:=fun s Q E ⟨st,ho,oq,m,h1,h2⟩ hQ=>by
  have hlen:js.length=es.size:=by rw[hj.length_eq,List.length_range]
  refine ahe hh st ho hf ⟨oq,h1,h2⟩ (by simp[hlen]) fun h' he'=>hQ h' s.toks fun b o hb e=>he' b o (fun h=>hb (by simp[h])) e
 self:=fun _ _ _ _ st hQ=>aiy st.1 hQ
variable{E:Value->Shared->Prop}{s:Shared}
theorem amk{S:Addr}{es:Array (Int×Value)}{ep:Nat}{t:SetTable}{Q:Bool->Shared->Prop}(ho:s.heap.get? S=some (setO es ep t))(hf:t.fits es.size=true)(h:Q (!w.params.followText "set-order" && (!t.plain&&decide (es.size > 1))) s) :
  wpAny (model prog w) A (setDrawn S) Q E s:=by
 unfold setDrawn;refine wpAny_bind (wpAny_setState_of ho rfl hf ?_);dsimp only;refine wpAny_bind (ae7 ?_);exact wpAny_pure h
theorem apk{S:Addr}{es:Array (Int×Value)}{ep:Nat}{t:SetTable}{ns:List Int}{Q:Value->Shared->Prop}(ho:s.heap.get? S=some (setO es ep t))(G:SetG w es t ns)(hb:es.size < scanBound)
  (h:∀(I:Addr) (fp:List Addr) (St:Nat->Heap->Prop) (ord:Array (Int×Value)) (s':Shared),(∀A':Around,A'.handled=none->Walks prog w A' I fp [I] es.size (PW ord) St)->St 0 s'.heap->ord.toList.Perm es.toList ->
   s.heap.objs.size<=I->(∀b∈fp,b=S∨s.heap.objs.size<=b)->(∀b o,s.heap.get? b=some o->s'.heap.get? b=some o)->s'.gens=s.gens->s'.os=s.os->s'.toks=s.toks->Q (.ref I) s') :
  wpAny (model prog w) A (pyIter (.ref S)) Q E s:=by
 have hT:s.TypeIs (.ref S) "set" := ⟨_,ho,rfl⟩;have hSlt:S < s.heap.objs.size:=Heap.lt_size ho;refine wpAny_pyIter_slot hT F.slot_set_iter (wpAny_call_entry F.slot_set_iter hT afi ?_ (F.args_set_iter_1 _));show wpAny _ _ (pure S >>= _) _ _ s;refine wpAny_bind (wpAny_pure ?_);unfold Builtin.Frozenset.sizeOf;refine wpAny_bind (wpAny_bind (wpAny_setEntries_of ho rfl G.fit (wpAny_pure ?_)));refine wpAny_bind (amk ho G.fit ?_);cases hw:w.params.followText "set-order" with
 | true =>
  rw[Bool.not_true,Bool.false_and,if_neg (by simp)]
  refine wpAny_bind (wpAny_pure ?_);refine wpAny_bind (wpAny_setEpoch_of ho rfl G.fit ?_);refine wpAny_bind (wpAny_newObj_type (wpAny_pure ⟨_,rfl, "set_iterator", _,⟨_,Heap.get?_push_size _ rfl,rfl⟩,dw.lookup,?_⟩));refine h s.heap.objs.size [s.heap.objs.size,S] _ _ _ (fun A' hh=>apd hh _ S (Nat.ne_of_lt hSlt) G.fit hw) ⟨⟨_,Heap.get?_push_size _ rfl,rfl,rfl⟩,Heap.get?_push_of_some _ ho⟩ (aef _ _) (Nat.le_refl _) (fun b hb =>?_) (fun b o e=>Heap.get?_push_of_some _ e) rfl rfl rfl
  simp only[List.mem_cons,List.not_mem_nil,or_false] at hb;rcases hb with rfl | rfl
  ·exact .inr (Nat.le_refl _)
  ·exact .inl rfl
 | false =>
  have hl:t.led=true:=by
   have:=G.kept.2;rw[hw] at this;exact this
  cases hd:(!t.plain&&decide (es.size > 1)) with
  | false =>
   rw[Bool.and_false,if_neg (by simp)]
   refine wpAny_bind (wpAny_pure ?_);refine wpAny_bind (wpAny_setEpoch_of ho rfl G.fit ?_);refine wpAny_bind (wpAny_newObj_type (wpAny_pure ⟨_,rfl, "set_iterator", _,⟨_,Heap.get?_push_size _ rfl,rfl⟩,dw.lookup,?_⟩));refine h s.heap.objs.size [s.heap.objs.size,S] _ _ _ (fun A' hh=>al7 hh _ S (Nat.ne_of_lt hSlt) G.fit hw G.kept.1 hd hl) ⟨⟨0,alz G.kept.1,_,Heap.get?_push_size _ rfl,rfl,rfl⟩,Heap.get?_push_of_some _ ho⟩ (.refl _) (Nat.le_refl _) (fun b hb =>?_) (fun b o e=>Heap.get?_push_of_some _ e) rfl rfl rfl
   simp only[List.mem_cons,List.not_mem_nil,or_false] at hb;rcases hb with rfl | rfl
   ·exact .inr (Nat.le_refl _)
   ·exact .inl rfl
  | true =>
   rw[Bool.not_false,Bool.true_and,if_pos rfl];refine wpAny_bind (afy _ (List.range es.size) _ _ List.length_range fun js d hj =>?_)
   have hlen:js.length=es.size:=by rw[hj.length_eq,List.length_range]
   simp only[newTuple];refine wpAny_bind (wpAny_newObj_type ?_ (by show(js.map fun(i:Nat)=>rawInt i).toArray.size<=sizeLine;rw[List.size_toArray,List.length_map,hlen];exact fits_of_scanBound hb))
   refine wpAny_bind (wpAny_setEpoch_of (Heap.get?_push_of_some _ ho) rfl G.fit ?_);refine wpAny_bind (wpAny_newObj_type (wpAny_pure ⟨_,rfl, "set_iterator", _,⟨_,Heap.get?_push_size _ rfl,rfl⟩,dw.lookup,?_⟩));have hq:∀o:Obj,s.heap.objs.size≠(s.heap.push o).objs.size:=fun o=>by rw[Heap.size_push];exact Nat.ne_of_lt (Nat.lt_succ_self _)
   have hS2:∀o:Obj,S≠(s.heap.push o).objs.size:=fun o=>by rw[Heap.size_push];exact Nat.ne_of_lt (Nat.lt_succ_of_lt hSlt)
   refine h _ _ _ _ _ (fun A' hh=>al8 hh _ S s.heap.objs.size (hS2 _) (hq _) G.fit js hj) ⟨⟨_,Heap.get?_push_size _ rfl,rfl,rfl⟩,Heap.get?_push_of_some _ (Heap.get?_push_of_some _ ho),_,_,Heap.get?_push_of_some _ (Heap.get?_push_size _ rfl),rfl⟩ ?_ ?_ (fun b hb =>?_) (fun b o e=>Heap.get?_push_of_some _ (Heap.get?_push_of_some _ e)) rfl rfl rfl
   ·refine(hj.map _).trans ?_;have e:(List.range es.size).map (fun j=>es.getD j (0,Value.none))=es.toList:=by
     apply List.ext_getElem
     ·simp
     ·intro i h1 h2;have h3:i < es.size:=by simpa using h2
      simp[Array.getD,h3]
    rw[e]
   ·rw[Heap.size_push];exact Nat.le_succ _
   ·simp only[List.mem_cons,List.not_mem_nil,or_false] at hb;rcases hb with rfl | rfl | rfl
    ·right;rw[Heap.size_push];exact Nat.le_succ _
    ·exact .inl rfl
    ·exact .inr (Nat.le_refl _)
end
theorem ae9:typeLookup (.type "set") "__len__" = pure (some (.builtin "set.__len__")):=by rw[typeLookup_type,builtinLookup_eq_fast];kernel_rfl
theorem adl:∀{es:List (Int×Value)},(∀e∈es,Ent e)->IntsAre (es.map (·.2)) (es.map keyE)
 | [],_=>.nil
 | e::r,h=>by
  obtain⟨k,u,he⟩:=h e (List.mem_cons_self ..);subst he;exact .cons k u (adl fun e he=>h e (List.mem_cons_of_mem _ he))
theorem anp{ord:Array (Int×Value)}{acc:Array Value}{n:Nat}(h:ItemsOf (PW ord) acc n)(hn:ord.size=n):acc.toList=ord.toList.map (·.2):=by
 apply List.ext_getElem
 ·rw[List.length_map,Array.length_toList,Array.length_toList,h.1,hn]
 ·intro i h1 h2;obtain⟨e,he,hv⟩:=h.2 i acc.toList[i] (by rw[<-Array.getElem?_toList];exact List.getElem?_eq_getElem h1)
  rw[hv,List.getElem_map];rw[<-Array.getElem?_toList] at he;have h3:i < ord.toList.length:=by simpa using h2
  rw[List.getElem?_eq_getElem h3] at he;cases he;rfl
theorem amf{h:Heap}{a:Addr}{xs:Array Value}{n:Nat}(ho:h.get? a=some (seqObj "list" xs n))(vs:List Value)(out:Array Value):∃m,(sortedHeap h a vs out).get? a=some (seqObj "list" out m) :=
 ⟨_,get?_update_seq (Heap.get?_push_of_some _ (Heap.get?_push_of_some _ (get?_update_seq ho (fun _ => #[])))) (fun _=>out)⟩
theorem ak6{h:Heap}{a b:Addr}{o:Obj}{vs:List Value}{out:Array Value}(e:h.get? b=some o)(hb:b≠a):(sortedHeap h a vs out).get? b=some o :=
 (Heap.get?_update_other _ _ (Ne.symm hb)).trans (Heap.get?_push_of_some _ (Heap.get?_push_of_some _ ((Heap.get?_update_other _ _ (Ne.symm hb)).trans e)))
section
variable{prog:Program}{w:World}{A:Around}{E:Value->Shared->Prop}{s:Shared}
theorem ajt{S:Addr}{es:Array (Int×Value)}{ep:Nat}{t:SetTable}{ns:List Int}{Q:List Value->Shared->Prop}(hh:A.handled=none)(ho:s.heap.get? S=some (setO es ep t))(G:SetG w es t ns)(hb:es.size < scanBound)
  (hQ:∀(s':Shared) (acc:List Value) (ks:List Int),s.heap.objs.size < s'.heap.objs.size->(∀b o,s.heap.get? b=some o->s'.heap.get? b=some o)->s'.gens=s.gens->s'.os=s.os->IntsAre acc ks->ks.Perm (es.toList.map keyE)->Q acc s') :
  wpAny (model prog w) A (collect (.ref S)) Q E s:=by
 have hSlt:S < s.heap.objs.size:=Heap.lt_size ho;unfold collect;refine wpAny_bind (wpAny_runValue (codeAny_builtin F.entry_proto_collect ?_));rw[Around.under_plainId F.plain_proto_collect _];show wpAny _ A.in1 (newList [] >>= fun l=>again (.builtin "list.__iadd__" ⟨[l,.ref S],[]⟩)) _ _ s
 refine wpAny_bind (wpAny_newObj_type ?_);refine wpAny_pure ⟨plainId_quiet F.plain_list_iadd _,codeAny_builtin F.entry_list_iadd ?_⟩;rw[Around.under_plainId F.plain_list_iadd _];have ho1:(s.heap.push { cls:=.type "list", data:=.seq ([]:List Value).toArray }).get? S=some (setO es ep t):=Heap.get?_push_of_some _ ho;have hL:(s.heap.push { cls:=.type "list", data:=.seq ([]:List Value).toArray }).get? s.heap.objs.size=some { cls:=.type "list", data:=.seq ([]:List Value).toArray }:=Heap.get?_push_size _ rfl;have hold:∀b o,s.heap.get? b=some o->(s.heap.push { cls:=.type "list", data:=.seq ([]:List Value).toArray }).get? b=some o:=fun b o e=>Heap.get?_push_of_some _ e
 have hsz1:(s.heap.push { cls:=.type "list", data:=.seq ([]:List Value).toArray }).objs.size=s.heap.objs.size+1:=Heap.size_push _ _;show wpAny _ A.in1 (Builtin.List.listExtendWith (.ref s.heap.objs.size) (.ref S) (.ref s.heap.objs.size)) _ _ { s with heap:=s.heap.push { cls:=.type "list", data:=.seq ([]:List Value).toArray } }
 generalize s.heap.push { cls:=.type "list", data:=.seq ([]:List Value).toArray }=H1 at ho1 hL hold hsz1 ⊢
 unfold Builtin.List.listExtendWith;refine wpAny_bind (wpAny_typeOf (T := "set") ⟨_,ho1,rfl⟩ ?_);have h1:Builtin.List.listSameRef (.ref s.heap.objs.size) (.ref S)=false:=by simp[Builtin.List.listSameRef,Nat.ne_of_gt hSlt]
 have h2:(Value.type "set" == Value.type "list")=false:=by decide
 have h3:(Value.type "set" == Value.type "tuple")=false:=by decide
 simp only[h1,h2,h3,Bool.or_false,Bool.false_eq_true,if_false];refine wpAny_bind (apk (s:={ s with heap:=H1 }) ho1 G hb fun I fp St ord s2 W hst hord hI hfp hk2 hg2 ho2 ht2 =>?_)
 have hSs:s2.heap.get? S=some (setO es ep t):=hk2 _ _ ho1;have hLs:s2.heap.get? s.heap.objs.size=some { cls:=.type "list", data:=.seq ([]:List Value).toArray }:=hk2 _ _ hL;refine wpAny_bind (wpAny_holding ?_);unfold Builtin.List.listLengthHint;refine wpAny_bind (wpAny_specialOf (T := "set") ⟨_,hSs,rfl⟩ ae9 ?_);generalize hid:("set.__len__" : String)=id0
 wp_delta
 rw[show splitId id0=some ("set","__len__") from by subst hid;decide +kernel]
 subst hid;refine wpAny_bind (wpAny_isInstance (T := "set") (b:=true) ⟨_,hSs,rfl⟩ (by rw[isSubtype_type];kernel_rfl) ?_)
 show wpAny _ A.in1 (typeOf (Value.ref S) >>= _) _ _ _;refine wpAny_bind (wpAny_typeOf (T := "set") ⟨_,hSs,rfl⟩ ?_);refine wpAny_pure ?_;rw[if_pos (by decide)]
 refine wpAny_bind (wpAny_rule ?_);refine wpAny_bind ?_;show wpAny _ A.in1 (updateSeq s.heap.objs.size (·.push .none) >>= fun _=>updateSeq s.heap.objs.size (·.pop)) _ _ _
 refine wpAny_bind (wpAny_updateSeq hLs rfl ?_);have hS₂:=Heap.get?_update_self (Obj.mapSeq (·.push Value.none)) hLs rfl;refine wpAny_updateSeq hS₂ rfl ?_;have hS₃:=Heap.get?_update_self (Obj.mapSeq (·.pop)) hS₂ rfl;have oth:∀b o,b≠s.heap.objs.size->s2.heap.get? b=some o ->
   ((s2.heap.update s.heap.objs.size (Obj.mapSeq (·.push Value.none))).update s.heap.objs.size (Obj.mapSeq (·.pop))).get? b=some o :=
  fun b o hb e=>(Heap.get?_update_other _ _ (Ne.symm hb)).trans ((Heap.get?_update_other _ _ (Ne.symm hb)).trans e)
 have hSf:s.heap.objs.size∉fp:=fun hm=>by
  rcases hfp _ hm with e | e
  ·exact Nat.ne_of_gt hSlt e
  ·have e':s.heap.objs.size+1<=s.heap.objs.size:=hsz1▸e;exact Nat.not_succ_le_self _ e'
 have hIne:s.heap.objs.size+1<=I:=hsz1▸hI;refine wpAny_pure ⟨plainId_quiet F.plain_extend_loop _,codeAny_extend_loopS (W A.in1 hh).toS (fits_of_scanBound hb) _ hSf _ es.size 0 _ _ _ rfl (Nat.zero_le _)
  ((W A.in1 hh).frame 0 s2.heap _ hst fun b hb o e=>oth b o (fun h=>hSf (h▸hb)) e) hS₃ (ItemsOf.nil _) fun s' acc' c' hm hS' hacc =>?_⟩
 show wpAny _ A (load s.heap.objs.size >>= _) _ _ s';refine wpAny_bind (wpAny_load hS' ?_);have hosz:ord.size=es.size:=by rw[<-Array.length_toList,hord.length_eq,Array.length_toList]
 have hacc':=anp hacc hosz;refine wpAny_pure (hQ s' acc'.toList (ord.toList.map keyE) (Heap.lt_size hS') (fun b o e =>?_) (hm.gens.trans hg2) (hm.os.trans ho2) ?_ (hord.map _))
 ·have hlt:=Heap.lt_size e;refine hm.heap b o (fun hb =>?_) (oth b o (Nat.ne_of_lt hlt) (hk2 b o (hold b o e)))
  simp only[List.mem_cons,List.not_mem_nil,or_false] at hb;rcases hb with rfl | rfl
  ·exact Nat.lt_irrefl _ hlt
  ·exact absurd hlt (Nat.not_lt.mpr (Nat.le_trans (Nat.le_succ _) hIne))
 ·rw[hacc'];exact adl fun e he=>G.ent e (hord.mem_iff.mp he)
set_option maxHeartbeats 1000000 in
theorem ak5{S:Addr}{es:Array (Int×Value)}{ep:Nat}{t:SetTable}{ns:List Int}{Q:Value->Shared->Prop}(hh:A.handled=none)(ho:s.heap.get? S=some (setO es ep t))(G:SetG w es t ns)(h64:es.size < 64)
  (h:∀(s':Shared) (a:Addr) (out:Array Value) (m:Nat) (ns':List Int),s.heap.objs.size<=a->(∀b o,s.heap.get? b=some o->s'.heap.get? b=some o)->s'.gens=s.gens->s'.os=s.os->s'.heap.get? a=some (seqObj "list" out m) ->
   IntsAre out.toList ns'->ns'.Perm (es.toList.map keyE)->ns'.Pairwise (· <= ·)->Q (.ref a) s') :
  wpAny (model prog w) A (call (.builtin "sorted") [.ref S]) Q E s:=by
 refine Calls.call_function_entry kind_sorted plain_sorted entry_sorted (args_sorted1 _) ?_;unfold Builtin.«sorted»
 refine wpAny_bind (m:=checkCount "sorted" 1 1 _) (wpAny_pure ?_);refine wpAny_bind (ajt hh ho G (by unfold scanBound;omega) fun s1 acc ks hlt1 hk hg hos hI hp =>?_)
 have hlen:acc.length=es.size:=by rw[hI.length,hp.length_eq,List.length_map,Array.length_toList]
 refine wpAny_bind (wpAny_newList ?_);have hoL:(s1.heap.push (seqObj "list" acc.toArray 0)).get? s1.heap.objs.size=some (seqObj "list" acc.toArray 0):=Heap.get?_push_size _ rfl;show wpAny _ _ _ _ _ { s1 with heap:=s1.heap.push (seqObj "list" acc.toArray 0) }
 refine wpAny_bind (wpAny_holding (wpAny_call_entry slot_list_sort ⟨_,hoL,rfl⟩ entry_list_sort (list_sort_tree hoL hI (by omega) fun out ns' a1 a2 a3=>⟨_,rfl,?_⟩) (args_list_sort _)))
 obtain⟨m,hm⟩:=amf hoL acc out;refine wpAny_pure ⟨_,rfl,?_⟩;refine h _ s1.heap.objs.size out m ns' (Nat.le_of_lt hlt1) ?_ hg hos hm a1 (a2.trans hp) a3;intro b o e;exact ak6 (Heap.get?_push_of_some _ (hk b o e)) (Nat.ne_of_lt (Nat.lt_trans (Heap.lt_size e) hlt1))
end
end Stt
namespace Dn
open L2 Mn
def dedI:List Int->List Int
 | []=>[]
 | x::r=>if r.contains x then dedI r else x::dedI r
theorem yj:∀(l:List Int) (x:Int),x∈dedI l↔x∈l
 | [],x=>.rfl
 | y::r,x=>by
  unfold dedI;split
  ·rename_i h;rw[yj r x,List.mem_cons];exact⟨.inr,fun z=>z.elim (fun e=>e▸List.contains_iff_mem.mp h) id⟩
  ·rw[List.mem_cons,List.mem_cons,yj r x]
theorem tu:∀l:List Int,(dedI l).Nodup
 | []=>List.Pairwise.nil
 | y::r=>by
  unfold dedI;split
  ·exact tu r
  ·rename_i h;exact List.Pairwise.cons (fun z hz e=>h (List.contains_iff_mem.mpr (e▸(yj r z).mp hz))) (tu r)
theorem ym:∀l:List Int,(dedI l).length<=l.length
 | []=>Nat.le_refl _
 | y::r=>by
  unfold dedI;have:=ym r;split
  ·simp only[List.length_cons];omega
  ·simp only[List.length_cons];omega
theorem yg:∀{a b:List Int},a.Nodup->b.Nodup->(∀x,x∈a↔x∈b)->a.Perm b
 | [],b,_,_,h=>by
  cases b with
  | nil=>exact .refl _
  | cons y r=>exact absurd ((h y).mpr (List.mem_cons_self ..)) (List.not_mem_nil)
 | x::r,b,ha,hb,h=>by
  have hx:x∈b:=(h x).mp (List.mem_cons_self ..);have hp:=List.perm_cons_erase hx;refine(List.Perm.cons x (yg (List.Pairwise.of_cons ha) (hb.erase x) fun y =>?_)).trans hp.symm
  rw[hb.mem_erase_iff];have hxr:x∉r:=fun z=>(List.pairwise_cons.mp ha).1 x z rfl
  constructor
  ·intro hy;exact⟨fun e=>hxr (e▸hy),(h y).mp (List.mem_cons_of_mem _ hy)⟩
  ·rintro⟨hne,hy⟩
   exact(List.mem_cons.mp ((h y).mpr hy)).resolve_left hne
def setI(ns:List Int):List Int:=sortI (dedI ns)
section
variable{K:Fg9}{X:Cx}{e a b c:Expr}{es:List Expr}{pos p p2:Pos}
def SetH(w:World)(a:Addr)(ns:List Int):Heap->Prop:=fun h=>∃es ep t,h.get? a=some (Stt.setO es ep t)/\Stt.SetG w es t ns/\es.size<=ns.length
def ayw(w:World):List V->Hp->VK->Prop:=fun vs H Q=>∃p ns,vs=[.ref p]/\H p=some (.tup (ns.map V.int))/\ns.length < 4000/\∀a,H a=none->Q (.ref a) (upd H a (.ext (SetH w a ns)))
theorem akv(hc:X.calm=true):aau X (.type "set") (ayw X.w):=by
 intro jv s σ H xs us Q I r ⟨p,ns,hv,hp,hz,q⟩;subst hv;obtain⟨u,rfl,ru⟩:=vals1 r;cases ru;obtain⟨its,rv,pt,_⟩:=I.tuple (SqT.of hp);have hlen:=rv.length;rw[List.length_map] at hlen;refine Stt.au9 (I.ok.hd hc) pt (intsAre_of rv) (by rw[List.size_toArray];unfold scanBound;omega) fun h' tk es ep t ho g hsz hk =>?_
 have hn:H s.heap.objs.size=none:=I.hok.fresh (Nat.le_refl _);refine⟨.ref s.heap.objs.size,_,I.laid hk (Nat.le_refl _) ?_,rfl,q _ hn⟩;refine⟨⟨es,ep,t,ho,g,?_⟩,⟨_,ho⟩,fun h1 h2 ⟨es,ep,t,z,g,zz⟩ k=>⟨es,ep,t,k _ z,g,zz⟩⟩
 have hsz':es.size<=its.length:=by simpa using hsz
 omega
def rcSS(w:World):List V->Hp->VK->Prop:=fun vs H Q=>∃a ns,vs=[.ref a]/\H a=some (.ext (SetH w a ns))/\ns.length < 64/\∀b,H b=none->Q (.ref b) (upd H b (.lst ((setI ns).map V.int)))
theorem aul(hc:X.calm=true):aau X (.builtin "sorted") (rcSS X.w):=by
 intro jv s σ H xs us Q I r ⟨a,ns,hv,ha,hz,q⟩;subst hv;obtain⟨u,rfl,ru⟩:=vals1 r;cases ru;obtain⟨⟨es,ep,t,ho,g,hsz⟩,_⟩:=I.hok a _ ha;refine Stt.ak5 (I.ok.hd hc) ho g (by omega) fun s' b out m ns' hb hk hg hos hob hI hp hs =>?_
 have hn:H b=none:=I.hok.fresh hb;have e':ns'=setI ns:=adw (hp.trans (yg g.nd (tu ns) fun k=>by rw[g.mem k,yj])) hs
 subst e';obtain⟨h',g',d',tk',os'⟩:=s';subst hg;subst hos;have I1:Inv X jv σ (upd H b (.lst ((setI ns).map V.int))) { s with heap:=h',toks:=tk' }:=I.laid hk hb ⟨by
  rw[List.length_map];have h1:(setI ns).length=(dedI ns).length:=(sortI_perm _).length_eq;have h2:=ym ns;exact Nat.le_of_lt (ab2 (by omega)),out.toList,m,ux hI,by simpa using hob⟩
 exact⟨.ref b,_,⟨I1.ok,I1.os,I1.bare,I1.base,I1.loc,I1.cell,I1.free,I1.freeC,I1.pin,I1.hok,I1.len⟩,rfl,q b hn⟩
def gSet:D->Option Rv
 | .tup l=>(jd l).bind fun ns=>if ns.length < 64 then some (.fr ((setI ns).map D.int)) else none
 | _=>none
theorem adt{x y:Str}{m:M (List D)}{pp qq:Pos}{ppos:Pos}(hc:X.calm=true)(hg1:Gl X x)(hm1:X.mg x=none)(hv1:bootBuiltins x=some (.builtin "sorted"))(hg2:Gl X y)(hm2:X.mg y=none)(hv2:bootBuiltins y=some (.type "set"))
  (ha:EA K X [e] m) (hn1:x ≠ "__name__" := by decide) (hdb1:(x==("__debug__" : Str))=false:=by decide) (hn2:y ≠ "__name__" := by decide) (hdb2:(y==("__debug__" : Str))=false:=by decide)
  (he:starEach [e] X.env=[(false,eval e X.env)]:=by rfl) (he2:starEach [.Call (.Name y qq) [e] [] ppos] X.env=[(false,eval (.Call (.Name y qq) [e] [] ppos) X.env)]:=by rfl) :
  ER K X (.Call (.Name x pp) [.Call (.Name y qq) [e] [] ppos] [] pos) (fu (g1 gSet) m):=ER.mk fun hk=>PE.imp (adx (aul hc) hg1 hm1 hv1 (vq (aad (akv hc) hg2 hm2 hv2 (ha hk) hn2 hdb2 he rfl) aeg he2) hn1 hdb1 he2 rfl) fun σ H Q z9=>by
 obtain⟨tg,F,ρ,r,ρ',G,em,q⟩:=z9;obtain⟨ds,ρ1,e1,em⟩:=bh em;obtain⟨e2,rfl⟩:=jc em;refine⟨tg,F,ρ,ds,_,G,e1,fun vs H1 F1 G1 x1 bl =>?_⟩
 cases ds with
 | nil=>cases e2
 | cons d tl =>
  cases tl with
  | cons _ _=>cases e2
  | nil =>
   cases d with
   | tup l =>
    have e2:(jd l).bind (fun ns=>if ns.length < 64 then some (Rv.fr ((setI ns).map D.int)) else none)=some r:=e2
    cases ei:jd l with
    | none=>rw[ei] at e2;cases e2
    | some ns =>
     rw[ei] at e2;have e2:(if ns.length < 64 then some (Rv.fr ((setI ns).map D.int)) else none)=some r:=e2
     split at e2
     ·rename_i h64;cases e2;obtain⟨v,rfl,bv⟩:=bl.one;obtain⟨p,ws,rfl,ea,hl⟩:=bv.tup;rw[qj ei] at hl;rw[hl.int_inv] at ea;refine⟨p,ns,rfl,G1.sub _ _ ea,by omega,fun a hna =>?_⟩
      show rcSS X.w _ _ _;refine⟨a,ns,rfl,gb,h64,fun b hnb =>?_⟩
      have G2:=G1.fresh hna (.ext (SetH X.w a ns));have X2:=G1.freshX hna (.ext (SetH X.w a ns));exact Res.lst G2 (fun v H3 F3 G3 x3 rr=>q v H3 F3 G3 ((x1.trans X2).trans x3) (j4 (x1.trans X2) rr)) (aa0 _) hnb
     ·cases e2
   | _=>cases e2
@[simp] theorem ax4(l:List D):gSet (.tup l)=(jd l).bind fun ns=>if ns.length < 64 then some (.fr ((setI ns).map D.int)) else none:=rfl
end
theorem aaw{c:M Bool}{g:Sd}(Inv:Nat->Ro->Prop)(Done:Ro->Prop)(hs:∀k ρ,Inv k ρ->(∃ρ',c ρ=some (.ok false,ρ')/\Done ρ')∨∃ρ1 ρ2 k',c ρ=some (.ok true,ρ1)/\g ρ1=some (.nx,ρ2)/\k' < k/\Inv k' ρ2) :
  ∀(n k:Nat) (ρ:Ro),k < n->Inv k ρ->∃ρ',whileD c g n ρ=some (.nx,ρ')/\Done ρ'
 | 0,k,ρ,h,_=>absurd h (Nat.not_lt_zero _)
 | n+1,k,ρ,h,h0=>by
  unfold whileD;rcases hs k ρ h0 with⟨ρ',e,d⟩ | ⟨ρ1,ρ2,k',e1,e2,hk,h2⟩
  ·rw[e];exact⟨ρ',rfl,d⟩
  ·rw[e1];dsimp only;rw[e2];exact aaw Inv Done hs n k' ρ2 (by omega) h2
theorem ag1:100000 < fuel:=by unfold fuel;decide
theorem ag3(a b:Int):eqD (.int a) (.int b)=decide (a=b):=by
 show(a==b)=_
 by_cases h:a=b <;> simp[h]
theorem aus(ns:List Int)(a:Int):(ns.map D.int).any (fun y=>eqD y (.int a))=decide (a∈ns):=by
 induction ns with
 | nil=>simp
 | cons x r ih=>simp[ag3,List.mem_cons,ih,eq_comm]
theorem am3(n:Nat)(ns:List Int):(ns.map D.int).all (okD n)=true:=by
 induction ns with
 | nil=>rfl
 | cons x r ih=>simp[okD]
theorem aaj(neg:Bool)(a:Int)(ns:List Int):gIn neg (.int a) (.lst (ns.map D.int))=some (.v (.bl (if neg then !decide (a∈ns) else decide (a∈ns)))):=by
 have h:=am3 30 ns;have h2:=aus ns a;simp only[gIn,itemsD,h,h2];simp[okD]
theorem akq:∀(a b:List Int),eqDs (a.map D.int) (b.map D.int)=decide (a=b)
 | [],[]=>rfl
 | [],_::_=>rfl
 | _::_,[]=>rfl
 | x::r,y::t=>by
  show(eqD (.int x) (.int y)&&eqDs (r.map D.int) (t.map D.int))=_;rw[ag3,akq r t]
  by_cases h:x=y <;> simp[h]
def minI(ns:List Int):Int:=acl (fun i j=>decide (i < j)) ns
theorem aqv{ns:List Int}(h:ns≠[]):an2 (.lst (ns.map D.int))=some (.v (.int (minI ns))):=by
 show(jd (ns.map D.int)).bind _=_;rw[my];simp[h,minI]
theorem aqu{ns:List Int}(h:ns≠[]):an2 (.tup (ns.map D.int))=some (.v (.int (minI ns))):=by
 show(jd (ns.map D.int)).bind _=_;rw[my];simp[h,minI]
theorem aia{ns:List Int}(h:ns.length < 64):agz (.lst (ns.map D.int))=some (.fr ((sortI ns).map D.int)):=by
 show(jd (ns.map D.int)).bind _=_;rw[my];simp[h]
theorem aic{ns:List Int}(h:ns.length < 64):gSet (.tup (ns.map D.int))=some (.fr ((setI ns).map D.int)):=by
 show(jd (ns.map D.int)).bind _=_;rw[my];simp[h]
theorem akc(ns:List Int)(x:Int):x∈setI ns↔x∈ns:=by
 unfold setI;rw[(sortI_perm _).mem_iff,yj]
theorem aln(ns:List Int):(setI ns).Nodup:=by
 unfold setI;rw[(sortI_perm _).nodup_iff];exact tu ns
@[simp] theorem aw6(d:D):at7 [d]=(itemsD d).map afh:=rfl
@[simp] theorem aw2(a b:D):an0 [a,b]=(itemsD a).bind fun l1=>(itemsD b).bind fun l2=>if l1.length<=l2.length then some (ab1 l1 l2) else none:=rfl
theorem ad0{l1 l2:List D}(h:l1.length<=l2.length):(ab1 l1 l2).length=l1.length:=by unfold ab1;rw[List.length_zipWith];omega
theorem yw{ns:List Int}{k:Int}(h0:0<=k)(h1:k < (ns.length:Int)):atI (ns.map D.int) k=some (.int (ns.getD k.toNat 0)):=by
 have hk:k.toNat < ns.length:=by omega
 have q:atI (ns.map D.int) ((k.toNat:Nat):Int)=some (.int (ns.getD k.toNat 0)):=abz (by simp[List.getElem?_eq_getElem hk])
 rw[show((k.toNat:Nat):Int)=k by omega] at q
 exact q
theorem aro{n d:Nat}{k:Int}(h0:0<=k):HT.sIx n d (some k)=min k.toNat n:=by
 show(if k < 0 then (k+(n:Int)).toNat else min k.toNat n)=_
 rw[if_neg (by omega)]
theorem a0f{ns:List D}{k:Int}(h0:0<=k)(h1:k<=(ns.length:Int)):cutD ns none (some k)=ns.take k.toNat:=by
 unfold cutD;rw[aro h0];have:HT.sIx ns.length 0 none=0:=rfl;rw[this,Nat.min_eq_left (by omega),Nat.sub_zero,List.drop_zero]
theorem auh{ns:List D}{k:Int}(h0:0<=k)(h1:k<=(ns.length:Int)):cutD ns (some k) none=ns.drop k.toNat:=by
 unfold cutD;rw[aro h0];have:HT.sIx ns.length ns.length none=ns.length:=rfl;rw[this,Nat.min_eq_left (by omega)]
 exact List.take_of_length_le (by simp)
theorem g8{K:Fg9}{P:Program}{w:World}{mg:Str->Option Value}{base:Heap}{x qual:Str}{st:Stmt}{f:Addr}{fd:FuncData}{N ps:List Str}{k nl np:Nat}{g:Sd}(F:Fun K x qual st f fd)(S:FnScope N ps (au st))(h1:N.length=nl)(h2:ps.length=np)
  (body:∀(cdv:Value) (A:Around) (outer:List Env) (s:Shared) (H:Hp) (E:XK),Room k (A.deeper (envOfC qual (au st) s.heap.objs.size f cdv))->SVs K (cxOf CX0 P w K mg base N qual (au st) f cdv A outer s H E).nox (jj st) g) :
  FnOk P w K mg base CX0 (k+1) f fd ps (spOf K np (fnD nl np g)):=by
 subst h1 h2;exact az4 F S body
section
variable{K:Fg9}{X:Cx}{e:Expr}{pos:Pos}
def rcLS(w:World):List V->Hp->VK->Prop:=fun vs H Q=>∃a ns,vs=[.ref a]/\H a=some (.ext (SetH w a ns))/\ns.length < 64/\Q (.int ((dedI ns).length:Int)) H
theorem aum:aau X (.builtin "len") (rcLS X.w):=by
 intro jv s σ H xs us Q I r ⟨a,ns,hv,ha,hz,q⟩;subst hv;obtain⟨u,rfl,ru⟩:=vals1 r;cases ru;obtain⟨⟨es,ep,t,ho,g,hsz⟩,_⟩:=I.hok a _ ha;have hlen:es.size=(dedI ns).length:=by
  have:=(yg g.nd (tu ns) fun k=>by rw[g.mem k,yj]).length_eq
  simpa using this
 refine call_len_set ho ⟨rfl,rfl,rfl⟩ rfl g.fit (by omega) ?_
 rw[hlen];exact⟨.int _,H,I.tok _,⟨_,rfl⟩,q⟩
def gLS:D->Option Rv
 | .tup l=>(jd l).bind fun ns=>if ns.length < 64 then some (.v (.int ((dedI ns).length:Int))) else none
 | _=>none
theorem aoa{x y:Str}{m:M (List D)}{pp qq:Pos}{ppos:Pos}(hc:X.calm=true)(hg1:Gl X x)(hm1:X.mg x=none)(hv1:bootBuiltins x=some (.builtin "len"))(hg2:Gl X y)(hm2:X.mg y=none)(hv2:bootBuiltins y=some (.type "set"))
  (ha:EA K X [e] m) (hn1:x ≠ "__name__" := by decide) (hdb1:(x==("__debug__" : Str))=false:=by decide) (hn2:y ≠ "__name__" := by decide) (hdb2:(y==("__debug__" : Str))=false:=by decide)
  (he:starEach [e] X.env=[(false,eval e X.env)]:=by rfl) (he2:starEach [.Call (.Name y qq) [e] [] ppos] X.env=[(false,eval (.Call (.Name y qq) [e] [] ppos) X.env)]:=by rfl) :
  ER K X (.Call (.Name x pp) [.Call (.Name y qq) [e] [] ppos] [] pos) (fu (g1 gLS) m):=ER.mk fun hk=>PE.imp (adx aum hg1 hm1 hv1 (vq (aad (akv hc) hg2 hm2 hv2 (ha hk) hn2 hdb2 he rfl) aeg he2) hn1 hdb1 he2 rfl) fun σ H Q z9=>by
 obtain⟨tg,F,ρ,r,ρ',G,em,q⟩:=z9;obtain⟨ds,ρ1,e1,em⟩:=bh em;obtain⟨e2,rfl⟩:=jc em;refine⟨tg,F,ρ,ds,_,G,e1,fun vs H1 F1 G1 x1 bl =>?_⟩
 cases ds with
 | nil=>cases e2
 | cons d tl =>
  cases tl with
  | cons _ _=>cases e2
  | nil =>
   cases d with
   | tup l =>
    have e2:(jd l).bind (fun ns=>if ns.length < 64 then some (Rv.v (.int ((dedI ns).length:Int))) else none)=some r:=e2
    cases ei:jd l with
    | none=>rw[ei] at e2;cases e2
    | some ns =>
     rw[ei] at e2;have e2:(if ns.length < 64 then some (Rv.v (.int ((dedI ns).length:Int))) else none)=some r:=e2
     split at e2
     ·rename_i h64;cases e2;obtain⟨v,rfl,bv⟩:=bl.one;obtain⟨p,ws,rfl,ea,hl⟩:=bv.tup;rw[qj ei] at hl;rw[hl.int_inv] at ea;refine⟨p,ns,rfl,G1.sub _ _ ea,by omega,fun a hna =>?_⟩
      show rcLS X.w _ _ _;refine⟨a,ns,rfl,gb,h64,?_⟩;have G2:=G1.fresh hna (.ext (SetH X.w a ns));have X2:=G1.freshX hna (.ext (SetH X.w a ns));exact Res.same G2 (fun v H3 F3 G3 x3 rr=>q v H3 F3 G3 ((x1.trans X2).trans x3) (j4 (x1.trans X2) rr)) (.int _)
     ·cases e2
   | _=>cases e2
@[simp] theorem at5(l:List D):gLS (.tup l)=(jd l).bind fun ns=>if ns.length < 64 then some (.v (.int ((dedI ns).length:Int))) else none:=rfl
end
end Dn
namespace Mn
open L2
section
variable{X:Cx}
end
end Mn
namespace Dn
open L2 Mn
section
variable{K:Fg9}{X:Cx}
end
theorem mkSc{N P:List Str}{sc:Scope}(a:sc.kind=.function)(b:sc.isCoroutine=false)(c:sc.isGenerator=false)(e:N.take P.length=P)(d:N.Nodup/\(∀x∈P,sc.names.lookup x=some .local∨sc.names.lookup x=some .cell)/\∀y∈sc.names,y.2≠.free):FnScope N P sc:=⟨a,b,c,d.1,e,d.2.1,d.2.2⟩
end Dn
namespace Kst
open PySem PySem.W PyProof.Rows
structure Od (n:Nat) (c:Nat->Nat->Bool):Prop where
 tr:∀i j k,c i j=true->c j k=true->c i k=true
 to:∀i j,i < n->j < n->i≠j->c i j=false->c j i=true
def Asks(n:Nat)(c:Nat->Nat->Bool)(cmp:Nat->Nat->(Bool->Shared->Prop)->Shared->Prop)(s:Shared):Prop:=∀i j,i < n->j < n->∀C:Bool->Shared->Prop,C (c i j) s->cmp i j C s
structure Pm (n:Nat) (p:Array Nat):Prop where
 pm:p.toList.Perm (List.range n)
section
variable{n:Nat}{c:Nat->Nat->Bool}{cmp:Nat->Nat->(Bool->Shared->Prop)->Shared->Prop}{s:Shared}{p:Array Nat}
theorem Pm.size(h:Pm n p):p.size=n:=by have:=h.pm.length_eq;simpa using this
theorem Pm.get(h:Pm n p){k:Nat}(hk:k < n):p[k]? = some (p.getD k 0):=by
 have:=h.size;have h':k < p.size:=by omega
 simp[Array.getD,h']
theorem Pm.lt(h:Pm n p){k:Nat}(hk:k < n):p.getD k 0 < n:=by
 have e:=h.get hk;have m:p.getD k 0∈p.toList:=by
  rw[<-Array.getElem?_toList] at e;exact List.mem_of_getElem? e
 have:=h.pm.mem_iff.mp m
 simpa using this
theorem Pm.inj(h:Pm n p){i j:Nat}(hi:i < n)(hj:j < n)(e:p.getD i 0=p.getD j 0):i=j:=by
 have nd:p.toList.Nodup:=h.pm.nodup_iff.mpr List.nodup_range;have e1:=h.get hi;have e2:=h.get hj;rw[<-Array.getElem?_toList] at e1 e2;have s1:=h.size;exact(List.getElem?_inj (by simpa[s1] using hi) nd).mp (by rw[e1,e2,e])
def Srt(c:Nat->Nat->Bool)(p:Array Nat)(m:Nat):Prop:=∀i j,i < j->j < m->c (p.getD i 0) (p.getD j 0)=true
theorem arl(O:Od n c){m:Nat}(h:∀k,1<=k->k < m->c (p.getD (k - 1) 0) (p.getD k 0)=true):Srt c p m:=by
 intro i j hij hj
 induction j with
 | zero=>omega
 | succ j ih =>
  have a:=h (j+1) (by omega) hj
  rw[Nat.add_sub_cancel] at a
  by_cases e:i=j
  ·subst e;exact a
  ·exact O.tr _ _ _ (ih (by omega) (by omega)) a
theorem ao3(A:Asks n c cmp s)(hp:Pm n p){Q:Nat->Shared->Prop}:∀f a,1<=a->a+f<=n->(∀m,a<=m->m<=a+f->(∀k,a<=k->k < m->c (p.getD k 0) (p.getD (k - 1) 0)=false)->(m < a+f->c (p.getD m 0) (p.getD (m - 1) 0)=true)->Q m s)->(kas_asc p f a).kasWp cmp Q s
 | 0,a,_,_,h=>h a (Nat.le_refl _) (Nat.le_refl _) (fun k _ _=>by omega) (fun _=>by omega)
 | f+1,a,h1,h2,h=>A _ _ (hp.lt (by omega)) (hp.lt (by omega)) _ (by
   cases e:c (p.getD a 0) (p.getD (a - 1) 0) with
   | true =>
    dsimp only;rw[if_pos rfl];exact h a (Nat.le_refl _) (by omega) (fun k _ _=>by omega) fun _=>e
   | false =>
    dsimp only;rw[if_neg (by simp)]
    exact ao3 A hp f (a+1) (by omega) (by omega) fun m x1 x2 x3 x4=>h m (by omega) (by omega) (fun k k1 k2=>by
     by_cases q:k=a
     ·subst q;exact e
     ·exact x3 k (by omega) k2) fun q=>x4 (by omega))
theorem aof(A:Asks n c cmp s)(O:Od n c)(hp:Pm n p){Q:Array Nat×Nat×Nat->Shared->Prop}:∀f a,1<=a->a+f<=n->(∀k,1<=k->k < a->c (p.getD k 0) (p.getD (k - 1) 0)=true)->(∀m,a<=m->m<=a+f->(∀k,1<=k->k < m->c (p.getD k 0) (p.getD (k - 1) 0)=true)->Q (p,m,0) s)->(kas_desc f p a 0).kasWp cmp Q s
 | 0,a,_,_,hs,h=>h a (Nat.le_refl _) (Nat.le_refl _) hs
 | f+1,a,h1,h2,hs,h=>A _ _ (hp.lt (by omega)) (hp.lt (by omega)) _ (by
   cases e:c (p.getD a 0) (p.getD (a - 1) 0) with
   | true =>
    dsimp only;rw[if_pos rfl,if_neg (by omega)]
    exact aof A O hp f (a+1) (by omega) (by omega) (fun k k1 k2=>by
     by_cases q:k=a
     ·subst q;exact e
     ·exact hs k k1 (by omega)) fun m x1 x2 x3=>h m (by omega) (by omega) x3
   | false =>
    dsimp only;rw[if_neg (by simp)]
    refine A _ _ (hp.lt (by omega)) (hp.lt (by omega)) _ ?_
    rw[O.to _ _ (hp.lt (by omega)) (hp.lt (by omega)) (fun q=>by have:=hp.inj (by omega) (by omega) q;omega) e]
    dsimp only;rw[if_pos rfl];exact h a (Nat.le_refl _) (by omega) hs)
theorem arq(hp:Pm n p)(i j:Nat):Pm n (kas_rev p i j):=⟨(Array.perm_iff_toList_perm.mp (mirror_perm p i j _)).trans hp.pm⟩
theorem amq(hp:Pm n p){m:Nat}(hm:m<=n){k:Nat}(hk:k < m):(kas_rev p 0 m).getD k 0=p.getD (m - 1 - k) 0:=by
 have e:=getElem?_mirror_all (xs:=p) (i:=0) (j:=m) (by rw[hp.size];exact hm) k
 rw[if_pos ⟨Nat.zero_le _,hk⟩,hp.get (by omega)] at e
 have e2:=(arq hp 0 m).get (k:=k) (by omega)
 unfold kas_rev at e2 ⊢
 rw[e2] at e;have:=Option.some.inj e;rw[this]
 congr 1
 omega
theorem flip(O:Od n c)(hp:Pm n p){i j:Nat}(hi:i < n)(hj:j < n)(h:i≠j)(e:c (p.getD i 0) (p.getD j 0)=false):c (p.getD j 0) (p.getD i 0)=true :=
 O.to _ _ (hp.lt hi) (hp.lt hj) (fun q=>h (hp.inj hi hj q)) e
theorem asf(A:Asks n c cmp s)(O:Od n c)(hp:Pm n p){m:Nat}(h1:1<=m)(hm:m<=n)(hd:∀k,1<=k->k < m->c (p.getD k 0) (p.getD (k - 1) 0)=true){Q:Nat×Array Nat->Shared->Prop}
  (h:∀m' p',1<=m'->m'<=n->Pm n p'->Srt c p' m'->Q (m',p') s):(kas_tail3 m n p).kasWp cmp Q s:=by
 unfold kas_tail3;rw[KasT.kasWp_bind];have hr:=arq hp 0 m;refine ao3 A hr _ _ h1 (by omega) fun m' x1 x2 x3 _ =>?_
 refine h m' _ (by omega) (by omega) hr (arl O fun k k1 k2 =>?_)
 by_cases q:k < m
 ·rw[amq hp hm q,amq hp hm (k:=k - 1) (by omega)]
  have:=hd (m - 1 - (k - 1)) (by omega) (by omega)
  rwa[show m - 1 - (k - 1) - 1=m - 1 - k by omega] at this
 ·exact flip O hr (by omega) (by omega) (by omega) (x3 k (by omega) k2)
theorem aq5(A:Asks n c cmp s)(O:Od n c)(hp:Pm n p)(h2:2<=n){Q:Nat×Array Nat->Shared->Prop}
  (h:∀m' p',1<=m'->m'<=n->Pm n p'->Srt c p' m'->Q (m',p') s):(kas_count n p).kasWp cmp Q s:=by
 unfold kas_count;rw[KasT.kasWp_bind];refine ao3 A hp _ _ (Nat.le_refl _) (by omega) fun m x1 x2 x3 x4 =>?_
 have hs:Srt c p m:=arl O fun k k1 k2=>flip O hp (by omega) (by omega) (by omega) (x3 k k1 k2)
 by_cases q:m=n
 ·rw[if_pos (by simp[q])]
  exact h m p x1 (by omega) hp hs
 ·rw[if_neg (by simp[q])]
  by_cases q1:m > 1
  ·rw[if_pos q1];refine A _ _ (hp.lt (by omega)) (hp.lt (by omega)) _ ?_
   rw[hs 0 (m - 1) (by omega) (by omega)]
   dsimp only;rw[if_pos rfl];exact h m p x1 (by omega) hp hs
  ·rw[if_neg q1];have e1:m=1:=by omega
   subst e1;have y:=x4 (by omega)
   unfold kas_descPart;rw[KasT.kasWp_bind];refine aof A O hp _ _ (by omega) (by omega) (fun k k1 k2 =>?_) fun m y1 y2 y3 =>?_
   ·have:k=1:=by omega
    subst this;exact y
   ·dsimp only;rw[if_neg (by omega)]
    exact asf A O hp (by omega) (by omega) y3 h
theorem agi(A:Asks n c cmp s)(O:Od n c)(hp:Pm n p){k:Nat}(hk:k < n)(hs:Srt c p k){Q:Nat->Shared->Prop}:∀f l r,l<=r->r<=k->r - l<=f->(∀i,i < l->c (p.getD i 0) (p.getD k 0)=true)->(∀i,r<=i->i < k->c (p.getD k 0) (p.getD i 0)=true) ->
  (∀l',l'<=k->(∀i,i < l'->c (p.getD i 0) (p.getD k 0)=true)->(∀i,l'<=i->i < k->c (p.getD k 0) (p.getD i 0)=true)->Q l' s)->(kas_place p k f l r).kasWp cmp Q s
 | 0,l,r,h1,h2,h3,a,b,h=>h l (by omega) a fun i i1 i2=>b i (by omega) i2
 | f+1,l,r,h1,h2,h3,a,b,h=>by
  show KasT.kasWp cmp (if l≥r then .ret l else _) Q s
  by_cases q:l≥r
  ·rw[if_pos q];exact h l (by omega) a fun i i1 i2=>b i (by omega) i2
  ·rw[if_neg q];refine A _ _ (hp.lt hk) (hp.lt (by omega)) _ ?_
   cases e:c (p.getD k 0) (p.getD ((l+r) / 2) 0) with
   | true =>
    dsimp only;rw[if_pos rfl];refine agi A O hp hk hs f l ((l+r) / 2) (by omega) (by omega) (by omega) a (fun i i1 i2 =>?_) h
    by_cases z:i=(l+r) / 2
    ·subst z;exact e
    ·exact O.tr _ _ _ e (hs _ i (by omega) i2)
   | false =>
    dsimp only;rw[if_neg (by simp)]
    have e':=flip O hp hk (by omega) (by omega) e
    refine agi A O hp hk hs f ((l+r) / 2+1) r (by omega) h2 (by omega) (fun i i1 =>?_) b h
    by_cases z:i=(l+r) / 2
    ·subst z;exact e'
    ·exact O.tr _ _ _ (hs i ((l+r) / 2) (by omega) (by omega)) e'
theorem aot(hp:Pm n p){k l:Nat}(hk:k < n)(hl:l<=k){j:Nat}(hj:j < n):(bubble p k (k - l)).getD j 0=if j=l then p.getD k 0 else if l < j/\j<=k then p.getD (j - 1) 0 else p.getD j 0:=by
 have e:=getElem?_bubble (xs:=p) (src:=k) (by rw[hp.size];exact hk) (k - l) (by omega) j
 rw[show k - (k - l)=l by omega,hp.get hk,hp.get hj] at e
 have hb:Pm n (bubble p k (k - l)):=⟨(Array.perm_iff_toList_perm.mp (bubble_perm p k _)).trans hp.pm⟩;rw[hb.get hj] at e
 by_cases h1:j=l
 ·rw[if_pos h1] at e ⊢
  exact Option.some.inj e
 ·rw[if_neg h1] at e ⊢
  by_cases h2:l < j/\j<=k
  ·rw[if_pos h2,hp.get (by omega)] at e
   rw[if_pos h2];exact Option.some.inj e
  ·rw[if_neg h2] at e ⊢
   exact Option.some.inj e
theorem ar7(A:Asks n c cmp s)(O:Od n c){Q:Array Nat->Shared->Prop}(h:∀p',Pm n p'->Srt c p' n->Q p' s):∀f p k,k+f=n->Pm n p->Srt c p k->(kas_bin f p k).kasWp cmp Q s
 | 0,p,k,e,hp,hs=>h p hp (by rw[<-e];exact hs)
 | f+1,p,k,e,hp,hs=>by
  show KasT.kasWp cmp (KasT.bind _ _) Q s;rw[KasT.kasWp_bind];refine agi A O hp (by omega) hs k 0 k (by omega) (Nat.le_refl _) (by omega) (fun i hi=>by omega) (fun i i1 i2=>by omega) fun l hl a b =>?_
  refine ar7 A O h f _ (k+1) (by omega) ⟨(Array.perm_iff_toList_perm.mp (bubble_perm p k _)).trans hp.pm⟩ fun i j hij hj =>?_
  rw[aot hp (by omega) hl (by omega),aot hp (by omega) hl (by omega)]
  by_cases i1:i=l
  ·rw[if_pos i1,if_neg (by omega),if_pos (by omega)]
   exact b (j - 1) (by omega) (by omega)
  ·rw[if_neg i1]
   by_cases j1:j=l
   ·rw[if_pos j1,if_neg (by omega)]
    exact a i (by omega)
   ·rw[if_neg j1]
    by_cases i2:l < i
    ·rw[if_pos (by omega),if_pos (by omega)]
     exact hs _ _ (by omega) (by omega)
    ·rw[if_neg (by omega)]
     by_cases j2:l < j
     ·rw[if_pos (by omega)]
      by_cases z:i=j - 1
      ·omega
      ·exact hs _ _ (by omega) (by omega)
     ·rw[if_neg (by omega)]
      exact hs _ _ hij (by omega)
theorem asm(A:Asks n c cmp s)(O:Od n c)(h2:2<=n){Q:Array Nat->Shared->Prop}(h:∀p',Pm n p'->Srt c p' n->Q p' s):(kas_sort n).kasWp cmp Q s:=by
 unfold kas_sort;rw[KasT.kasWp_bind];refine aq5 A O ⟨by simp⟩ h2 fun m p m1 m2 hp hs =>?_
 dsimp only
 by_cases q:m < n
 ·rw[if_pos q];rw[show max m 1=m by omega]
  exact ar7 A O h _ _ _ (by omega) hp hs
 ·rw[if_neg q];exact h p hp (by rw[show n=m by omega];exact hs)
end
section
variable{prog:Program}{w:World}{A:Around}{E:Value->Shared->Prop}{s:Shared}
def ahn(vs:List Value)(p:Array Nat):Array Value:=(p.toList.map fun i=>vs.getD i Value.none).toArray
theorem ams(vs:List Value):((List.range vs.length).map fun i=>vs.getD i Value.none)=vs:=by
 apply List.ext_getElem?;intro i;rw[List.getElem?_map]
 by_cases h:i < vs.length
 ·rw[List.getElem?_range h];simp[h]
 ·rw[List.getElem?_eq_none (by simpa using h),List.getElem?_eq_none (by omega)]
  rfl
theorem ak7{a:Addr}{vs:List Value}{n:Nat}{P:PySem.Fin->Shared->Prop}{κ:SortKind}{c:Nat->Nat->Bool}(ho:s.heap.get? a=some (seqObj "list" vs.toArray n))(h64:vs.length < 64)(O:Od vs.length c)
  (hk:2<=vs.length->∀h':Heap,(∀b o,b≠a->s.heap.get? b=some o->h'.get? b=some o)->(∀Q:SortKind->Shared->Prop,Q κ { s with heap:=h' }->wpAny (model prog w) A (keyKind' vs.toArray) Q (fun _ _=>False) { s with heap:=h' })/\Asks vs.length c (kas_ask prog w A κ vs) { s with heap:=h' })
  (h:∀p,Pm vs.length p->Srt c p vs.length->P (.done (.ret .none)) { s with heap:=sortedHeap s.heap a vs (ahn vs p) }) :
  wpAny (model prog w) A (Builtin.«list.sort» ⟨[.ref a],[]⟩) P E s:=by
 have ha:a < s.heap.objs.size:=Heap.lt_size ho;obtain⟨e1,ho1⟩:∃e1,(s.heap.update a (Obj.mapSeq fun _=>(#[]:Array Value))).get? a=some (seqObj "list" #[] e1):=⟨_,get?_update_seq ho fun _ => #[]⟩
 have ho6:(((s.heap.update a (Obj.mapSeq fun _=>(#[]:Array Value))).push (seqObj "tuple" vs.toArray 0)).push (seqObj "list" #[] 0)).get? a=some (seqObj "list" #[] e1):=Heap.get?_push_of_some _ (Heap.get?_push_of_some _ ho1)
 have kp:∀b o,b≠a->s.heap.get? b=some o->(((s.heap.update a (Obj.mapSeq fun _=>(#[]:Array Value))).push (seqObj "tuple" vs.toArray 0)).push (seqObj "list" #[] 0)).get? b=some o:=fun b o hb e =>
  Heap.get?_push_of_some _ (Heap.get?_push_of_some _ (by rw[Heap.get?_update_ne _ _ _ _ hb];exact e))
 rw[list_sort_plain];refine wpAny_bind (listItems_at ho rfl ?_);refine wpAny_bind (listUpdate_at ho rfl ?_ (by rw[List.size_toArray,sizeLine_eq];omega) (Nat.zero_le _))
 refine wpAny_bind (seqEpoch_at ho1 rfl ?_);refine wpAny_bind (wpAny_newTuple ?_ (by show vs.length<=_;rw[sizeLine_eq];omega))
 refine wpAny_bind (wpAny_newList ?_ (Nat.zero_le _));refine wpAny_holding ?_;show wpAny (model prog w) A _ P E { s with heap:=((s.heap.update a (Obj.mapSeq fun _=>(#[]:Array Value))).push (seqObj "tuple" vs.toArray 0)).push (seqObj "list" #[] 0) }
 dsimp only
 by_cases h2:vs.length < 2
 ·rw[if_pos (by rw[List.size_toArray];exact h2),if_pos (by rw[List.size_toArray];exact h2)]
  refine wpAny_bind (wpAny_pure ?_);rw[StateT.run_pure];refine wpAny_bind (wpAny_pure ?_);dsimp only;refine wpAny_bind (seqEpoch_at ho6 rfl ?_);have e0:(vs.toArray.zip vs.toArray).map (·.2)=ahn vs (List.toArray (List.range vs.length)):=by
   unfold ahn;rw[show(List.toArray (List.range vs.length)).toList=List.range vs.length from rfl,ams]
   apply Array.toList_inj.mp;simp[List.map_snd_zip]
  have hz:((vs.toArray.zip vs.toArray).map (·.2)).size<=sizeLine:=by
   rw[Array.size_map,Array.size_zip,List.size_toArray,sizeLine_eq];omega
  refine wpAny_bind (listUpdate_at ho6 rfl ?_ (Nat.zero_le _) (Nat.le_succ_of_le hz));simp only[bne_self_eq_false,Bool.false_eq_true,if_false];have z:=h (List.toArray (List.range vs.length)) ⟨List.Perm.refl _⟩ (fun i j hij hj=>by omega)
  rw[<-e0] at z;exact wpAny_pure z
 ·have hn2:¬vs.toArray.size < 2:=by rw[List.size_toArray];exact h2
  rw[if_neg hn2,if_neg hn2];obtain⟨k1,k2⟩:=hk (by omega) _ kp
  refine wpAny_bind (wpAny_mono (k1 _ ?_) (fun κ' s' q=>q) fun _ _ x=>x.elim)
  refine wpAny_bind (wpAny_mono (kat_run (Q:=fun st' s'=>s'={ s with heap:=((s.heap.update a (Obj.mapSeq fun _=>(#[]:Array Value))).push (seqObj "tuple" vs.toArray 0)).push (seqObj "list" #[] 0) }/\∃p:Array Nat,Pm vs.length p/\Srt c p vs.length/\arrOf st'=p.map (kas_item (vs.toArray.zip vs.toArray))/\failedOf st'=none)
   (G:=fun p s'=>s'={ s with heap:=((s.heap.update a (Obj.mapSeq fun _=>(#[]:Array Value))).push (seqObj "tuple" vs.toArray 0)).push (seqObj "list" #[] 0) }/\Pm vs.length p/\Srt c p vs.length)
   rfl (by omega) h64 (fun p st' s' a1 a2 a3 a4=>⟨a4.1,p,a4.2.1,a4.2.2,a2,a3⟩) (asm k2 O (by omega) fun p hp hs=>⟨rfl,hp,hs⟩)) ?_ fun _ _ e=>e)
  intro r s' hr;obtain⟨u,st'⟩:=r;obtain⟨e,p,hp,hs,har,hf⟩:=hr;subst e;dsimp only at har hf ⊢
  have hout:(arrOf st').map (·.2)=ahn vs p:=kat_snds rfl har;rw[hout];have hz:(ahn vs p).size<=sizeLine:=by
   unfold ahn;rw[List.size_toArray,List.length_map,Array.length_toList,hp.size,sizeLine_eq];omega
  refine wpAny_bind (seqEpoch_at ho6 rfl ?_);refine wpAny_bind (listUpdate_at ho6 rfl ?_ (Nat.zero_le _) (Nat.le_succ_of_le hz));rw[hf];simp only[bne_self_eq_false,Bool.false_eq_true,if_false];exact wpAny_pure (h p hp hs)
theorem ahb{l:Addr}{vs:List Value}{Q:Value->Shared->Prop}{κ:SortKind}{c:Nat->Nat->Bool}(hl:s.heap.IsList l vs.toArray)(h64:vs.length < 64)(O:Od vs.length c)
  (hk:2<=vs.length->∀h':Heap,(∀b o,s.heap.get? b=some o->h'.get? b=some o)->(∀Q:SortKind->Shared->Prop,Q κ { s with heap:=h' }->wpAny (model prog w) A.in1.in1 (keyKind' vs.toArray) Q (fun _ _=>False) { s with heap:=h' })/\Asks vs.length c (kas_ask prog w A.in1.in1 κ vs) { s with heap:=h' })
  (h:∀p,Pm vs.length p->Srt c p vs.length->Q (.ref (s.heap.objs.size+1)) { s with heap:=sortedAll s.heap vs (ahn vs p) }) :
  wpAny (model prog w) A (call (.builtin "sorted") [.ref l]) Q E s:=by
 refine Calls.call_function_entry kind_sorted plain_sorted entry_sorted (args_sorted1 _) ?_;unfold Builtin.«sorted»
 refine wpAny_bind (m:=checkCount "sorted" 1 1 _) (wpAny_pure ?_);refine wpAny_bind (collect_list hl ?_ (by rw[sizeLine_eq];omega))
 refine wpAny_bind (wpAny_newList ?_ (by rw[sizeLine_eq];omega))
 have hsz:((s.heap.push (seqObj "list" #[] 0)).update s.heap.objs.size (Obj.mapSeq (· ++ vs.toArray))).objs.size=s.heap.objs.size+1:=by
  rw[Heap.size_update,size_push']
 have hoL:(((s.heap.push (seqObj "list" #[] 0)).update s.heap.objs.size (Obj.mapSeq (· ++ vs.toArray))).push (seqObj "list" vs.toArray 0)).get? (s.heap.objs.size+1)=some (seqObj "list" vs.toArray 0):=by
  rw[<-hsz];exact Heap.get?_push_size _ rfl
 have keep:∀b o,s.heap.get? b=some o->(((s.heap.push (seqObj "list" #[] 0)).update s.heap.objs.size (Obj.mapSeq (· ++ vs.toArray))).push (seqObj "list" vs.toArray 0)).get? b=some o:=fun b o q=>by
  have hlt:b < s.heap.objs.size:=Heap.lt_size q;rw[Heap.get?_push_ne _ _ _ (by rw[hsz];exact Nat.ne_of_lt (Nat.lt_succ_of_lt hlt)),Heap.get?_update_ne _ _ _ _ (Nat.ne_of_lt hlt),Heap.get?_push_ne _ _ _ (Nat.ne_of_lt hlt)]
  exact q
 show wpAny _ _ _ _ _ { s with heap:=((s.heap.push (seqObj "list" #[] 0)).update s.heap.objs.size (Obj.mapSeq (· ++ vs.toArray))).push (seqObj "list" vs.toArray 0) }
 rw[hsz];refine wpAny_bind (wpAny_holding (wpAny_call_entry slot_list_sort ⟨_,hoL,rfl⟩ entry_list_sort (ak7 (κ:=κ) hoL h64 O (fun h2 h' k'=>hk h2 h' fun b o e=>k' b o (fun q=>absurd (Heap.lt_size e) (by rw[q];exact Nat.not_lt.mpr (Nat.le_succ _))) (keep b o e)) fun p hp hs=>⟨_,rfl,?_⟩) (args_list_sort _)))
 exact wpAny_pure ⟨_,rfl,h p hp hs⟩
def lexB:List Int->List Int->Bool
 | [],[]=>false
 | [],_::_=>true
 | _::_,[]=>false
 | a::x,b::y=>if a=b then lexB x y else decide (a < b)
theorem ajd:∀x y z:List Int,lexB x y=true->lexB y z=true->lexB x z=true
 | [],[],_,h,_=>by simp[lexB] at h
 | [],_::_,[],_,h=>by simp[lexB] at h
 | [],_::_,_::_,_,_=>by simp[lexB]
 | _::_,[],_,h,_=>by simp[lexB] at h
 | _::_,_::_,[],_,h=>by simp[lexB] at h
 | a::x,b::y,c::z,h,k=>by
  unfold lexB at h k ⊢
  by_cases e1:a=b
  ·subst e1;rw[if_pos rfl] at h
   by_cases e2:a=c
   ·rw[if_pos e2] at k ⊢
    exact ajd x y z h k
   ·rw[if_neg e2] at k ⊢
    exact k
  ·rw[if_neg e1,decide_eq_true_eq] at h
   by_cases e2:b=c
   ·subst e2;rw[if_neg e1,decide_eq_true_eq];exact h
   ·rw[if_neg e2,decide_eq_true_eq] at k;rw[if_neg (by omega),decide_eq_true_eq]
    omega
theorem aje:∀x y:List Int,x≠y->lexB x y=false->lexB y x=true
 | [],[],h,_=>absurd rfl h
 | [],_::_,_,h=>by simp[lexB] at h
 | _::_,[],_,_=>by simp[lexB]
 | a::x,b::y,h,k=>by
  unfold lexB at k ⊢
  by_cases e:a=b
  ·subst e;rw[if_pos rfl] at k ⊢
   exact aje x y (fun q=>h (by rw[q])) k
  ·rw[if_neg e,decide_eq_false_iff_not] at k;rw[if_neg (fun q=>e q.symm),decide_eq_true_eq]
   omega
theorem anc:∀x y:List Int,lexB x y=true->lexB y x=false
 | [],[],h=>by simp[lexB] at h
 | [],_::_,_=>by simp[lexB]
 | _::_,[],h=>by simp[lexB] at h
 | a::x,b::y,h=>by
  unfold lexB at h ⊢
  by_cases e:a=b
  ·subst e;rw[if_pos rfl] at h ⊢
   exact anc x y h
  ·rw[if_neg e,decide_eq_true_eq] at h;rw[if_neg (fun q=>e q.symm),decide_eq_false_iff_not]
   omega
theorem arv{b:Bool}{Q:Bool->Shared->Prop}:∀{xs ys:List Value} {as bs:List Int} (i:Nat),IntsAre xs as->IntsAre ys bs->Q (lexB as bs) s->KatLex prog w A b (decide (as.length < bs.length)) Q (xs.zip ys) i s
 | [],[],_,_,i,.nil,.nil,h=>kat_nil h
 | [],_::_,_,_,i,.nil,.cons n t r,h=>kat_nil (by simpa[lexB] using h)
 | _::_,[],_,_,i,.cons n t r,.nil,h=>kat_nil (by simpa[lexB] using h)
 | _::_,_::_,_,_,i,.cons n t r,.cons m u r',h=>by
  rw[List.zip_cons_cons];refine kat_cons (wpAny_eqBool_int ?_);unfold lexB at h
  by_cases e:n=m
  ·rw[if_pos e] at h;rw[show(n==m)=true by simpa using e]
   refine kat_yes ?_;have:=arv (b:=b) (i+1) r r' h
   simpa using this
  ·rw[if_neg e] at h;rw[show(n==m)=false by simpa using e]
   refine kat_no ?_;cases b&&i==0 with
   | true=>exact oneLt_int h
   | false=>exact kat_one _ _ (lt_int h)
end
end Kst
namespace Dn
open PySem PySem.Spec PySem.W PyProof.Rows L2 Mn Kst
def rowT(r:List Int):D:=.tup (r.map D.int)
def agd:List D->Option (LL9)
 | []=>some []
 | .tup l::r=>(jd l).bind fun a=>(agd r).map (a :: ·)
 | _::_=>none
theorem ahk:∀rows:LL9,agd (rows.map rowT)=some rows
 | []=>rfl
 | r::rows=>by
  show(jd (r.map D.int)).bind _=_;rw[my,Option.bind_some,ahk rows];rfl
theorem aj1:∀{l:List D} {rows:LL9},agd l=some rows->l=rows.map rowT
 | [],_,h=>by cases h;rfl
 | .tup t::l,rows,h=>by
  have h:(jd t).bind (fun a=>(agd l).map (a :: ·))=some rows:=h
  cases e:jd t with
  | none=>rw[e] at h;cases h
  | some a =>
   rw[e,Option.bind_some] at h;cases e2:agd l with
   | none=>rw[e2] at h;cases h
   | some rs =>
    rw[e2] at h;cases h;rw[List.map_cons,<-aj1 e2,rowT,<-qj e]
def insL(x:List Int):LL9->LL9
 | []=>[x]
 | y::r=>if lexB x y then x::y::r else y::insL x r
def abf:LL9->LL9
 | []=>[]
 | x::r=>insL x (abf r)
theorem aeq(x:List Int):∀l,(insL x l).Perm (x::l)
 | []=>.refl _
 | y::r=>by
  unfold insL;split
  ·exact .refl _
  ·exact((aeq x r).cons y).trans (.swap x y r)
theorem wj:∀l,(abf l).Perm l
 | []=>.refl _
 | x::r=>(aeq x (abf r)).trans ((wj r).cons x)
abbrev LxS(l:LL9):Prop:=l.Pairwise fun a b=>lexB a b=true
theorem aep(x:List Int):∀{l},x∉l->LxS l->LxS (insL x l)
 | [],_,_=>by simp[insL,LxS]
 | y::r,hx,h=>by
  unfold insL;have h:=List.pairwise_cons.mp h;split
  ·rename_i hxy;refine List.pairwise_cons.mpr ⟨fun z hz =>?_,List.pairwise_cons.mpr h⟩
   rcases List.mem_cons.mp hz with rfl | hz
   ·exact hxy
   ·exact ajd _ _ _ hxy (h.1 z hz)
  ·rename_i hxy;refine List.pairwise_cons.mpr ⟨fun z hz =>?_,aep x (fun q=>hx (List.mem_cons_of_mem _ q)) h.2⟩
   rcases List.mem_cons.mp ((aeq x r).mem_iff.mp hz) with rfl | hz
   ·exact aje _ _ (fun q=>hx (by rw[q];exact List.mem_cons_self ..)) (by simpa using hxy)
   ·exact h.1 z hz
theorem ade:∀{l:LL9},l.Nodup->LxS (abf l)
 | [],_=>.nil
 | x::r,h=>by
  have h:=List.nodup_cons.mp h;exact aep x (fun q=>h.1 ((wj r).mem_iff.mp q)) (ade h.2)
theorem ana:∀{l k:LL9},l.Perm k->LxS l->LxS k->l=k
 | [],k,h,_,_=>h.nil_eq
 | x::r,[],h,_,_=>absurd h.length_eq (by simp)
 | x::r,y::t,h,hl,hk=>by
  have hl:=List.pairwise_cons.mp hl;have hk:=List.pairwise_cons.mp hk;have e:x=y:=by
   have h1:x∈y::t:=h.mem_iff.mp (List.mem_cons_self ..);have h2:y∈x::r:=h.mem_iff.mpr (List.mem_cons_self ..);rcases List.mem_cons.mp h1 with h1 | h1
   ·exact h1
   ·rcases List.mem_cons.mp h2 with h2 | h2
    ·exact h2.symm
    ·have a:=hk.1 x h1;have b:=hl.1 y h2;rw[anc _ _ a] at b;cases b
  subst e;rw[ana ((List.perm_cons x).mp h) hl.2 hk.2]
inductive TupsAre (h:Heap):List Value->LL9->Prop
 | nil:TupsAre h [] []
 | cons {a:Addr} {o:Obj} {xs:List Value} {n:Nat} {r:List Int} {us:List Value} {rs:LL9} (e:h.get? a=some o) (c:o.cls=.type "tuple") (d:o.data=.seq xs.toArray n) (i:IntsAre xs r) (t:TupsAre h us rs):TupsAre h (.ref a::us) (r::rs)
theorem TupsAre.len{h:Heap}:∀{us:List Value} {rs:LL9},TupsAre h us rs->us.length=rs.length
 | _,_,.nil=>rfl
 | _,_,.cons _ _ _ _ t=>by rw[List.length_cons,List.length_cons,t.len]
theorem TupsAre.mono{h h':Heap}(k:∀b o,h.get? b=some o->h'.get? b=some o):∀{us:List Value} {rs:LL9},TupsAre h us rs->TupsAre h' us rs
 | _,_,.nil=>.nil
 | _,_,.cons e c d i t=>.cons (k _ _ e) c d i (t.mono k)
theorem TupsAre.at{h:Heap}:∀{us:List Value} {rs:LL9},TupsAre h us rs->∀i,i < rs.length->∃a o xs n,us.getD i Value.none=.ref a/\h.get? a=some o/\o.data=.seq (List.toArray xs) n/\IntsAre xs (rs.getD i [])
 | _,_,.cons e c d i t,0,_=>⟨_,_,_,_,rfl,e,d,i⟩
 | _,_,.cons e c d i t,k+1,hk=>by
  obtain⟨a,o,xs,n,e1,e2,e3,e4⟩:=t.at k (by simpa using hk)
  exact⟨a,o,xs,n,by simpa using e1,e2,e3,by simpa using e4⟩
theorem TupsAre.kat{h:Heap}:∀{us:List Value} {rs:LL9},TupsAre h us rs->(∀r∈rs,r≠[])->∃fs:List Value,KatTups h us fs/\fs.length=rs.length/\∀f∈fs,∃i t,f=Value.int i t
 | _,_,.nil,_=>⟨[],.nil,rfl,fun _ h=>by cases h⟩
 | _,_,.cons (r:=r) e c d i t,hn=>by
  obtain⟨fs,k,l,z⟩:=t.kat fun r hr=>hn r (List.mem_cons_of_mem _ hr)
  cases i with
  | nil=>exact absurd rfl (hn _ (List.mem_cons_self ..))
  | cons m u q =>
   refine⟨.int m u::fs,KatTups.cons e c d (by simp) k,by simp[l],fun f hf =>?_⟩
   rcases List.mem_cons.mp hf with rfl | hf
   ·exact⟨m,u,rfl⟩
   ·exact z f hf
section
variable{K:Fg9}{X:Cx}
theorem afk{jv:List (Addr×Obj)}{σ:L2.St}{F H:Hp}{s:Shared}(I:Inv X jv σ H s)(g:Same F H):∀{rs:LL9} {vs:List V} {us:List Value},IsL X.K F (rs.map rowT) vs->Vals vs us->TupsAre s.heap us rs
 | [],_,_,h,r=>by cases h;cases r;exact .nil
 | a::rs,_,_,.cons h t,r=>by
  cases r with
  | cons r1 r2 =>
   have z:=afk I g t r2;have h:Is X.K F (.tup (a.map D.int)) _:=h;cases h with
   | tup e hl =>
    rw[hl.int_inv] at e;cases r1;obtain⟨its,rv,⟨o,e1,e2,n,e3⟩,_⟩:=I.tuple (SqT.of (g _ _ e));exact .cons e1 e2 e3 (intsAre_of rv) z
def an1:D->Option Rv
 | .lst l=>(agd l).bind fun rows=>if (decide (rows.length < 64)&&rows.all (fun r => !r.isEmpty)&&decide rows.Nodup)=true then some (.fr ((abf rows).map rowT)) else none
 | _=>none
theorem ajn{rows:LL9}(h:rows.length < 64)(hn:∀r∈rows,r≠[])(nd:rows.Nodup):an1 (.lst (rows.map rowT))=some (.fr ((abf rows).map rowT)):=by
 show(agd (rows.map rowT)).bind _=_;rw[ahk,Option.bind_some,if_pos];simp only[Bool.and_eq_true,decide_eq_true_eq,List.all_eq_true];exact⟨⟨h,fun r hr=>by cases r with
  | nil=>exact absurd rfl (hn _ hr)
  | cons=>rfl⟩,nd⟩
theorem agj{α:Type}(d:α){l:List α}{p:Array Nat}(hp:Pm l.length p):(p.toList.map fun i=>l.getD i d).Perm l:=by
 refine(hp.pm.map _).trans ?_;have e:((List.range l.length).map fun i=>l.getD i d)=l:=by
  apply List.ext_getElem?;intro i;rw[List.getElem?_map]
  by_cases h:i < l.length
  ·rw[List.getElem?_range h];simp[h]
  ·rw[List.getElem?_eq_none (by simpa using h),List.getElem?_eq_none (by omega)]
   rfl
 rw[e]
theorem asl{rows:LL9}{p:Array Nat}(hp:Pm rows.length p)(hs:Srt (fun i j=>lexB (rows.getD i []) (rows.getD j [])) p rows.length):LxS (p.toList.map fun i=>rows.getD i []):=by
 rw[LxS,List.pairwise_map,List.pairwise_iff_getElem];intro i j hi hj hij;have h:=hs i j hij (by rw[<-hp.size];simpa using hj)
 have e1:=hp.get (k:=i) (by rw[<-hp.size];simpa using hi)
 have e2:=hp.get (k:=j) (by rw[<-hp.size];simpa using hj)
 have f1:p.toList[i]=p.getD i 0:=by
  have hi':i < p.size:=by simpa using hi
  simp[Array.getD,hi']
 have f2:p.toList[j]=p.getD j 0:=by
  have hj':j < p.size:=by simpa using hj
  simp[Array.getD,hj']
 rw[f1,f2];exact h
theorem akj{F:Hp}{rows:LL9}{vs:List V}(h:IsL K F (rows.map rowT) vs):∀{p:List Nat},(∀i∈p,i < rows.length)->IsL K F ((p.map fun i=>rows.getD i []).map rowT) (p.map fun i=>vs.getD i .non)
 | [],_=>.nil
 | i::p,hp=>by
  have hi:=hp i (List.mem_cons_self ..);obtain⟨v,e,hv⟩:=h.get (i:=i) (d:=rowT (rows.getD i [])) (by simp[hi])
  have e':vs.getD i .non=v:=by simp[e]
  refine .cons ?_ (akj h fun j hj=>hp j (List.mem_cons_of_mem _ hj))
  dsimp only;rw[e'];exact hv
theorem ag7{vs:List V}{us:List Value}(h:Vals vs us):∀{p:List Nat},(∀i∈p,i < vs.length)->Vals (p.map fun i=>vs.getD i .non) (p.map fun i=>us.getD i Value.none)
 | [],_=>.nil
 | i::p,hp=>by
  have hi:=hp i (List.mem_cons_self ..);refine .cons ?_ (ag7 h fun j hj=>hp j (List.mem_cons_of_mem _ hj))
  have:∀{vs:List V} {us:List Value} {i:Nat},Vals vs us->i < vs.length->RelV (vs.getD i .non) (us.getD i Value.none):=by
   intro vs us i h
   induction h generalizing i with
   | nil=>intro h;simp at h
   | cons a b ih =>
    intro hi;cases i with
    | zero=>exact a
    | succ i=>simpa using ih (by simpa using hi)
  exact this h hi
theorem aq8:CallD K X (.builtin "sorted") (g1 an1):=zj fun hk jv s σ0 H x u Q tg F ρ σ d r I ru G bd eg q=>by
 subst hk;cases d with
 | lst l =>
  have eg:(agd l).bind (fun rows=>if (decide (rows.length < 64)&&rows.all (fun r => !r.isEmpty)&&decide rows.Nodup)=true then some (Rv.fr ((abf rows).map rowT)) else none)=some r:=eg
  cases e:agd l with
  | none=>rw[e] at eg;cases eg
  | some rows =>
   rw[e,Option.bind_some] at eg;split at eg
   ·rename_i hc;simp only[Bool.and_eq_true,decide_eq_true_eq,List.all_eq_true] at hc;obtain⟨⟨h64,hne⟩,nd⟩:=hc;have hne:∀r∈rows,r≠[]:=fun r hr q=>by have:=hne r hr;rw[q] at this;cases this
    cases eg;obtain⟨a,vs,rfl,ea,hl⟩:=bd.lst G.sub;rw[aj1 e] at hl;cases ru;obtain⟨its,rv,pl,_⟩:=I.list (SqL.of ea);have hlen:vs.length=its.length:=rv.length;have T:=afk I G.sub hl rv;have tl:=T.len;have O:Od its.length fun i j=>lexB (rows.getD i []) (rows.getD j []):=⟨fun i j k=>ajd _ _ _,fun i j hi hj hij=>aje _ _ fun q=>hij (by
     have hi':i < rows.length:=by omega
     have hj':j < rows.length:=by omega
     exact(List.getElem?_inj hi' nd).mp (by
      have e1:rows[i]? = some (rows.getD i []):=by simp[hi']
      have e2:rows[j]? = some (rows.getD j []):=by simp[hj']
      rw[e1,e2,q]))⟩
    refine ahb (κ:=tuples' (Value.type "int" != Value.type "tuple")) pl.isList (by omega) O (fun h2 h' k'=>⟨fun Q q =>?_,fun i j hi hj C hC =>?_⟩) fun p hp hs =>?_
    ·obtain⟨fs,kt,fl,fz⟩:=(T.mono k').kat hne;refine kat_kind kt (by omega) (fun v hv =>?_) (by decide) q
     obtain⟨i,t,rfl⟩:=fz v hv;exact Looks.of_pure rfl
    ·obtain⟨a1,o1,xs1,n1,f1,g1,d1,i1⟩:=(T.mono k').at i (by omega)
     obtain⟨a2,o2,xs2,n2,f2,g2,d2,i2⟩:=(T.mono k').at j (by omega)
     unfold kas_ask;rw[f1,f2];refine kat_lt g1 d1 g2 d2 ?_;have l1:xs1.toArray.size=(rows.getD i []).length:=i1.length;have l2:xs2.toArray.size=(rows.getD j []).length:=i2.length;rw[l1,l2];exact arv 0 i1 i2 hC
    ·have hp':Pm rows.length p:=tl▸hp;have hs':Srt (fun i j=>lexB (rows.getD i []) (rows.getD j [])) p rows.length:=tl▸hs
     have e':(p.toList.map fun i=>rows.getD i [])=abf rows:=ana ((agj [] hp').trans (wj rows).symm) (asl hp' hs') (ade nd)
     have hm:∀i∈p.toList,i < rows.length:=fun i hi=>by simpa using hp'.pm.mem_iff.mp hi
     obtain⟨ep,eo⟩:=PyProof.Rows.sortedAll_at s.heap its (ahn its p);have hn:H (s.heap.objs.size+1)=none:=I.hok.fresh (Nat.le_succ _);have il:=akj hl hm;rw[e'] at il;refine⟨.ref (s.heap.objs.size+1),upd H (s.heap.objs.size+1) (.lst (p.toList.map fun i=>vs.getD i .non)),?_,rfl,Res.lst G q il hn⟩
     refine I.laid (t':=s.toks) (fun b u e=>PyProof.Rows.sortedAll_old e) (Nat.le_succ _) ?_
     refine⟨?_,(p.toList.map fun i=>its.getD i Value.none),ep,ag7 rv fun i hi=>by have:=hm i hi;omega,eo⟩
     rw[List.length_map,Array.length_toList,hp'.size];exact Nat.le_of_lt (ab2 (by omega))
   ·cases eg
 | _=>cases eg
def aci(d:D):Option Rv:=match vf d with
 | some r=>some r
 | none=>an1 d
theorem aly:CallD K X (.builtin "sorted") (g1 aci):=zj fun hk jv s σ0 H x u Q tg F ρ σ d r I ru G bd eg q=>by
 unfold aci at eg;cases e:vf d with
 | some r' =>
  rw[e] at eg;cases eg;exact adc.go hk jv s σ0 H [x] [u] Q I (.cons ru .nil) ⟨tg,F,ρ,σ,[d],_,G,.cons bd .nil,e,q⟩
 | none =>
  rw[e] at eg;exact aq8.go hk jv s σ0 H [x] [u] Q I (.cons ru .nil) ⟨tg,F,ρ,σ,[d],_,G,.cons bd .nil,eg,q⟩
theorem agy{rows:LL9}(h:rows.length < 64)(hn:∀r∈rows,r≠[])(nd:rows.Nodup):aci (.lst (rows.map rowT))=some (.fr ((abf rows).map rowT)):=by
 cases rows with
 | nil=>rfl
 | cons r rows =>
  unfold aci;rw[show vf (.lst ((r::rows).map rowT))=none from rfl]
  exact ajn h hn nd
end
end Dn
end
namespace Dn
open PySem L2
@[simp] abbrev gL9(d:D):Option Rv:=(itemsD d).map fun l=>.v (.int l.length)
@[simp] abbrev gT9(d:D):Option Rv:=(itemsD d).map fun l=>.v (.tup l)
end Dn
namespace My
open PySem L2 Mn Dn
def afu:Sd :=
 (dRet (M.v (mAnd (mIsi .int (jb 0)) (mUn gNot (mIsi .bool (jb 0))))))
def xg:Fd:=fnD 1 1 afu
def xf:Sd :=
 (dRet (M.v (mAnd (M.d (mFn xg [some 0] (bz 0 di))) (ahz (fun i j=>decide (i<=j)) (fun i j=>decide (i<=j)) (mVar 1) (mVar 0) (mVar 2)))))
def ig:Fd:=fnD 3 3 xf
def qd:Sd :=
 (dRet (M.v (mAnd (mIsi .tuple (jb 0)) (ahz (fun i j=>decide (i<=j)) (fun i j=>decide (i<=j)) (mVar 1) (M.d (fu (g1 gL9) (gk 0 mNil))) (mVar 2)))))
def cu:Fd:=fnD 3 3 qd
def zc:Sd :=
 (dRet (mFn ig [none,none,none] (bc (mVar 1) (bc (ret (.int 0)) (bc (M.d (mOp (gInt fSub) (gj (M.d (fu (g1 gL9) (gk 0 mNil))) (ret (.int 1))))) di)))))
def gw:Fd:=fnD 2 2 zc
def qz:Sd :=
 (dIf (zm (uw (M.d (mFn gw [some 0,none] (bz 0 (bc (mVar 1) di)))))) (fun _=>none) dNx)
def dz:Fd:=fnD 2 2 qz
def uc:Sd :=
 (dIf (am9 (jy (gCmp fun i j=>decide (j<=i)) (bj 5 (ret (.int 0)))) (jy (gIn true) (bj 5 (jb 2)))) (adb (M.v (mMut 2 abw (aj (mVar 5) mNil)))) dNx)
def wg:M Bool :=
 (jy (gCmp fun i j=>decide (i < j)) (bj 3 (M.d (fu (g1 gL9) (gk 2 mNil)))))
def aax:Sd :=
 (dSeq (dSet 4 (mOp gIx (bj 0 (M.d (mOp gIx (bj 2 (jb 3))))))) (dSeq (dFor (u6 (mVar 4)) (du 5) uc) (dAug (fun i j=>i+j) 3 (ret (.int 1)))))
def ah9:Sd :=
 (dSeq (adb (mFn dz [some 0,none] (bz 0 (bc (mVar 1) di)))) (dSeq (dSet 2 (mLst (aj (mVar 1) mNil))) (dSeq (dSet 3 (M.v (ret (.int 0)))) (dSeq (whileD wg aax fuel) (dRet (fu (g1 gT9) (aj (M.d (fu (g1 vf) (gk 2 mNil))) mNil)))))))
def qm:Fd:=fnD 6 2 ah9
def aa4:M D :=
 (M.d (mOp (gCmp fun i j=>decide (j<=i)) (gj (M.d (fu (g1 an2) (gk 0 mNil))) (ret (.int 0)))))
def ah8:Sd :=
 (dRet (fu (g1 gAll) (aj (M.d (yl [none] (u6 (mVar 0)) (du 0) (ret true) aa4)) mNil)))
def aak:Fd:=fnD 1 1 ah8
def wz:Sd :=
 (dIf (zm (uw (M.d (mFn aak [none] (bc (mVar 0) di))))) (fun _=>none) dNx)
def jm:Fd:=fnD 1 1 wz
def aam:M D :=
 (M.d (mFn ig [some 0,none,none] (bz 0 (bc (ret (.int 0)) (bc (M.d (mOp (gInt fSub) (gj (M.d (fu (g1 gL9) (gk 1 mNil))) (ret (.int 1))))) di)))))
def aeu:Sd :=
 (dSeq (dIf (zm (uw (M.d (mFn cu [some 1,none,none] (bz 1 (bc (M.d (fu (g1 gL9) (gk 0 mNil))) (bc (M.d (fu (g1 gL9) (gk 0 mNil))) di))))))) (dRet (M.v (ret (.bl false)))) dNx) (dRet (fu (g1 gAll) (aj (M.d (yl [none,none] (mGet an0 (aj (mVar 1) (aj (mVar 0) mNil))) (bTup 2 (su (du 0) (su (du 1) bNil))) (ret true) aam)) mNil))))
def ul:Fd:=fnD 2 2 aeu
def vd:Sd :=
 (dIf (zm (uw (M.d (mFn ul [none,none] (bc (mVar 0) (bc (mVar 1) di)))))) (fun _=>none) dNx)
def je:Fd:=fnD 2 2 vd
def aal:M D :=
 (M.d (mOp gIx (bj 1 (M.d (mOp (gInt fSub) (bj 0 (ret (.int 1))))))))
def aes:Sd :=
 (dRet (fu (g1 gT9) (aj (M.d (yl [none,none] (mGet an0 (aj (mVar 1) (aj (mVar 0) mNil))) (bTup 2 (su (du 0) (su (du 1) bNil))) (ret true) aal)) mNil)))
def ug:Fd:=fnD 2 2 aes
def ada:M D :=
 (M.d (mFn gw [some 1,some 0] (bz 1 (bz 0 di))))
def aa3:M D :=
 (M.d (mOp (gEq false) (gj (M.d (mOp gIx (bj 3 (jb 1)))) (M.d (mOp gIx (bj 2 (M.d (mOp (gInt fMod) (gj (M.d (mOp gAdd (bj 0 (ret (.int 1))))) (M.d (fu (g1 gL9) (gk 2 mNil))))))))))))
def aai:Sd :=
 (dSeq (dIf (zm (uw (M.d (mFn cu [some 2,none,none] (bz 2 (bc (ret (.int 1)) (bc (M.d (fu (g1 gL9) (gk 0 mNil))) di))))))) (dRet (M.v (ret (.bl false)))) dNx) (dSeq (dIf (zm (uw (M.d (fu (g1 gAll) (aj (M.d (yl [none,some 0] (u6 (mVar 2)) (du 0) (ret true) ada)) mNil))))) (dRet (M.v (ret (.bl false)))) dNx) (dSeq (dIf (jy (gEq true) (gj (M.d (fu (g1 gLS) (gk 2 mNil))) (M.d (fu (g1 gL9) (gk 2 mNil))))) (dRet (M.v (ret (.bl false)))) dNx) (dRet (fu (g1 gAll) (aj (M.d (yl [none,none,some 2,some 1] (mGet at7 (aj (mVar 2) mNil)) (bTup 2 (su (du 0) (su (du 1) bNil))) (ret true) aa3)) mNil))))))
def mz:Fd:=fnD 3 3 aai
def w6:Sd :=
 (dSeq (adb (mFn je [none,none] (bc (mVar 0) (bc (mVar 1) di)))) (adb (mFn dz [some 0,none] (bz 0 (bc (mVar 2) di)))))
def jn:Fd:=fnD 3 3 w6
def nu:Sd :=
 (dSeq (adb (mFn jn [none,none,none] (bc (mVar 0) (bc (mVar 1) (bc (mVar 2) di))))) (adb (mFn jm [none] (bc (mVar 0) di))))
def fj:Fd:=fnD 3 3 nu
def aar:M Bool :=
 (jy (gIn true) (bj 1 (M.d (mFn qm [some 2,some 0] (bz 2 (bz 0 di))))))
def aan:M D :=
 (mVar 0)
def aev:Sd :=
 (dRet (yl [none,some 1,some 0] (u6 (M.d (mFn qm [some 0,none] (bz 0 (bc (mVar 1) di))))) (du 0) aar aan))
def um:Fd:=fnD 2 2 aev
def aet:Sd :=
 (dRet (M.v (mAnd (M.d (mFn gw [some 0,none] (bz 0 (bc (mVar 2) di)))) (M.d (mOp (gIn false) (bj 2 (M.d (mFn um [some 0,none] (bz 0 (bc (mVar 1) di))))))))))
def uh:Fd:=fnD 3 3 aet
def qe:Sd :=
 (dSeq (dIf (zm (uw (M.d (mFn mz [some 0,none,none] (bz 0 (bc (M.d (mFn ug [none,none] (bc (mVar 0) (bc (mVar 1) di)))) (bc (mVar 3) di))))))) (dRet (M.v (ret (.bl false)))) dNx) (dRet (M.v (mAnd (M.d (mOp (gIn true) (bj 2 (jb 3)))) (M.d (mOp (gIn false) (gj (M.d (mOp gIx (bj 3 (ret (.int 0))))) (M.d (mFn qm [some 0,none] (bz 0 (bc (mVar 2) di)))))))))))
def ik:Fd:=fnD 4 4 qe
def g_why_not_holds:Sd :=
 (dSeq (adb (mFn fj [none,none,none] (bc (mVar 0) (bc (mVar 1) (bc (mVar 2) di))))) (dSeq (dIf (zm (uw (M.d (mFn cu [some 3,none,none] (bz 3 (bc (ret (.int 2)) (bc (ret (.int 2)) di))))))) (dRet (M.v (ret (.bl false)))) dNx) (dSeq (dIf (jy (gEq false) (gj (M.d (mOp gIx (bj 3 (ret (.int 0))))) (ret (.str "gone")))) (dRet (mFn uh [some 0,none,none] (bz 0 (bc (mVar 2) (bc (M.d (mOp gIx (bj 3 (ret (.int 1))))) di))))) dNx) (dRet (M.v (mAnd (M.d (mOp (gEq false) (gj (M.d (mOp gIx (bj 3 (ret (.int 0))))) (ret (.str "ring"))))) (M.d (mFn ik [none,none,none,none] (bc (mVar 0) (bc (mVar 1) (bc (mVar 2) (bc (M.d (mOp gIx (bj 3 (ret (.int 1))))) di))))))))))))
def f_why_not_holds:Fd:=fnD 4 4 g_why_not_holds
def abu:Sd :=
 (dSeq (dIf (jy (gCmp fun i j=>decide (i < j)) (bj 1 (M.d (fu (g1 gL9) (gk 0 mNil))))) (dRet (mOp gIx (bj 0 (jb 1)))) dNx) (dRet (M.v (ret (.int 0)))))
def f__law_cell:Fd:=fnD 2 2 abu
def afv:Sd :=
 (dSeq (dSet 1 (fu (g2 (gInt fun i j=>some (if j > i then j else i))) (gk 0 (aj (M.d (mOp (gInt fSub) (gj (ret (.int 0)) (jb 0)))) mNil)))) (dRet (mLst (aj (mVar 1) (aj (M.d (fu (g1 aqx) (aj (M.d (mOp (gCmp fun i j=>decide (j<=i)) (bj 1 (M.d (mOp (gInt fPow) (gj (ret (.int 10)) (ret (.int 18)))))))) mNil))) mNil)))))
def f__law_pen:Fd:=fnD 2 1 afv
def abt:Sd :=
 (dSeq (dIf (jy (gEq false) (gj (M.d (mOp gIx (bj 0 (ret (.int 1))))) (ret (.int 1)))) (dSeq (dAsg (M.d (fu (g2 ag0) (aj (M.d (mOp gIx (bj 0 (ret (.int 0))))) (gk 1 mNil)))) (bTup 2 (su (du 2) (su (du 3) bNil)))) (dSeq (dSub 0 (ret (.int 0)) (mVar 2)) (dRet (am8 3)))) dNx) (dSeq (dSet 4 (mOp (gInt fMod) (gj (M.d (mOp gMul (gj (M.d (mOp gAdd (gj (M.d (mOp (gInt fMod) (gj (M.d (mOp gIx (bj 0 (ret (.int 0))))) (ret (.int 2147483647))))) (ret (.int 40503))))) (ret (.int 69621))))) (ret (.int 2147483629))))) (dSeq (dSet 4 (mOp (gInt fMod) (gj (M.d (mOp gAdd (gj (M.d (mOp gMul (bj 4 (jb 4)))) (ret (.int 7817))))) (ret (.int 2147483587))))) (dSeq (dSub 0 (ret (.int 0)) (M.d (mOp (gInt fMod) (gj (M.d (mOp gAdd (gj (M.d (mOp gMul (bj 4 (ret (.int 48271))))) (ret (.int 11))))) (ret (.int 2147483629)))))) (dRet (mOp (gInt fMod) (gj (M.d (mOp (gInt fDiv) (gj (M.d (mOp gIx (bj 0 (ret (.int 0))))) (ret (.int 32))))) (jb 1))))))))
def f__law_draw:Fd:=fnD 5 2 abt
def adm:Sd :=
 (dRet (M.v (mAnd (mIsi .int (jb 0)) (mUn gNot (mIsi .bool (jb 0))))))
def lr:Fd:=fnD 1 1 adm
def afw:Sd :=
 (dSeq (dSet 1 (mLst (aj (ret .non) (aj (ret (.bl true)) (aj (ret (.bl false)) (aj (mUn gNeg (ret (.int 1))) (aj (ret (.str "1")) (aj (ret (.str "")) (aj (mTup mNil) (aj (M.d (mLst mNil)) (aj (mTup (aj (ret (.int 0)) mNil)) (aj (M.d (mLst (aj (ret (.int 0)) mNil))) (aj (ret (.dct [(Sum.inr "a", .int 1)])) (aj (mTup (aj (ret (.int 0)) (aj (ret (.int 1)) mNil))) (aj (M.d (mOp (gInt fPow) (gj (ret (.int 10)) (ret (.int 30))))) (aj (mTup (aj (mTup (aj (ret (.int 0)) mNil)) mNil)) (aj (ret (.str "ab")) mNil))))))))))))))))) (dRet (mOp gIx (gj (M.d (mOp gAdd (bj 1 (M.d (mLst (aj (mTup (aj (mTup (aj (mUn gNeg (ret (.int 1))) mNil)) (aj (mTup (aj (ret (.int 0)) (aj (ret (.int 1)) mNil))) mNil))) mNil)))))) (M.d (mFn f__law_draw [some 0,none] (bz 0 (bc (ret (.int 16)) di))))))))
def f__law_odd:Fd:=fnD 2 1 afw
def ur:M Bool :=
 (jy (gIn true) (bj 0 (jb 1)))
def uq:M D :=
 (mVar 0)
def jz:M Bool :=
 (jy (gCmp fun i j=>decide (i < j)) (bj 3 (M.d (fu (g1 gL9) (gk 2 mNil)))))
def iu:Sd :=
 (dSeq (dIf (jy (gCmp fun i j=>decide (j<=i)) (gj (M.d (mOp gIx (bj 2 (jb 3)))) (ret (.int 0)))) (dSet 2 (mOp gAdd (bj 2 (M.d (yl [none,some 2] (u6 (M.d (fu (g1 gSet) (aj (M.d (mOp gIx (bj 0 (M.d (mOp gIx (bj 2 (jb 3))))))) mNil)))) (du 0) ur uq))))) dNx) (dSet 3 (mOp gAdd (bj 3 (ret (.int 1))))))
def abb:Sd :=
 (dSeq (dSet 2 (mLst (aj (mVar 1) mNil))) (dSeq (dSet 3 (M.v (ret (.int 0)))) (dSeq (whileD jz iu fuel) (dRet (am8 2)))))
def jt:Fd:=fnD 4 2 abb
def aao:M D :=
 (M.d (mFn f__law_draw [some 1,some 2] (bz 1 (bz 2 di))))
def l1__law_shut:Sd :=
 (dSeq (dSet 6 (mOp gAdd (gj (ret (.int 1)) (M.d (mFn f__law_draw [some 0,some 2] (bz 0 (bz 2 di))))))) (dSeq (dSet 7 (yl [none,some 0,some 3] (mGet yp (aj (mVar 6) mNil)) (du 0) (ret true) aao)) (dSeq (dIf (jy (gEq false) (gj (M.d (mFn f__law_draw [some 0,none] (bz 0 (bc (ret (.int 2)) di)))) (ret (.int 1)))) (dSub 7 (ret (.int 0)) (M.d (mOp (gInt fMod) (gj (M.d (mOp gAdd (bj 5 (ret (.int 1))))) (jb 3))))) dNx) (adb (M.v (mMut 4 abw (aj (M.d (fu (g1 gT9) (gk 7 mNil))) mNil)))))))
def aew:Sd :=
 (dSeq (dSet 3 (mOp gAdd (gj (ret (.int 1)) (M.d (mFn f__law_draw [some 0,some 1] (bz 0 (bz 1 di))))))) (dSeq (dSet 4 (mLst mNil)) (dSeq (dFor (mGet yp (aj (mVar 3) mNil)) (du 5) l1__law_shut) (dRet (fu (g1 gT9) (gk 4 mNil))))))
def f__law_shut:Fd:=fnD 8 3 aew
def vz:M D :=
 (M.d (mFn f__law_draw [some 1,none] (bz 1 (bc (M.d (fu (g1 gL9) (gk 0 mNil))) di))))
def ach:Sd :=
 (dRet (fu (g1 gT9) (aj (M.d (yl [none,some 0] (u6 (mVar 1)) (du 0) (ret true) vz)) mNil)))
def f__law_arrows:Fd:=fnD 2 2 ach
def aap:M D :=
 (M.d (mOp gIx (bj 0 (M.d (mOp (gInt fMod) (gj (M.d (mOp (gInt fSub) (bj 1 (ret (.int 1))))) (M.d (fu (g1 gL9) (gk 0 mNil)))))))))
def aex:Sd :=
 (dRet (yl [none,none] (mGet an0 (aj (mVar 0) (aj (mVar 1) mNil))) (bTup 2 (su (du 0) (su (du 1) bNil))) (ret true) aap))
def qg:Fd:=fnD 2 2 aex
def rz:M Bool :=
 (am9 (jy (gIn true) (gj (M.d (mOp gIx (bj 3 (M.d (mOp gIx (bj 6 (mUn gNeg (ret (.int 1))))))))) (jb 6))) (jy (gCmp fun i j=>decide (j<=i)) (gj (M.d (mOp gIx (bj 3 (M.d (mOp gIx (bj 6 (mUn gNeg (ret (.int 1))))))))) (ret (.int 0)))))
def xu:Sd :=
 (adb (M.v (mMut 6 abw (aj (M.d (mOp gIx (bj 3 (M.d (mOp gIx (bj 6 (mUn gNeg (ret (.int 1))))))))) mNil))))
def l1__law_rings:Sd :=
 (dSeq (dSet 6 (mLst (aj (mVar 5) mNil))) (dSeq (whileD rz xu fuel) (dIf (am9 (jy (gEq false) (gj (M.d (mOp gIx (bj 3 (M.d (mOp gIx (bj 6 (mUn gNeg (ret (.int 1))))))))) (jb 5))) (jy (gEq false) (gj (M.d (fu (g1 an2) (gk 6 mNil))) (jb 5)))) (adb (M.v (mMut 4 abw (aj (M.d (fu (g1 gT9) (gk 6 mNil))) mNil)))) dNx)))
def adn:Sd :=
 (dSeq (dSet 3 (mFn qg [none,none] (bc (mVar 0) (bc (mVar 1) di)))) (dSeq (dSet 4 (mLst mNil)) (dSeq (dFor (u6 (mVar 2)) (du 5) l1__law_rings) (dRet (fu (g1 aci) (gk 4 mNil))))))
def qp:Fd:=fnD 7 3 adn
def lg:M D :=
 (mAnd (M.d (mFn lr [some 0] (bz 0 di))) (mAnd (M.d (mOp (gIn false) (bj 0 (jb 1)))) (M.d (mOp (gEq true) (bj 0 (jb 2))))))
def yq:M D :=
 (M.d (mOp (gEq false) (gj (M.d (mOp gIx (bj 2 (M.d (mOp gIx (gj (M.d (mOp gIx (bj 1 (ret (.int 1))))) (M.d (mOp (gInt fSub) (bj 0 (ret (.int 1))))))))))) (M.d (mOp gIx (gj (M.d (mOp gIx (bj 1 (ret (.int 1))))) (jb 0)))))))
def gq:Sd :=
 (dSeq (dIf (mOrB (zm (uw (mIsi .tuple (jb 3)))) (mOrB (jy (gEq true) (gj (M.d (fu (g1 gL9) (gk 3 mNil))) (ret (.int 2)))) (zm (uw (mIsi .str (M.d (mOp gIx (bj 3 (ret (.int 0)))))))))) (dRet (M.v (ret (.bl false)))) dNx) (dSeq (dSet 4 (mFn jt [some 0,none] (bz 0 (bc (mVar 2) di)))) (dSeq (dIf (jy (gEq false) (gj (M.d (mOp gIx (bj 3 (ret (.int 0))))) (ret (.str "gone")))) (dRet (M.v (mAnd (M.d (mFn lr [none] (bc (M.d (mOp gIx (bj 3 (ret (.int 1))))) di))) (mAnd (M.d (mOp (gIn false) (gj (M.d (mOp gIx (bj 3 (ret (.int 1))))) (jb 4)))) (M.d (mOp (gIn true) (bj 2 (M.d (mFn jt [some 0,none] (bz 0 (bc (M.d (mOp gIx (bj 3 (ret (.int 1))))) di))))))))))) dNx) (dSeq (dIf (mOrB (jy (gEq true) (gj (M.d (mOp gIx (bj 3 (ret (.int 0))))) (ret (.str "ring")))) (mOrB (zm (uw (mIsi .tuple (M.d (mOp gIx (bj 3 (ret (.int 1)))))))) (jy (gEq false) (gj (M.d (mOp gIx (bj 3 (ret (.int 1))))) (mTup mNil))))) (dRet (M.v (ret (.bl false)))) dNx) (dSeq (dIf (zm (uw (M.d (fu (g1 gAll) (aj (M.d (yl [none,some 4,some 2] (u6 (M.d (mOp gIx (bj 3 (ret (.int 1)))))) (du 0) (ret true) lg)) mNil))))) (dRet (M.v (ret (.bl false)))) dNx) (dSeq (dSet 5 (mFn qg [none,none] (bc (mVar 0) (bc (mVar 1) di)))) (dSeq (dIf (jy (gEq true) (gj (M.d (fu (g1 gSet) (aj (M.d (mOp gIx (bj 3 (ret (.int 1))))) mNil))) (M.d (fu (g1 vf) (aj (M.d (mOp gIx (bj 3 (ret (.int 1))))) mNil))))) (dRet (M.v (ret (.bl false)))) dNx) (dRet (fu (g1 gAll) (aj (M.d (yl [none,some 3,some 5] (mGet yp (aj (M.d (fu (g1 gL9) (aj (M.d (mOp gIx (bj 3 (ret (.int 1))))) mNil))) mNil)) (du 0) (ret true) yq)) mNil))))))))))
def cg:Fd:=fnD 6 4 gq
def yr:M D :=
 (M.d (mFn f__law_draw [some 1,some 2] (bz 1 (bz 2 di))))
def adp:Sd :=
 (dSeq (dSet 3 (fu (g1 gL9) (gk 1 mNil))) (dSeq (dSet 4 (mFn qp [none,none,none] (bc (mVar 1) (bc (mVar 2) (bc (M.d (ac1 (aj (mVar 3) mNil))) di))))) (dSeq (dSet 5 (mOp gIx (bj 4 (M.d (mFn f__law_draw [some 0,none] (bz 0 (bc (M.d (fu (g1 gL9) (gk 4 mNil))) di))))))) (dSeq (dSet 6 (mFn f__law_draw [some 0,none] (bz 0 (bc (M.d (fu (g1 gL9) (gk 5 mNil))) di)))) (dSeq (dSet 7 (mLst (aj (mTup (aj (ret (.str "gone")) (aj (M.d (mFn f__law_draw [some 0,some 3] (bz 0 (bz 3 di)))) mNil))) (aj (mTup (aj (ret (.str "ring")) (aj (M.d (mOp gAdd (gj (M.d (ahy 5 (agu (mVar 6)) (ret none))) (M.d (ahy 5 (ret none) (agu (mVar 6))))))) mNil))) (aj (mTup (aj (ret (.str "ring")) (aj (mVar 5) mNil))) mNil))))) (dSeq (adb (M.v (mMut 7 abw (aj (mTup (aj (ret (.str "ring")) (aj (M.d (fu (g1 gT9) (aj (M.d (yl [none,some 0,some 3] (mGet yp (aj (M.d (mOp gAdd (gj (ret (.int 1)) (M.d (mFn f__law_draw [some 0,none] (bz 0 (bc (ret (.int 3)) di))))))) mNil)) (du 0) (ret true) yr)) mNil))) mNil))) mNil)))) (dRet (mOp gIx (bj 7 (M.d (mFn f__law_draw [some 0,none] (bz 0 (bc (ret (.int 4)) di)))))))))))))
def f__law_paper:Fd:=fnD 8 3 adp
def abv:Sd :=
 (dSeq (dAsg (mVar 2) (bTup 2 (su (du 3) (su (du 4) bNil)))) (dSeq (dSet 5 (mOp gIx (gj (M.d (mLst (aj (mUn gNeg (ret (.int 1))) (aj (M.d (fu (g1 gL9) (gk 1 mNil))) (aj (ret (.bl true)) (aj (ret .non) (aj (ret (.str "0")) (aj (M.d (mLst (aj (ret (.int 0)) mNil))) (aj (mTup (aj (ret (.int 0)) mNil)) (aj (ret (.bl false)) (aj (ret (.int 0)) (aj (mTup mNil) (aj (mTup (aj (mTup (aj (ret (.int 0)) mNil)) mNil)) mNil))))))))))))) (M.d (mFn f__law_draw [some 0,none] (bz 0 (bc (ret (.int 11)) di))))))) (dSeq (dSet 6 (mLst (aj (mTup (aj (ret (.str "rings")) (aj (mVar 4) mNil))) (aj (mTup (aj (mVar 3) (aj (mVar 5) mNil))) (aj (M.d (mLst (aj (mVar 3) (aj (mVar 4) mNil)))) (aj (mTup (aj (mVar 3) mNil)) (aj (mTup (aj (mVar 3) (aj (mVar 4) (aj (ret (.int 0)) mNil)))) (aj (mTup (aj (mVar 4) (aj (mVar 3) mNil))) (aj (mVar 4) (aj (mTup (aj (ret (.str "gone")) (aj (mVar 4) mNil))) mNil)))))))))) (dSeq (dSet 6 (mOp gAdd (bj 6 (M.d (mLst (aj (mTup (aj (ret (.str "ring")) (aj (mVar 4) mNil))) (aj (mTup (aj (mVar 3) (aj (mTup (aj (mVar 4) mNil)) mNil))) (aj (mTup (aj (mVar 3) (aj (M.d (mLst (aj (mVar 4) mNil))) mNil))) mNil)))))))) (dSeq (dIf (uw (mIsi .tuple (jb 4))) (dSeq (dSet 6 (mOp gAdd (bj 6 (M.d (mLst (aj (mTup (aj (mVar 3) (aj (M.d (fu (g1 fun d=>(itemsD d).map fun l=>.fr l) (gk 4 mNil))) mNil))) (aj (mTup (aj (mVar 3) (aj (M.d (mOp gAdd (bj 4 (M.d (ahy 4 (ret none) (agu (ret (.int 1)))))))) mNil))) (aj (mTup (aj (mVar 3) (aj (M.d (atr (mVar 4) (mUn gNeg (ret (.int 1))))) mNil))) (aj (mTup (aj (mVar 3) (aj (M.d (ahy 4 (agu (ret (.int 1))) (ret none))) mNil))) mNil))))))))) (dSet 6 (mOp gAdd (bj 6 (M.d (mLst (aj (mTup (aj (mVar 3) (aj (M.d (mOp gAdd (bj 4 (mTup (aj (mVar 5) mNil))))) mNil))) (aj (mTup (aj (mVar 3) (aj (M.d (mOp gAdd (gj (mTup (aj (mVar 5) mNil)) (M.d (ahy 4 (agu (ret (.int 1))) (ret none)))))) mNil))) mNil)))))))) dNx) (dRet (mOp gIx (bj 6 (M.d (mFn f__law_draw [some 0,none] (bz 0 (bc (M.d (fu (g1 gL9) (gk 6 mNil))) di))))))))))))
def f__law_bent:Fd:=fnD 7 3 abv
def ado:Sd :=
 (dSeq (dSet 4 (fu (g1 gRepr) (gk 3 mNil))) (dSeq (dSet 5 (mFn f_why_not_holds [none,none,none,some 3] (bc (mVar 0) (bc (mVar 1) (bc (mVar 2) (bz 3 di)))))) (dSeq (dIf (mOrB (zm (uw (mIsi .bool (jb 5)))) (jy (gEq true) (bj 5 (M.d (mFn cg [none,none,none,some 3] (bc (mVar 0) (bc (mVar 1) (bc (mVar 2) (bz 3 di))))))))) (dRet (M.v (ret (.bl false)))) dNx) (dRet (M.v (mAnd (M.d (mOp (gEq false) (gj (M.d (mFn f_why_not_holds [none,none,none,some 3] (bc (mVar 0) (bc (mVar 1) (bc (mVar 2) (bz 3 di)))))) (jb 5)))) (M.d (mOp (gEq false) (gj (M.d (fu (g1 gRepr) (gk 3 mNil))) (jb 4))))))))))
def jf:Fd:=fnD 6 4 ado
def akg:Sd :=
 (dIf (mOrB (zm (uw (M.d (mFn jf [none,none,none,some 1] (bc (mTup (aj (mTup (aj (ret (.int 0)) (aj (ret (.int 1)) mNil))) (aj (mTup (aj (ret (.int 1)) mNil)) mNil))) (bc (mTup (aj (ret (.int 0)) (aj (ret (.int 0)) mNil))) (bc (ret (.int 0)) (bz 1 di)))))))) (zm (uw (M.d (mFn jf [none,none,none,some 1] (bc (mTup (aj (mTup (aj (ret (.int 0)) mNil)) mNil)) (bc (mTup (aj (ret (.int 0)) mNil)) (bc (ret (.int 0)) (bz 1 di))))))))) (dRet (M.v (ret (.bl false)))) dNx)
def anh:Sd :=
 (dIf (zm (uw (M.d (mFn jf [none,none,none,some 8] (bc (mVar 4) (bc (mVar 5) (bc (mVar 6) (bz 8 di)))))))) (dRet (M.v (ret (.bl false)))) dNx)
def l3_law:Sd :=
 (dSeq (dSet 1 (mFn f__law_paper [some 3,none,none] (bz 3 (bc (mVar 4) (bc (mVar 5) di))))) (dFor (u6 (M.d (mLst (aj (mVar 1) (aj (M.d (mFn f__law_bent [some 3,some 4,none] (bz 3 (bz 4 (bc (mVar 1) di))))) (aj (M.d (mFn f__law_odd [some 3] (bz 3 di))) mNil)))))) (du 8) anh))
def l4_law:Sd :=
 (dSeq (dSet 3 (mFn f__law_pen [some 2] (bz 2 di))) (dSeq (dSet 4 (mFn f__law_shut [some 3,none,none] (bz 3 (bc (M.d (mOp gIx (gj (M.d (mLst (aj (ret (.int 3)) (aj (ret (.int 5)) (aj (ret (.int 7)) mNil))))) (M.d (mFn f__law_draw [some 3,none] (bz 3 (bc (ret (.int 3)) di))))))) (bc (ret (.int 3)) di))))) (dSeq (dSet 5 (mFn f__law_arrows [some 3,none] (bz 3 (bc (mVar 4) di)))) (dSeq (dSet 6 (mFn f__law_draw [some 3,none] (bz 3 (bc (M.d (fu (g1 gL9) (gk 4 mNil))) di)))) (dFor (mGet yp (aj (ret (.int 4)) mNil)) (du 7) l3_law)))))
def aw1:Sd :=
 (dSeq (dFor (u6 (M.d (mLst (aj (mTup (aj (ret (.str "gone")) (aj (ret (.int 1)) mNil))) (aj (mTup (aj (ret (.str "gone")) (aj (ret (.int 0)) mNil))) (aj (mTup (aj (ret (.str "ring")) (aj (mTup (aj (ret (.int 1)) mNil)) mNil))) (aj (mTup (aj (ret (.str "ring")) (aj (mTup (aj (ret (.int 0)) mNil)) mNil))) (aj (mTup (aj (ret (.str "ring")) (aj (mTup mNil) mNil))) (aj (ret .non) mNil))))))))) (du 1) akg) (dSeq (dFor (u6 (M.d (mOp gAdd (gj (M.d (mLst (aj (M.d (mFn f__law_cell [some 0,none] (bz 0 (bc (ret (.int 0)) di)))) mNil))) (M.d (ahy 0 (agu (ret (.int 1))) (agu (ret (.int 4))))))))) (du 2) l4_law) (dRet (M.v (ret (.bl true))))))
def an6:Fd:=fnD 9 1 aw1
def nq:D->Bool
 | .int _=>true
 | _=>false
def ir(a b:Int):D->Bool
 | .int i=>decide (a<=i)&&decide (i<=b)
 | _=>false
@[simp] theorem aty(d:D):xg [.val d]=some (.ok (.v (.bl (nq d))),[.val d]):=by
 cases d <;> simp[xg,afu,isTy,nq]
@[simp] theorem aki(d:D)(a b:Int):ig [.val d,.val (.int a),.val (.int b)]=some (.ok (.v (.bl (ir a b d))),[.val d,.val (.int a),.val (.int b)]):=by
 cases d <;> simp[ig,xf,nq,ir]
theorem aoj(ns:List Int)(k:Int)(h:0<=k):∃n,f__law_cell [.val (.kst (ns.map D.int)),.val (.int k)]=some (.ok (.v (.int n)),[.val (.kst (ns.map D.int)),.val (.int k)]):=by
 by_cases hk:k < (ns.length:Int)
 ·have e:atI (ns.map D.int) k=some (.int (ns[k.toNat]'(by omega))):=by
   have h2:atI (ns.map D.int) ((k.toNat:Nat):Int)=some (.int (ns[k.toNat]'(by omega))):=abz (by simp[List.getElem?_map,List.getElem?_eq_getElem (show k.toNat < ns.length by omega)])
   rw[show((k.toNat:Nat):Int)=k by omega] at h2
   exact h2
  exact⟨ns[k.toNat]'(by omega),by simp[f__law_cell,abu,hk,e]⟩
 ·exact⟨0,by simp[f__law_cell,abu,hk]⟩
def pen(P:Int×Int):List D:=[.int P.1,.int P.2]
theorem apx(n:Int):∃P,f__law_pen [.val (.int n)]=some (.ok (.fr (pen P)),[.val (.int n)]):=by
 refine⟨(if 0 - n > n then 0 - n else n,if 10 ^ 18<=(if 0 - n > n then 0 - n else n) then 1 else 0),?_⟩
 simp[f__law_pen,afv,pen,fPow]
theorem gm(P:Int×Int)(m:Int)(h0:0 < m)(h1:m < 1000000000000000000000000000000000000000000000000000000000000):∃r P',f__law_draw [.own (some 0) (pen P),.val (.int m)]=some (.ok (.v (.int r)),[.own (some 0) (pen P'),.val (.int m)])/\0<=r/\r < m:=by
 obtain⟨a,b⟩:=P
 by_cases hb:b=1
 ·refine⟨a % m,(a / m,b),?_,Int.emod_nonneg _ (by omega),Int.emod_lt_of_pos _ h0⟩
  simp[f__law_draw,abt,pen,hb,h0,h1,atI,ixN]
 ·have z0:0<=(a % 2147483647+40503)*69621 % 2147483629:=Int.emod_nonneg _ (by decide)
  have z1:(a % 2147483647+40503)*69621 % 2147483629 < 2147483629:=Int.emod_lt_of_pos _ (by decide)
  generalize hz:(a % 2147483647+40503)*69621 % 2147483629=z at z0 z1;have hm:fMul z z=some (z*z):=by
   unfold fMul;rw[if_pos (.inl ⟨by omega,by omega⟩)]
  refine⟨((z*z+7817) % 2147483587*48271+11) % 2147483629 / 32 % m,(((z*z+7817) % 2147483587*48271+11) % 2147483629,b),?_,Int.emod_nonneg _ (by omega),Int.emod_lt_of_pos _ h0⟩
  have h69:∀x:Int,fMul x 69621=some (x*69621):=fun x=>by unfold fMul;rw[if_pos (.inr (by decide))]
  have h48:∀x:Int,fMul x 48271=some (x*48271):=fun x=>by unfold fMul;rw[if_pos (.inr (by decide))]
  simp[f__law_draw,abt,pen,hb,h0,h1,atI,ixN,h69,h48,hm,fMod,fDiv,hz]
structure HouseOk (m w:Int) (qv:LL9):Prop where
 one:1<=qv.length
 most:(qv.length:Int)<=m
 room:∀r∈qv,1<=r.length/\(r.length:Int)<=w/\∀x∈r,0<=x/\x < (qv.length:Int)
def hDs(qv:LL9):List D:=qv.map fun r=>D.tup (r.map D.int)
def hD(qv:LL9):D:=.tup (hDs qv)
theorem ami(P:Int×Int)(m w:Int)(w1:1<=w)(w2:w<=6){n:Int}(n1:1<=n)(n2:n<=10)(i:Nat)(hi:(i:Int) < n)(qv:LL9)(hl:qv.length<=10)(o1 o2:Sl):∃ns P' q1 q2,l1__law_shut [.own (some 0) (pen P),.val (.int m),.val (.int w),.val (.int n),.own none (hDs qv),.val (.int (i:Int)),o1,o2]=some (.nx,[.own (some 0) (pen P'),.val (.int m),.val (.int w),.val (.int n),.own none (hDs (qv++[ns])),.val (.int (i:Int)),q1,q2])
  /\ 1<=ns.length/\(ns.length:Int)<=w/\∀x∈ns,0<=x/\x < n:=by
 obtain⟨r5,P5,e5,r5a,r5b⟩:=gm P w (by omega) (by omega)
 have comp:=qu (b:=du 0) (mc:=ret true) (me:=aao) (fun j ys ρ=>∃ns P o,ρ=[o,.own (some 1) (pen P),.val (.int n)]/\ys=ns.map D.int/\ns.length=j/\∀x∈ns,0<=x/\x < n)
  (l:=jx 0 (1+r5).toNat) (ys:=[]) (ρ:=[.emp,.own (some 1) (pen P5),.val (.int n)]) 0 ⟨[],P5,.emp,rfl,rfl,rfl,by simp⟩ ?_
 ·obtain⟨ys,ρ',e6,ns,P6,o,rfl,rfl,hn,hx⟩:=comp;have hn:ns.length=(1+r5).toNat:=by simpa[jx] using hn
  have hb:(1+r5).natAbs < 4611686018427387904:=by omega
  have hc1:ns.length<=capS:=dj (by omega)
  have hc2:(hDs qv).length < capS:=by simp[hDs,capS];omega
  obtain⟨r7,P7,e7,r7a,r7b⟩:=gm P6 2 (by decide) (by decide)
  have hm:fMod ((i:Int)+1) n=some (((i:Int)+1) % n):=by
   unfold fMod;rw[if_pos (by omega)]
  cases ns with
  | nil=>simp at hn;omega
  | cons x r =>
   have hc1:r.length+1<=capS:=by simpa using hc1
   by_cases q:r7=1
   ·refine⟨((i:Int)+1) % n::r,P7,.val (.int (1+r5)),.own none ((((i:Int)+1) % n::r).map D.int),?_,by simp,by simp at hn ⊢;omega,fun y hy =>?_⟩
    ·have e8:ixN (r.length+1) 0=some 0:=by simp[ixN]
     simp[l1__law_shut,e5,hb,e6,hc1,e7,q,hm,hc2,e8];simp[hDs]
    ·rcases List.mem_cons.mp hy with rfl | hy
     ·exact⟨Int.emod_nonneg _ (by omega),Int.emod_lt_of_pos _ (by omega)⟩
     ·exact hx y (List.mem_cons_of_mem _ hy)
   ·refine⟨x::r,P7,.val (.int (1+r5)),.own none ((x::r).map D.int),?_,by simp,by simp at hn ⊢;omega,hx⟩
    simp[l1__law_shut,e5,hb,e6,hc1,e7,q,hc2];simp[hDs]
 ·rintro j d ys ρ hd ⟨ns,P6,o,rfl,rfl,hn,hx⟩
  obtain⟨r7,P7,e7,r7a,r7b⟩:=gm P6 n (by omega) (by omega)
  refine⟨_,_,true,rfl,rfl,.inr ⟨rfl,.int r7,_,by simp[aao,e7];rfl,ns++[r7],P7,_,rfl,by simp,by simp[hn],fun x h =>?_⟩⟩
  rcases List.mem_append.mp h with h | h
  ·exact hx x h
  ·obtain rfl:x=r7:=by simpa using h
   omega
theorem amj(P:Int×Int)(m w:Int)(m1:1<=m)(m2:m<=10)(w1:1<=w)(w2:w<=6):∃qv P',f__law_shut [.own (some 0) (pen P),.val (.int m),.val (.int w)]=some (.ok (.v (hD qv)),[.own (some 0) (pen P'),.val (.int m),.val (.int w)])/\HouseOk m w qv:=by
 obtain⟨r1,P1,e1,r1a,r1b⟩:=gm P m (by omega) (by omega)
 have loop:=akm (b:=du 5) (g:=l1__law_shut) (fun i ρ=>∃qv P o o1 o2,ρ=[.own (some 0) (pen P),.val (.int m),.val (.int w),.val (.int (1+r1)),.own none (hDs qv),o,o1,o2]/\qv.length=i/\∀r∈qv,1<=r.length/\(r.length:Int)<=w/\∀x∈r,0<=x/\x < 1+r1)
  (l:=jx 0 (1+r1).toNat) (ρ:=[.own (some 0) (pen P1),.val (.int m),.val (.int w),.val (.int (1+r1)),.own none [],.emp,.emp,.emp]) 0 ⟨[],P1,.emp,.emp,.emp,rfl,rfl,by simp⟩ ?_
 ·obtain⟨ρ',e3,qv,P3,o,o1,o2,rfl,hl,hr⟩:=loop;have hl:qv.length=(1+r1).toNat:=by simpa[jx] using hl
  refine⟨qv,P3,?_,by omega,by omega,fun r h =>?_⟩
  ·have hb:(1+r1).natAbs < 4611686018427387904:=by omega
   simp[f__law_shut,aew,e1,hb,e3,hD]
  ·obtain⟨a,b,c⟩:=hr r h;exact⟨a,b,fun x hx=>by have:=c x hx;omega⟩
 ·rintro i d ρ hd ⟨qv,P4,o,o1,o2,rfl,hl,hr⟩
  have hi:i < (1+r1).toNat:=by
   have:=(List.getElem?_eq_some_iff.mp hd).1
   simpa[jx] using this
  have ed:d=.int (i:Int):=by
   unfold jx at hd;rw[List.getElem?_map,List.getElem?_range hi] at hd;have:=Option.some.inj hd
   simpa using this.symm
  subst ed;obtain⟨ns,P5,q1,q2,e,z1,z2,z3⟩:=ami P4 m w w1 w2 (n:=1+r1) (by omega) (by omega) i (by omega) qv (by omega) o1 o2
  refine⟨_,_,rfl,.inl e,qv++[ns],P5,_,_,_,rfl,by simp[hl],fun r h =>?_⟩
  rcases List.mem_append.mp h with h | h
  ·exact hr r h
  ·obtain rfl:r=ns:=by simpa using h
   exact⟨z1,z2,z3⟩
structure Hs (qv:LL9):Prop where
 one:1<=qv.length
 most:qv.length<=10
 room:∀r∈qv,1<=r.length/\r.length<=6/\∀x∈r,-3<=x/\x < (qv.length:Int)
def dr(qv:LL9)(x:Int):List Int:=qv.getD x.toNat []
inductive Rch (qv:LL9) (a:Int):Int->Prop
 | base:Rch qv a a
 | step {x d:Int}:Rch qv a x->0<=x->d∈dr qv x->Rch qv a d
theorem ao1{qv:LL9}{x:Int}(h0:0<=x)(h1:x < (qv.length:Int)):atI (hDs qv) x=some (.tup ((dr qv x).map D.int)):=by
 have hk:x.toNat < qv.length:=by omega
 have q:atI (hDs qv) ((x.toNat:Nat):Int)=some (.tup ((dr qv x).map D.int)):=abz (by simp[hDs,dr,List.getElem?_eq_getElem hk])
 rw[show((x.toNat:Nat):Int)=x by omega] at q
 exact q
theorem Hs.dr{qv:LL9}(h:Hs qv){x:Int}(h0:0<=x)(h1:x < (qv.length:Int)):1<=(dr qv x).length/\(My.dr qv x).length<=6/\∀y∈My.dr qv x,-3<=y/\y < (qv.length:Int):=by
 have hk:x.toNat < qv.length:=by omega
 have e:My.dr qv x=qv[x.toNat]:=by simp[My.dr,hk]
 rw[e];exact h.room _ (List.getElem_mem hk)
theorem Rch.range{qv:LL9}(h:Hs qv){a x:Int}(ha:0<=a/\a < (qv.length:Int))(r:Rch qv a x) : -3<=x/\x < (qv.length:Int):=by
 induction r with
 | base=>omega
 | step r h0 hd ih=>exact(h.dr h0 ih.2).2.2 _ hd
theorem aei:∀(m:Nat) (l:List Int),l.Nodup->(∀x∈l,-3<=x/\x < (m:Int) - 3)->l.length<=m
 | 0,l,_,h=>by
  cases l with
  | nil=>simp
  | cons x r=>have:=h x (List.mem_cons_self ..);omega
 | m+1,l,hn,h=>by
  have h1:(l.erase ((m:Int) - 3)).length<=m:=aei m _ (hn.erase _) fun x hx=>by
   rw[hn.mem_erase_iff] at hx;have:=h x hx.2;have:=hx.1;omega
  have h2:l.length<=(l.erase ((m:Int) - 3)).length+1:=by
   rw[List.length_erase];split <;> omega
  omega
theorem amr{qv:LL9}(h:Hs qv){a:Int}(ha:0<=a/\a < (qv.length:Int)){ns:List Int}(hn:ns.Nodup)(hr:∀x∈ns,Rch qv a x):ns.length<=13:=by
 have:=aei (qv.length+3) ns hn fun x hx=>by have:=Rch.range h ha (hr x hx);omega
 have:=h.most;omega
theorem alc{qv:LL9}{a:Int}{ns:List Int}(h0:a∈ns)(hc:∀x∈ns,0<=x->∀d∈dr qv x,d∈ns){x:Int}(r:Rch qv a x):x∈ns:=by
 induction r with
 | base=>exact h0
 | step r h0 hd ih=>exact hc _ ih h0 _ hd
theorem ai3{qv:LL9}{a:Int}{ns:List Int}(h0:a∈ns)(hc:∀x∈ns,∀d∈dr qv x,0<=d->d∈ns){x:Int}(r:Rch qv a x)(hx:0<=x):x∈ns:=by
 induction r with
 | base=>exact h0
 | step r h0 hd ih=>exact hc _ (ih h0) _ hd hx
theorem ar8{ns:List Int}{i:Nat}(h:i < ns.length):atI (ns.map D.int) (i:Int)=some (.int ns[i]):=abz (by simp[List.getElem?_eq_getElem h])
def axo(qv:LL9)(S:Sl):Prop:=S=.val (hD qv)∨S=.own (some 0) (hDs qv)
theorem ahl{qv:LL9}(h:Hs qv){S:Sl}(hS:axo qv S){a:Int}{ns:List Int}{i:Nat}(hi:i < ns.length)(hz:ns.length<=13)(hx:ns[i] < (qv.length:Int)) :
  iu [S,.val (.int a),.own none (ns.map D.int),.val (.int (i:Nat))]=some (.nx,[S,.val (.int a),.own none ((if 0<=ns[i] then ns++(setI (dr qv ns[i])).filter (fun d => !decide (d∈ns)) else ns).map D.int),.val (.int ((i:Nat)+1))]):=by
 have ei:=ar8 hi
 by_cases h0:0<=ns[i]
 ·obtain⟨k1,k2,k3⟩:=h.dr h0 hx;have er:=ao1 h0 hx;have es:=aic (ns:=dr qv ns[i]) (by omega)
  have ef:compD (du 0) ur uq ((setI (dr qv ns[i])).map D.int) [] [.emp,.own (some 1) (ns.map D.int)]=some (.ok (((setI (dr qv ns[i])).filter (fun d => !decide (d∈ns))).map D.int),acf .emp ((setI (dr qv ns[i])).map D.int)::[.own (some 1) (ns.map D.int)]):=by
   rw[vh (p:=fun d=>match d with | .int k => !decide (k∈ns) | _=>false) (f:=id)]
   ·simp[List.filter_map,Function.comp_def]
   ·intro d hd;obtain⟨k,_,rfl⟩:=List.mem_map.mp hd;simp[ur,aaj]
   ·intro d hd _;simp[uq]
  have hlen:(setI (dr qv ns[i])).length<=6:=by
   unfold setI;rw[(sortI_perm _).length_eq];exact Nat.le_trans (ym _) k2
  have hc1:((setI (dr qv ns[i])).filter (fun d => !decide (d∈ns))).length<=6:=Nat.le_trans (List.length_filter_le _ _) hlen
  have hc2:ns.length+((setI (dr qv ns[i])).filter (fun d => !decide (d∈ns))).length<=capS:=dj (by omega)
  have hc3:((setI (dr qv ns[i])).filter (fun d => !decide (d∈ns))).length<=capS:=dj (by omega)
  rcases hS with rfl | rfl
  ·simp[iu,hD,ei,h0,er,es,ef,hc1,hc2,hc3]
  ·simp[iu,ei,h0,er,es,ef,hc1,hc2,hc3]
 ·simp[iu,ei,h0]
def Sh(qv:LL9):Prop:=∀r∈qv,∀x∈r,0<=x
theorem HouseOk.hs{m w:Int}{qv:LL9}(h:HouseOk m w qv)(hm:m<=10)(hw:w<=6):Hs qv :=
 ⟨h.one,by have:=h.most;omega,fun r hr=>by obtain⟨a,b,c⟩:=h.room r hr;exact⟨a,by omega,fun x hx=>by have:=c x hx;omega⟩⟩
theorem HouseOk.sh{m w:Int}{qv:LL9}(h:HouseOk m w qv):Sh qv:=fun r hr x hx=>((h.room r hr).2.2 x hx).1
theorem uz{qv:LL9}(h:Hs qv){S:Sl}(hS:axo qv S){a:Int}(ha:0<=a/\a < (qv.length:Int)) :
  ∃ns:List Int,jt [S,.val (.int a)]=some (.ok (.fr (ns.map D.int)),[S,.val (.int a)])/\ns≠[]/\ns.length<=13/\ns.Nodup/\∀x,x∈ns↔Rch qv a x:=by
 have loop:=aaw (c:=jz) (g:=iu)
  (fun k ρ=>∃(ns:List Int) (i:Nat),ρ=[S,.val (.int a),.own none (ns.map D.int),.val (.int (i:Nat))]/\k=20 - i/\i<=ns.length/\ns.Nodup/\a∈ns/\(∀x∈ns,Rch qv a x)/\∀j (hj:j < ns.length),j < i->0<=ns[j]->∀d∈dr qv ns[j],d∈ns)
  (fun ρ=>∃(ns:List Int) (o:Sl),ρ=[S,.val (.int a),.own none (ns.map D.int),o]/\ns≠[]/\ns.length<=13/\ns.Nodup/\∀x,x∈ns↔Rch qv a x) ?_ fuel 20 [S,.val (.int a),.own none ([a].map D.int),.val (.int ((0:Nat):Int))] (Nat.lt_trans (by decide) ag1)
  ⟨[a],0,rfl,rfl,by simp,by simp,by simp,by simp;exact .base,fun j hj hlt=>absurd hlt (Nat.not_lt_zero _)⟩
 ·obtain⟨ρ',e,ns,o,rfl,hne,hz,hnd,hm⟩:=loop;have e:whileD jz iu fuel [S,.val (.int a),.own none [.int a],.val (.int 0)]=some (.nx,[S,.val (.int a),.own none (ns.map D.int),o]):=e;refine⟨ns,?_,hne,hz,hnd,hm⟩;rcases hS with rfl | rfl <;> simp[jt,abb,e]
 ·rintro k ρ ⟨ns,i,rfl,rfl,hi,hn,h0,hr,hc⟩
  have hz:=amr h ha hn hr
  by_cases hlt:i < ns.length
  ·refine .inr ⟨[S,.val (.int a),.own none (ns.map D.int),.val (.int (i:Nat))],_,20 - (i+1),?_,ahl h hS hlt hz (Rch.range h ha (hr _ (List.getElem_mem hlt))).2,by omega,?_⟩
   ·have:(i:Int) < (ns.length:Int):=by omega
    rcases hS with rfl | rfl <;> simp[jz,this]
   ·by_cases hp:0<=ns[i]
    ·rw[if_pos hp];refine⟨_,i+1,rfl,rfl,by simp;omega,?_,List.mem_append_left _ h0,?_,?_⟩
     ·rw[List.nodup_append];refine⟨hn,List.Pairwise.sublist List.filter_sublist (aln _),fun x hx y hy e =>?_⟩
      have:=(List.mem_filter.mp hy).2;subst e;simp[hx] at this
     ·intro x hx;rcases List.mem_append.mp hx with hx | hx
      ·exact hr x hx
      ·exact .step (hr _ (List.getElem_mem hlt)) hp ((akc _ _).mp (List.mem_filter.mp hx).1)
     ·intro j hj hji hjp d hd;have hjl:j < ns.length:=by omega
      rw[List.getElem_append_left hjl] at hjp hd;rcases Nat.lt_or_ge j i with z | z
      ·exact List.mem_append_left _ (hc j hjl z hjp d hd)
      ·have:j=i:=by omega
       subst this
       by_cases hdn:d∈ns
       ·exact List.mem_append_left _ hdn
       ·exact List.mem_append_right _ (List.mem_filter.mpr ⟨(akc _ _).mpr hd,by simp[hdn]⟩)
    ·rw[if_neg hp];refine⟨_,i+1,rfl,rfl,hlt,hn,h0,hr,?_⟩;intro j hj hji hjp d hd;rcases Nat.lt_or_ge j i with z | z
     ·exact hc j hj z hjp d hd
     ·have:j=i:=by omega
      subst this;exact absurd hjp hp
  ·refine .inl ⟨[S,.val (.int a),.own none (ns.map D.int),.val (.int (i:Nat))],?_,ns,_,rfl,List.ne_nil_of_mem h0,hz,hn,fun x=>⟨hr x,alc h0 fun y hy hp d hd =>?_⟩⟩
   ·have:¬(i:Int) < (ns.length:Int):=by omega
    rcases hS with rfl | rfl <;> simp[jz,this]
   ·obtain⟨j,hj,rfl⟩:=List.mem_iff_getElem.mp hy;exact hc j hj (by omega) hp d hd
@[simp] theorem arw(d:D):lr [.val d]=some (.ok (.v (.bl (nq d))),[.val d]):=by
 cases d <;> simp[lr,adm,isTy,nq]
open Classical in
noncomputable def caught(qv:LL9)(a:Int):Bool:=decide (∀x,Rch qv a x->0<=x)
theorem af2(qv:LL9)(a:Int):caught qv a=true↔∀x,Rch qv a x->0<=x:=by
 unfold caught;exact @decide_eq_true_iff _ (Classical.propDecidable _)
def upto(n:Nat):List Int:=(List.range n).map fun i=>((i:Nat):Int)
theorem ai4(n:Nat):jx 0 n=(upto n).map D.int:=by
 unfold jx upto;rw[List.map_map];apply List.map_congr_left;intro i _;simp
theorem agt{n:Nat}{x:Int}(h:x∈upto n):0<=x/\x < (n:Int):=by
 obtain⟨i,hi,rfl⟩:=List.mem_map.mp h;have:=List.mem_range.mp hi;omega
noncomputable def ag9(qv:LL9):List Int:=(upto qv.length).filter (caught qv)
theorem aix{qv:LL9}(h:Hs qv):(qv.length:Int).natAbs < 4611686018427387904:=by have:=h.most;omega
theorem aqb{src:List (Option Nat)}{mi:M (List D)}{b:D->Ro->Option Ro}{mc:M Bool}{me:M D}{ρ ρ1 ps:Ro}{l ys:List D}(e:mi ρ=some (.ok l,ρ1))(hj:okJs ρ1 src=true)(ec:compD b mc me l [] (lend ρ1 src (src.map fun _=>none))=some (.ok ys,ps))(hc:ys.length<=capS) :
  yl src mi b mc me ρ=some (.ok (.fr ys),putB ρ1 src ps):=by
 rw[aqc,aun,e];dsimp only;rw[if_pos hj,ec];dsimp only;rw[if_pos hc]
theorem vy(qv:LL9):(hDs qv).length=qv.length:=by simp[hDs]
theorem agx{qv:LL9}{i:Nat}{d:D}(h:(hDs qv)[i]? = some d):∃r,qv[i]? = some r/\d=.tup (r.map D.int):=by
 unfold hDs at h;rw[List.getElem?_map] at h;obtain⟨r,e,rfl⟩:=Option.map_eq_some_iff.mp h;exact⟨r,e,rfl⟩
structure Arr (qv:LL9) (as:List Int):Prop where
 len:as.length=qv.length
 ok:∀(i:Nat) (a:Int) (r:List Int),as[i]? = some a->qv[i]? = some r->0<=a/\a < (r.length:Int)
def ar(as:List Int)(x:Int):Int:=as.getD x.toNat 0
theorem Arr.at{qv:LL9}{as:List Int}(h:Arr qv as){x:Int}(h0:0<=x)(h1:x < (qv.length:Int)):0<=ar as x/\ar as x < ((dr qv x).length:Int):=by
 have hk:x.toNat < qv.length:=by omega
 have hk2:x.toNat < as.length:=by rw[h.len];exact hk
 have:=h.ok x.toNat as[x.toNat] qv[x.toNat] (List.getElem?_eq_getElem hk2) (List.getElem?_eq_getElem hk)
 simpa[ar,dr,hk,hk2] using this
theorem ajx(P:Int×Int){qv:LL9}(h:Hs qv):∃as P',f__law_arrows [.own (some 0) (pen P),.val (hD qv)]=some (.ok (.v (.tup (as.map D.int))),[.own (some 0) (pen P'),.val (hD qv)])/\Arr qv as:=by
 have comp:=qu (b:=du 0) (mc:=ret true) (me:=vz) (fun j ys ρ=>∃ns P o,ρ=[o,.own (some 1) (pen P)]/\ys=ns.map D.int/\ns.length=j/\∀(i:Nat) (a:Int) (r:List Int),ns[i]? = some a->qv[i]? = some r->0<=a/\a < (r.length:Int))
  (l:=hDs qv) (ys:=[]) (ρ:=[.emp,.own (some 1) (pen P)]) 0 ⟨[],P,.emp,rfl,rfl,rfl,by simp⟩ ?_
 ·obtain⟨ys,ρ',e6,ns,P6,o,rfl,rfl,hn,hx⟩:=comp;rw[vy,Nat.zero_add] at hn;have hc:ns.length<=capS:=dj (by have:=h.most;omega)
  exact⟨ns,P6,by simp[f__law_arrows,ach,hD,e6,hc],hn,hx⟩
 ·rintro j d ys ρ hd ⟨ns,P6,o,rfl,rfl,hn,hx⟩
  obtain⟨r,hr,rfl⟩:=agx hd;obtain⟨k1,k2,k3⟩:=h.room r (List.mem_of_getElem? hr);obtain⟨r7,P7,e7,r7a,r7b⟩:=gm P6 (r.length:Int) (by omega) (by omega)
  refine⟨_,_,true,rfl,rfl,.inr ⟨rfl,.int r7,[.val (.tup (r.map D.int)),.own (some 1) (pen P7)],by simp[vz,e7],ns++[r7],P7,_,rfl,by simp,by simp[hn],fun i a q ha hq =>?_⟩⟩
  rcases Nat.lt_or_ge i ns.length with z | z
  ·rw[List.getElem?_append_left z] at ha;exact hx i a q ha hq
  ·have hi:i=ns.length:=by
    have:=(List.getElem?_eq_some_iff.mp ha).1;simp at this;omega
   subst hi;simp at ha;subst ha;have:ns.length=j:=by omega
   rw[this,hr] at hq;cases hq;exact⟨r7a,r7b⟩
@[simp] theorem wy(qv:LL9)(d:D):gw [.val (hD qv),.val d]=some (.ok (.v (.bl (ir 0 ((qv.length:Int) - 1) d))),[.val (hD qv),.val d]):=by
 simp[gw,zc,hD,hDs]
theorem afc{qv:LL9}{a:Int}(h0:0<=a)(h1:a < (qv.length:Int)):dz [.val (hD qv),.val (.int a)]=some (.ok (.v .non),[.val (hD qv),.val (.int a)]):=by
 have h1:a<=(qv.length:Int) - 1:=by omega
 simp[dz,qz,ir,h0,h1]
theorem ah6{qv:LL9}(h:Hs qv){as:List Int}(ha:Arr qv as):ul [.val (hD qv),.val (.tup (as.map D.int))]=some (.ok (.v (.bl true)),[.val (hD qv),.val (.tup (as.map D.int))]):=by
 have hl:=ha.len;have hle:(as.map D.int).length<=(hDs qv).length:=by rw[vy,List.length_map];omega
 have comp:=qu (b:=bTup 2 (su (du 0) (su (du 1) bNil))) (mc:=ret true) (me:=aam) (fun j ys ρ=>∃o1 o2,ρ=[o1,o2]/\ys=(List.replicate j true).map D.bl)
  (l:=ab1 (as.map D.int) (hDs qv)) (ys:=[]) (ρ:=[.emp,.emp]) 0 ⟨.emp,.emp,rfl,rfl⟩ ?_
 ·obtain⟨ys,ρ',e6,o1,o2,rfl,rfl⟩:=comp;rw[ad0 hle,List.length_map,Nat.zero_add] at e6;have hc:as.length<=capS:=dj (by have:=h.most;omega)
  have e1:cu [.val (.tup (as.map D.int)),.val (.int (qv.length:Int)),.val (.int (qv.length:Int))]=some (.ok (.v (.bl true)),[.val (.tup (as.map D.int)),.val (.int (qv.length:Int)),.val (.int (qv.length:Int))]):=by
   have:(as.length:Int)=qv.length:=by omega
   simp[cu,qd,isTy,this]
  have hle2:as.length<=(hDs qv).length:=by simpa using hle
  have hl3:=vy qv;have hl4:qv.length<=capS:=hl▸hc;have hbl:vm (List.replicate qv.length (D.bl true))=some (List.replicate qv.length true):=by
   have:=xr (List.replicate qv.length true);rwa[List.map_replicate] at this
  simp only[hD];simp[ul,aeu,hl3,e1,e6,hl,hl4,hbl]
 ·rintro j d ys ρ hd ⟨o1,o2,rfl,rfl⟩
  obtain⟨d1,d2,g1,g2,rfl⟩:=ab0 hd;obtain⟨r,hr,rfl⟩:=agx g2;rw[List.getElem?_map] at g1;obtain⟨a,ga,rfl⟩:=Option.map_eq_some_iff.mp g1;obtain⟨b0,b1⟩:=ha.ok j a r ga hr;have b2:a<=(r.length:Int) - 1:=by omega
  refine⟨[.val (.int a),.val (.tup (r.map D.int))],_,true,by simp,rfl,.inr ⟨rfl,.bl true,[.val (.int a),.val (.tup (r.map D.int))],by simp[aam,ir,b0,b2],_,_,rfl,?_⟩⟩
  rw[List.replicate_succ',List.map_append];rfl
theorem aee{qv:LL9}(h:Hs qv){as:List Int}(ha:Arr qv as){k:Int}(h0:0<=k)(h1:k < (qv.length:Int)):jn [.val (hD qv),.val (.tup (as.map D.int)),.val (.int k)]=some (.ok (.v .non),[.val (hD qv),.val (.tup (as.map D.int)),.val (.int k)]):=by
 have r1:je [.val (hD qv),.val (.tup (as.map D.int))]=some (.ok (.v .non),[.val (hD qv),.val (.tup (as.map D.int))]):=by
  simp[je,vd,ah6 h ha]
 have r2:=afc h0 h1;simp[jn,w6,r1,r2]
def asn(qv:LL9):Bool:=qv.all fun r=>decide (0<=minI r)
theorem axk{C:M Rv}{s:Sl}{f:List Int->Bool}{qv:LL9}(e:C [s]=some (.ok (.fr (qv.map fun r=>D.bl (f r))),[s])):fnD 1 1 (dRet (fu (g1 gAll) (aj (M.d C) mNil))) [s]=some (.ok (.v (.bl (qv.all f))),[s]):=by
 simp[e,Function.comp_def]
theorem alr{qv:LL9}(h:Hs qv):aak [.val (hD qv)]=some (.ok (.v (.bl (asn qv))),[.val (hD qv)]):=by
 have ef:compD (du 0) (ret true) aa4 (hDs qv) [] [.emp]=some (.ok (qv.map fun r=>.bl (decide (0<=minI r))),acf .emp (hDs qv)::[]):=by
  rw[aaq (f:=fun d=>match d with | .tup l=>.bl (decide (0<=minI ((jd l).getD []))) | _=>.non)]
  ·simp[hDs,Function.comp_def]
  ·intro d hd;obtain⟨r,hr,rfl⟩:=List.mem_map.mp hd;have hne:r≠[]:=fun z=>by have:=(h.room r hr).1;rw[z] at this;simp at this
   simp[aa4,aqu hne]
 have hc:(qv.map fun r=>D.bl (decide (0<=minI r))).length<=capS:=by rw[List.length_map];exact dj (Nat.le_trans h.most (by decide))
 have e1:=aqb (src:=[none]) (mi:=u6 (mVar 0)) (ρ:=[.val (hD qv)]) (ρ1:=[.val (hD qv)]) (b:=du 0) (mc:=ret true) (me:=aa4) (l:=hDs qv) rfl rfl ef hc;unfold aak ah8;exact axk e1
theorem atp:∀{r:List Int},r≠[]->minI r∈r
 | [],h=>absurd rfl h
 | x::r,_=>by
  have:∀(r:List Int) (x:Int),r.foldl (fun m y=>if decide (y < m)=true then y else m) x∈x::r:=by
   intro r
   induction r with
   | nil=>intro x;simp
   | cons z t ih =>
    intro x;rw[List.foldl_cons];have:=ih (if decide (z < x)=true then z else x)
    rcases List.mem_cons.mp this with e | e
    ·rw[e];split <;> simp
    ·exact List.mem_cons_of_mem _ (List.mem_cons_of_mem _ e)
  exact this r x
theorem api{qv:LL9}(h:Hs qv)(s:Sh qv):asn qv=true:=by
 unfold asn;rw[List.all_eq_true];intro r hr;have hne:r≠[]:=fun z=>by have:=(h.room r hr).1;rw[z] at this;simp at this
 exact decide_eq_true (s r hr _ (atp hne))
theorem afb{qv:LL9}(h:Hs qv)(s:Sh qv):jm [.val (hD qv)]=some (.ok (.v .non),[.val (hD qv)]):=by
 have e:=alr h;rw[api h s] at e;simp[jm,wz,e]
def wd(qv:LL9)(k:Int):Int:=((dr qv k).length:Int)
def jh(qv:LL9)(as:List Int)(k:Int):Int:=(dr qv k).getD ((ar as k - 1) % wd qv k).toNat 0
theorem aup{r:List Int}{a:Int}(h0:0<=a)(h1:a < (r.length:Int)):atI (r.map D.int) (a - 1)=some (.int (r.getD ((a - 1) % (r.length:Int)).toNat 0)):=by
 by_cases z:1<=a
 ·rw[Int.emod_eq_of_lt (by omega) (by omega)]
  exact yw (by omega) (by omega)
 ·have:a=0:=by omega
  subst this;have e:((0:Int) - 1) % (r.length:Int)=(r.length:Int) - 1:=by
   have:=Int.add_emod_right ((0:Int) - 1) (r.length:Int);rw[<-this,Int.emod_eq_of_lt (by omega) (by omega)]
   omega
  rw[e];have hn:((r.length:Int) - 1).toNat=r.length - 1:=by omega
  rw[hn];have hl:r.length - 1 < r.length:=by omega
  have h3:ixN (r.map D.int).length (0 - 1)=some (r.length - 1):=by
   unfold ixN;rw[List.length_map];have a1:¬(0<=(0:Int) - 1):=by omega
   have a2 : -(r.length:Int)<=(0:Int) - 1:=by omega
   simp[a2];omega
  unfold atI;rw[h3];simp[List.getElem?_eq_getElem hl]
def lasts(qv:LL9)(as:List Int):List Int:=(List.range qv.length).map fun(i:Nat)=>jh qv as (i:Int)
theorem mq(qv:LL9)(as:List Int):(lasts qv as).length=qv.length:=by unfold lasts;rw[List.length_map,List.length_range]
theorem akf{qv:LL9}{as:List Int}{k:Int}(h0:0<=k)(h1:k < (qv.length:Int)):atI ((lasts qv as).map D.int) k=some (.int (jh qv as k)):=by
 rw[yw h0 (by rw[mq];exact h1)]
 unfold lasts;have:k.toNat < qv.length:=by omega
 rw[List.getD_eq_getElem?_getD,List.getElem?_map,List.getElem?_range this];show some (D.int (jh qv as ((k.toNat:Nat):Int)))=_;rw[show((k.toNat:Nat):Int)=k by omega]
theorem afr(qv:LL9)(as:List Int)(j:Nat):((List.range (j+1)).map fun(i:Nat)=>jh qv as (i:Int))=((List.range j).map fun(i:Nat)=>jh qv as (i:Int))++[jh qv as (j:Int)]:=by
 rw[List.range_succ,List.map_append];rfl
section
variable{qv:LL9}(h:Hs qv){as:List Int}(ha:Arr qv as)
include h ha
theorem ah4:ug [.val (hD qv),.val (.tup (as.map D.int))]=some (.ok (.v (.tup ((lasts qv as).map D.int))),[.val (hD qv),.val (.tup (as.map D.int))]):=by
 have hl:=ha.len;have hm:=h.most;have hle:(as.map D.int).length<=(hDs qv).length:=by rw[vy,List.length_map];omega
 have comp:=qu (b:=bTup 2 (su (du 0) (su (du 1) bNil))) (mc:=ret true) (me:=aal) (fun j ys ρ=>∃(o1 o2:Sl),ρ=[o1,o2]/\ys=((List.range j).map fun(i:Nat)=>jh qv as (i:Int)).map D.int)
  (l:=ab1 (as.map D.int) (hDs qv)) (ys:=[]) (ρ:=[.emp,.emp]) 0 ⟨.emp,.emp,rfl,rfl⟩ ?_
 ·obtain⟨ys,ρ',e6,o1,o2,rfl,rfl⟩:=comp;rw[ad0 hle,List.length_map,Nat.zero_add,hl] at e6;have hc:((lasts qv as).map D.int).length<=capS:=by rw[List.length_map,mq];exact dj (by omega)
  have hle2:as.length<=(hDs qv).length:=by simpa using hle
  change compD _ _ _ _ _ _=some (.ok ((lasts qv as).map D.int),_) at e6
  generalize (lasts qv as).map D.int=ld at *;simp only[hD];simp[ug,aes,hle2,e6,hc]
 ·rintro j d ys ρ hd ⟨o1,o2,rfl,rfl⟩
  obtain⟨d1,d2,g1,g2,rfl⟩:=ab0 hd;obtain⟨r,hr,rfl⟩:=agx g2;rw[List.getElem?_map] at g1;obtain⟨a,ea,rfl⟩:=Option.map_eq_some_iff.mp g1;obtain⟨b0,b1⟩:=ha.ok j a r ea hr;have er:dr qv (j:Int)=r:=by unfold dr;rw[List.getD_eq_getElem?_getD,Int.toNat_natCast,hr];rfl
  have e3:ar as (j:Int)=a:=by unfold ar;rw[List.getD_eq_getElem?_getD,Int.toNat_natCast,ea];rfl
  have e4:=aup b0 b1;have e5:jh qv as ((0+j:Nat):Int)=r.getD ((a - 1) % (r.length:Int)).toNat 0:=by rw[Nat.zero_add];unfold jh wd;rw[er,e3]
  refine⟨[.val (.int a),.val (.tup (r.map D.int))],_,true,by simp,rfl,.inr ⟨rfl,.int (r.getD ((a - 1) % (r.length:Int)).toNat 0),[.val (.int a),.val (.tup (r.map D.int))],by simp[aal,e4],_,_,rfl,?_⟩⟩
  rw[afr,List.map_append,e5];rfl
end
def lp(L:List Int):LL9:=L.map fun y=>[y]
theorem ah0(L:List Int):(lp L).length=L.length:=List.length_map ..
theorem axa{L:List Int}{x:Int}(h0:0<=x)(h1:x < (L.length:Int)):dr (lp L) x=[L.getD x.toNat 0]:=by
 have hk:x.toNat < L.length:=by omega
 simp[dr,lp,hk]
structure Ways (L:List Int):Prop where
 one:1<=L.length
 most:L.length<=10
 ok:∀y∈L,-3<=y/\y < (L.length:Int)
theorem Ways.hs{L:List Int}(w:Ways L):Hs (lp L):=⟨by rw[ah0];exact w.one,by rw[ah0];exact w.most,fun r hr=>by
 obtain⟨y,hy,rfl⟩:=List.mem_map.mp hr;rw[ah0];exact⟨by simp,by simp,fun x hx=>by rw[List.mem_singleton] at hx;rw[hx];exact w.ok _ hy⟩⟩
theorem ac2{qv:LL9}(h:Hs qv){as:List Int}(ha:Arr qv as):Ways (lasts qv as):=⟨by rw[mq];exact h.one,by rw[mq];exact h.most,fun y hy=>by
 rw[mq];unfold lasts at hy;obtain⟨i,hi,rfl⟩:=List.mem_map.mp hy;have hi:=List.mem_range.mp hi;obtain⟨a1,a2,a3⟩:=h.dr (x:=(i:Int)) (by omega) (by omega)
 refine a3 _ ?_;unfold jh;have w0:0 < wd qv (i:Int):=by unfold wd;omega
 have b0:=Int.emod_nonneg (ar as (i:Int) - 1) (show wd qv (i:Int)≠0 by omega)
 have b1:=Int.emod_lt_of_pos (ar as (i:Int) - 1) w0;have hk:((ar as (i:Int) - 1) % wd qv (i:Int)).toNat < (dr qv (i:Int)).length:=by unfold wd at *;omega
 rw[List.getD_eq_getElem?_getD,List.getElem?_eq_getElem hk];exact List.getElem_mem hk⟩
theorem ac0:∀(m:Nat) (l:List Int),l.Nodup->(∀x∈l,0<=x/\x < (m:Int))->l.length<=m
 | 0,l,_,h=>by
  cases l with
  | nil=>simp
  | cons x r=>have:=h x (List.mem_cons_self ..);omega
 | m+1,l,hn,h=>by
  have h1:(l.erase (m:Int)).length<=m:=ac0 m _ (hn.erase _) fun x hx=>by
   rw[hn.mem_erase_iff] at hx;have:=h x hx.2;have:=hx.1;omega
  have h2:l.length<=(l.erase (m:Int)).length+1:=by
   rw[List.length_erase];split <;> omega
  omega
theorem pig(f:Nat->Int)(n:Nat)(hf:∀i,i<=n->0<=f i/\f i < (n:Int)):∃i j,i < j/\j<=n/\f i=f j:=by
 apply Classical.byContradiction;intro H;have hn:((List.range (n+1)).map f).Nodup:=by
  rw[List.Nodup,List.pairwise_map];refine List.Pairwise.imp_of_mem (fun{a b} ha hb hlt e=>H ⟨a,b,hlt,?_,e⟩) List.pairwise_lt_range
  have:=List.mem_range.mp hb;omega
 have:=ac0 n _ hn fun x hx=>by
  obtain⟨i,hi,rfl⟩:=List.mem_map.mp hx;have:=List.mem_range.mp hi;exact hf i (by omega)
 rw[List.length_map,List.length_range] at this;omega
theorem least{P:Nat->Prop}:∀n,P n->∃m,P m/\∀i < m,¬P i:=fun n=>by
 induction n using Nat.strongRecOn with
 | _ n ih =>
  intro hn
  by_cases q:∃i,i < n/\P i
  ·obtain⟨i,hi,hp⟩:=q;exact ih i hi hp
  ·exact⟨n,hn,fun i hi hp=>q ⟨i,hi,hp⟩⟩
def nxt(L:List Int)(p:Int):Int:=if 0<=p then L.getD p.toNat 0 else p
def itr(L:List Int)(p:Int):Nat->Int
 | 0=>p
 | t+1=>itr L (nxt L p) t
theorem jl(L:List Int):∀(s t:Nat) (p:Int),itr L p (s+t)=itr L (itr L p s) t
 | 0,t,p=>by rw[Nat.zero_add];rfl
 | s+1,t,p=>by
  rw[show s+1+t=(s+t)+1 by omega]
  exact jl L s t (nxt L p)
theorem awe{L:List Int}(w:Ways L){p:Int}(hp:p < (L.length:Int)):nxt L p < (L.length:Int):=by
 unfold nxt;split
 ·rename_i h0;have hk:p.toNat < L.length:=by omega
  rw[List.getD_eq_getElem?_getD,List.getElem?_eq_getElem hk];exact(w.ok _ (List.getElem_mem hk)).2
 ·exact hp
theorem ano{L:List Int}(w:Ways L):∀(t:Nat) {p:Int},p < (L.length:Int)->itr L p t < (L.length:Int)
 | 0,_,h=>h
 | t+1,_,h=>ano w t (awe w h)
theorem Sh.dr{qv:LL9}(s:Sh qv){x:Int}{d:Int}(hd:d∈dr qv x):0<=d:=by
 unfold My.dr at hd;rw[List.getD_eq_getElem?_getD] at hd;cases e:qv[x.toNat]? with
 | none=>rw[e] at hd;cases hd
 | some r =>
  rw[e] at hd;exact s r (List.mem_of_getElem? e) d hd
theorem ane{qv:LL9}{as:List Int}{i:Nat}(hi:i < qv.length):(lasts qv as)[i]? = some (jh qv as (i:Int)):=by
 unfold lasts;rw[List.getElem?_map,List.getElem?_range hi];rfl
def addD(ms:List Int)(d:Int):List Int:=if 0<=d/\d∉ms then ms++[d] else ms
theorem arh(ms:List Int)(d x:Int):x∈addD ms d↔x∈ms∨(x=d/\0<=d):=by
 unfold addD;split
 ·rename_i h;simp only[List.mem_append,List.mem_singleton];constructor
  ·rintro(q | q)
   ·exact .inl q
   ·exact .inr ⟨q,h.1⟩
  ·rintro(q | ⟨q,_⟩)
   ·exact .inl q
   ·exact .inr q
 ·rename_i h;constructor
  ·exact .inl
  ·rintro(q | ⟨rfl,q⟩)
   ·exact q
   ·exact Classical.byContradiction fun z=>h ⟨q,z⟩
theorem al3{ms:List Int}(h:ms.Nodup)(d:Int):(addD ms d).Nodup:=by
 unfold addD;split
 ·rename_i q;rw[List.nodup_append];refine⟨h,by simp,fun x hx y hy e =>?_⟩
  rw[List.mem_singleton] at hy;subst hy;subst e;exact q.2 hx
 ·exact h
theorem arf(ms:List Int)(d:Int):∃t,addD ms d=ms++t:=by
 unfold addD;split
 ·exact⟨_,rfl⟩
 ·exact⟨[],by simp⟩
theorem ari(ms:List Int)(d:Int):(addD ms d).length<=ms.length+1:=by
 unfold addD;split <;> simp
theorem ack:∀(ds ms:List Int) (x:Int),x∈ds.foldl addD ms↔x∈ms∨(x∈ds/\0<=x)
 | [],ms,x=>by simp
 | d::r,ms,x=>by
  rw[List.foldl_cons,ack r,arh];simp only[List.mem_cons];constructor
  ·rintro((q | ⟨rfl,q⟩) | ⟨q,w⟩)
   ·exact .inl q
   ·exact .inr ⟨.inl rfl,q⟩
   ·exact .inr ⟨.inr q,w⟩
  ·rintro(q | ⟨rfl | q,w⟩)
   ·exact .inl (.inl q)
   ·exact .inl (.inr ⟨rfl,w⟩)
   ·exact .inr ⟨q,w⟩
theorem afx:∀(ds:List Int) {ms:List Int},ms.Nodup->(ds.foldl addD ms).Nodup
 | [],_,h=>h
 | d::r,_,h=>afx r (al3 h d)
theorem ag2:∀(ds ms:List Int),∃t,ds.foldl addD ms=ms++t
 | [],ms=>⟨[],by simp⟩
 | d::r,ms=>by
  obtain⟨t,e⟩:=arf ms d;obtain⟨u,e2⟩:=ag2 r (addD ms d);exact⟨t++u,by rw[List.foldl_cons,e2,e,List.append_assoc]⟩
theorem af0(a b c e:Sl):∀(ds ms:List Int) (o:Sl),ms.length+ds.length<=100->∃o',forD (du 5) uc (ds.map D.int) [a,b,.own none (ms.map D.int),c,e,o]=some (.nx,[a,b,.own none ((ds.foldl addD ms).map D.int),c,e,o'])
 | [],ms,o,_=>⟨o,rfl⟩
 | d::r,ms,o,hl=>by
  rw[List.length_cons] at hl;have hal:=ari ms d;obtain⟨o',q⟩:=af0 a b c e r (addD ms d) (.val (.int d)) (by omega)
  refine⟨o',?_⟩;have hc:ms.length < capS:=by rw[auk];omega
  have es:uc [a,b,.own none (ms.map D.int),c,e,.val (.int d)]=some (.nx,[a,b,.own none ((addD ms d).map D.int),c,e,.val (.int d)]):=by
   have ei:=aaj true d ms
   by_cases h0:0<=d
   ·by_cases h1:d∈ms
    ·have:addD ms d=ms:=if_neg fun z=>z.2 h1
     rw[this];simp[uc,h0,ei,h1]
    ·have:addD ms d=ms++[d]:=if_pos ⟨h0,h1⟩;rw[this,List.map_append];simp[uc,h0,ei,h1,hc]
   ·have:addD ms d=ms:=if_neg fun z=>h0 z.1
    rw[this];simp[uc,h0]
  rw[List.map_cons,uf,List.foldl_cons];simp only[ag6,List.set_cons_succ,List.set_cons_zero];rw[es];exact q
theorem apg{l:List Int}(h:l.Nodup):(sortI l).Pairwise (· < ·):=by
 have h1:=uy l;have h2:(sortI l).Nodup:=(sortI_perm l).nodup_iff.mpr h;have:=h1.and h2;exact this.imp fun⟨a,b⟩=>by omega
structure Come (qv:LL9) (a:Int) (cs:List Int):Prop where
 lt:cs.Pairwise (· < ·)
 mem:∀x,x∈cs↔Rch qv a x/\0<=x
 len:cs.length<=10
theorem adu{qv:LL9}(h:Hs qv){a:Int}(ha:0<=a/\a < (qv.length:Int)) :
  ∃cs:List Int,qm [.val (hD qv),.val (.int a)]=some (.ok (.v (.tup (cs.map D.int))),[.val (hD qv),.val (.int a)])/\Come qv a cs:=by
 have hm:=h.most;have loop:=aaw (c:=wg) (g:=aax)
  (fun k ρ=>∃(ms:List Int) (i:Nat) (o4 o5:Sl),ρ=[.val (hD qv),.val (.int a),.own none (ms.map D.int),.val (.int (i:Nat)),o4,o5]/\k=20 - i/\i<=ms.length/\ms.Nodup/\a∈ms/\(∀x∈ms,Rch qv a x/\0<=x)/\∀j (hj:j < ms.length),j < i->∀d∈dr qv ms[j],0<=d->d∈ms)
  (fun ρ=>∃(ms:List Int) (o3 o4 o5:Sl),ρ=[.val (hD qv),.val (.int a),.own none (ms.map D.int),o3,o4,o5]/\ms.Nodup/\∀x,x∈ms↔Rch qv a x/\0<=x) ?_ fuel 20 [.val (hD qv),.val (.int a),.own none ([a].map D.int),.val (.int ((0:Nat):Int)),.emp,.emp] (Nat.lt_trans (by decide) ag1)
  ⟨[a],0,.emp,.emp,rfl,rfl,by simp,by simp,by simp,by simp;exact⟨.base,ha.1⟩,fun j hj hlt=>absurd hlt (Nat.not_lt_zero _)⟩
 ·obtain⟨ρ',e,ms,o3,o4,o5,rfl,hn,hm'⟩:=loop;have e:whileD wg aax fuel [.val (hD qv),.val (.int a),.own none [.int a],.val (.int 0),.emp,.emp]=some (.nx,[.val (hD qv),.val (.int a),.own none (ms.map D.int),o3,o4,o5]):=e;have hlen:ms.length<=10:=by
   have:=aei (qv.length+3) ([-3,-2,-1]++ms) (by
    rw[List.nodup_append];refine⟨by decide,hn,fun x hx y hy e =>?_⟩
    subst e;have:=((hm' x).mp hy).2;simp at hx;omega) (fun x hx=>by
    rcases List.mem_append.mp hx with hx | hx
    ·simp at hx;omega
    ·have:=(hm' x).mp hx;have:=Rch.range h ha this.1;omega)
   simp at this;omega
  have es:=aia (ns:=ms) (by omega)
  have hp:=sortI_perm ms;refine⟨sortI ms,?_,apg hn,fun x=>by rw[hp.mem_iff];exact hm' x,by rw[hp.length_eq];exact hlen⟩
  have er:dz [.val (hD qv),.val (.int a)]=some (.ok (.v .non),[.val (hD qv),.val (.int a)]):=by
   have h1:a<=(qv.length:Int) - 1:=by omega
   simp[dz,qz,ir,ha.1,h1]
  simp only[hD] at e er ⊢
  simp[qm,ah9,er,e,es]
 ·rintro k ρ ⟨ms,i,o4,o5,rfl,rfl,hi,hn,h0,hr,hc⟩
  have hz:=amr h ha hn fun x hx=>(hr x hx).1
  by_cases hlt:i < ms.length
  ·obtain⟨q1,q2⟩:=hr _ (List.getElem_mem hlt);have q3:=(Rch.range h ha q1).2;obtain⟨d1,d2,d3⟩:=h.dr q2 q3;have er:=ao1 q2 q3;have ei:=ar8 hlt;obtain⟨o5',el⟩:=af0 (.val (hD qv)) (.val (.int a)) (.val (.int (i:Nat))) (.val (.tup ((dr qv ms[i]).map D.int))) (dr qv ms[i]) ms o5 (by omega)
   refine .inr ⟨[.val (hD qv),.val (.int a),.own none (ms.map D.int),.val (.int (i:Nat)),o4,o5],[.val (hD qv),.val (.int a),.own none (((dr qv ms[i]).foldl addD ms).map D.int),.val (.int ((i+1:Nat):Int)),.val (.tup ((dr qv ms[i]).map D.int)),o5'],20 - (i+1),?_,?_,by omega,(dr qv ms[i]).foldl addD ms,i+1,_,_,rfl,rfl,?_,afx _ hn,(ack _ _ _).mpr (.inl h0),fun x hx =>?_,fun j hj hji d hd hd0 =>?_⟩
   ·have:(i:Int) < (ms.length:Int):=by omega
    simp[wg,this]
   ·have hcast:((i+1:Nat):Int)=(i:Int)+1:=by omega
    rw[hcast];simp only[hD] at el ⊢
    generalize (dr qv ms[i]).map D.int=dd at er el;simp[aax,ei,er,el]
   ·obtain⟨t,et⟩:=ag2 (dr qv ms[i]) ms;rw[et,List.length_append];omega
   ·rcases(ack _ _ _).mp hx with hx | ⟨hx,hx0⟩
    ·exact hr x hx
    ·exact⟨.step q1 q2 hx,hx0⟩
   ·obtain⟨t,et⟩:=ag2 (dr qv ms[i]) ms;have hjl:j < ms.length:=by omega
    have ej:((dr qv ms[i]).foldl addD ms)[j]=ms[j]:=by
     simp only[et];exact List.getElem_append_left hjl
    rw[ej] at hd;rcases Nat.lt_or_ge j i with z | z
    ·exact(ack _ _ _).mpr (.inl (hc j hjl z d hd hd0))
    ·have:j=i:=by omega
     subst this;exact(ack _ _ _).mpr (.inr ⟨hd,hd0⟩)
  ·refine .inl ⟨[.val (hD qv),.val (.int a),.own none (ms.map D.int),.val (.int (i:Nat)),o4,o5],?_,ms,_,_,_,rfl,hn,fun x=>⟨fun hx=>hr x hx,fun⟨hx,hx0⟩ =>?_⟩⟩
   ·have:¬(i:Int) < (ms.length:Int):=by omega
    simp[wg,this]
   ·exact ai3 h0 (fun y hy d hd hd0=>by
     obtain⟨j,hj,rfl⟩:=List.mem_iff_getElem.mp hy;exact hc j hj (by omega) d hd hd0) hx hx0
open Classical in
noncomputable def xn(qv:LL9)(a:Int):List Int:=if q:Hs qv/\0<=a/\a < (qv.length:Int) then (adu q.1 q.2).choose else []
section
variable{qv:LL9}(h:Hs qv){a:Int}(ha:0<=a/\a < (qv.length:Int))
include h ha
theorem xm:qm [.val (hD qv),.val (.int a)]=some (.ok (.v (.tup ((xn qv a).map D.int))),[.val (hD qv),.val (.int a)])/\Come qv a (xn qv a):=by
 unfold xn;rw[dif_pos ⟨h,ha⟩];exact(adu h ha).choose_spec
theorem xj:∀x∈xn qv a,0<=x/\x < (qv.length:Int):=fun x hx=>by
 obtain⟨q,q0⟩:=((xm h ha).2.mem x).mp hx;exact⟨q0,(Rch.range h ha q).2⟩
end
theorem ajp(neg:Bool)(a:Int)(ns:List Int):gIn neg (.int a) (.tup (ns.map D.int))=some (.v (.bl (if neg then !decide (a∈ns) else decide (a∈ns)))):=aaj neg a ns
noncomputable def afg(qv:LL9)(k:Int):List Int:=(xn qv k).filter fun x => !decide (k∈xn qv x)
section
variable{qv:LL9}(h:Hs qv){k:Int}(hk:0<=k/\k < (qv.length:Int))
include h hk
theorem ah7:um [.val (hD qv),.val (.int k)]=some (.ok (.fr ((afg qv k).map D.int)),[.val (hD qv),.val (.int k)]):=by
 obtain⟨e1,C⟩:=xm h hk;have ef:compD (du 0) aar aan ((xn qv k).map D.int) [] [.emp,.val (.int k),.val (hD qv)]=some (.ok ((afg qv k).map D.int),acf .emp ((xn qv k).map D.int)::[.val (.int k),.val (hD qv)]):=by
  rw[vh (p:=fun d=>match d with | .int x => !decide (k∈xn qv x) | _=>false) (f:=fun d=>d)]
  ·rw[List.nil_append,List.map_id',List.filter_map];rfl
  ·intro d hd;obtain⟨x,hx,rfl⟩:=List.mem_map.mp hd;have hr:=xj h hk x hx;obtain⟨e2,_⟩:=xm h hr;have e3:=ajp true k (xn qv x);generalize (xn qv x).map D.int=cc at *;generalize hD qv=hh at *;simp[aar,e2,e3]
  ·intro d hd _;obtain⟨x,hx,rfl⟩:=List.mem_map.mp hd;simp[aan]
 have hc:((afg qv k).map D.int).length<=capS:=by
  rw[List.length_map];exact dj (Nat.le_trans (List.length_filter_le _ _) (Nat.le_trans C.len (by decide)))
 generalize (afg qv k).map D.int=gg at *;generalize (xn qv k).map D.int=cc at *;generalize hD qv=hh at *;simp[um,aev,e1,ef,hc]
theorem u5(sh:Sh qv){x:Int}:x∈xn qv k↔Rch qv k x:=by
 obtain⟨_,C⟩:=xm h hk;rw[C.mem];refine⟨fun q=>q.1,fun q=>⟨q,?_⟩⟩
 cases q with
 | base=>exact hk.1
 | step r h0 hd=>exact sh.dr hd
end
theorem anf(l:List Int)(x:Int):atI ((l++[x]).map D.int) (-1)=some (.int x):=by
 unfold atI;have:ixN ((l++[x]).map D.int).length (-1)=some l.length:=by
  unfold ixN;rw[List.length_map,List.length_append];simp;omega
 rw[this];simp
theorem an4(r:List Int):∀x:Int,r.foldl (fun m y=>if decide (y < m)=true then y else m) x∈x::r:=by
 induction r with
 | nil=>intro x;simp
 | cons z t ih =>
  intro x;rw[List.foldl_cons];have:=ih (if decide (z < x)=true then z else x)
  rcases List.mem_cons.mp this with e | e
  ·rw[e];split <;> simp
  ·exact List.mem_cons_of_mem _ (List.mem_cons_of_mem _ e)
theorem ags{ns:List Int}(h:ns≠[]):minI ns∈ns:=by
 cases ns with
 | nil=>exact absurd rfl h
 | cons x r=>exact an4 r x
def ixm(ns:List Int):Nat:=((ns.map D.int).findIdx? fun y=>eqD y (.int (minI ns))).getD 0
def rotm(ns:List Int):List Int:=ns.drop (ixm ns)++ns.take (ixm ns)
theorem aem{L:List Int}(w:Ways L){s:Int}(hs:s∈ag9 (lp L))(m:Nat):0<=itr L s m/\itr L s m < (L.length:Int):=by
 have tI:ag9 (lp L)=(upto L.length).filter (caught (lp L)):=by unfold ag9;rw[ah0]
 rw[tI] at hs;obtain⟨a1,a2⟩:=List.mem_filter.mp hs;have a0:=agt a1;have hc:=(af2 _ _).mp a2;have hr:∀m:Nat,Rch (lp L) s (itr L s m):=fun m=>by
  induction m with
  | zero=>exact .base
  | succ m ih =>
   have h0:=hc _ ih;have hl:=ano w m a0.2;rw[jl];refine .step ih h0 ?_;rw[axa h0 hl,List.mem_singleton];show nxt L (itr L s m)=_;exact if_pos h0
 exact⟨hc _ (hr m),ano w m a0.2⟩
theorem aqh(L:List Int)(s:Int)(m:Nat)(h:0<=itr L s m):itr L s (m+1)=L.getD (itr L s m).toNat 0:=by
 rw[jl];show nxt L (itr L s m)=_;exact if_pos h
theorem avc{L:List Int}(w:Ways L){s:Int}(hs:s∈ag9 (lp L)):∃T,T < L.length/\itr L (itr L s L.length) (T+1)=itr L s L.length/\∀i,1<=i->i<=T->itr L (itr L s L.length) i≠itr L s L.length:=by
 obtain⟨i,j,hij,hj,e⟩:=pig (fun m=>itr L s m) L.length fun m _=>aem w hs m
 have e:itr L s i=itr L s j:=e;have ed:itr L (itr L s L.length) (j - i)=itr L s L.length:=by
  rw[<-jl,show L.length+(j - i)=j+(L.length - i) by omega,jl,<-e,<-jl,show i+(L.length - i)=L.length by omega]
 obtain⟨T,hT,hl⟩:=least (P:=fun T=>itr L (itr L s L.length) (T+1)=itr L s L.length) (j - i - 1) (by
  show itr L (itr L s L.length) (j - i - 1+1)=_;rw[show j - i - 1+1=j - i by omega]
  exact ed)
 refine⟨T,?_,hT,fun m m1 m2 z =>?_⟩
 ·rcases Nat.lt_or_ge (j - i - 1) T with q | q
  ·have:=hl (j - i - 1) q;rw[show j - i - 1+1=j - i by omega] at this
   exact absurd ed this
  ·omega
 ·have:=hl (m - 1) (by omega)
  rw[show m - 1+1=m by omega] at this
  exact this z
def rg(L:List Int)(p:Int)(t:Nat):List Int:=(List.range (t+1)).map fun i=>itr L p i
theorem amo(L:List Int)(p:Int)(t:Nat):rg L p (t+1)=rg L p t++[itr L p (t+1)]:=by
 unfold rg;rw[List.range_succ,List.map_append];rfl
theorem adg(L:List Int)(p:Int)(t:Nat):(rg L p t).length=t+1:=by unfold rg;simp
theorem aj3(L:List Int)(p:Int):∀t:Nat,∃l,rg L p t=l++[itr L p t]
 | 0=>⟨[],rfl⟩
 | t+1=>⟨rg L p t,amo L p t⟩
def tupB(a b:Int):D->Bool
 | .tup l=>decide (a<=(l.length:Int))&&decide ((l.length:Int)<=b)
 | _=>false
theorem u9(d:D)(a b:Int):cu [.val d,.val (.int a),.val (.int b)]=some (.ok (.v (.bl (tupB a b d))),[.val d,.val (.int a),.val (.int b)]):=by
 cases d <;> simp[cu,qd,isTy,tupB]
theorem aav:∀{l:List D},l.all nq=true->∃ns:List Int,l=ns.map D.int
 | [],_=>⟨[],rfl⟩
 | d::r,h=>by
  rw[List.all_cons,Bool.and_eq_true] at h;obtain⟨ns,e⟩:=aav h.2;cases d with
  | int x=>exact⟨x::ns,by rw[List.map_cons,e]⟩
  | _=>exact Bool.noConfusion h.1
theorem ap9{ns:List Int}{x:Int}:x∈rotm ns↔x∈ns:=by
 unfold rotm;rw[List.mem_append,Or.comm,<-List.mem_append,List.take_append_drop]
theorem apl(ns:List Int):(rotm ns).length=ns.length:=by
 unfold rotm;rw[List.length_append,List.length_drop,List.length_take];omega
structure Cy (L:List Int) (r:List Int) (μ:Int) (T:Nat):Prop where
 is:r=rg L μ T
 per:itr L μ (T+1)=μ
 min:∀i,1<=i->i<=T->itr L μ i≠μ
 least:minI r=μ
theorem aj4(L:List Int)(p:Int){T i:Nat}(hi:i < T+1):(rg L p T)[i]? = some (itr L p i):=by
 unfold rg;rw[List.getElem?_map,List.getElem?_range hi];rfl
theorem aej{L:List Int}{p:Int}{T:Nat}{x:Int}:x∈rg L p T↔∃i,i<=T/\x=itr L p i:=by
 unfold rg;rw[List.mem_map];constructor
 ·rintro⟨i,hi,rfl⟩
  exact⟨i,by have:=List.mem_range.mp hi;omega,rfl⟩
 ·rintro⟨i,hi,rfl⟩
  exact⟨i,List.mem_range.mpr (by omega),rfl⟩
theorem aud{L:List Int}{p:Int}{T:Nat}(e:itr L p (T+1)=p)(n:Nat):itr L p (n*(T+1))=p:=by
 induction n with
 | zero=>rw[Nat.zero_mul];rfl
 | succ n ih=>rw[Nat.succ_mul,jl,ih,e]
theorem aue{L:List Int}{p:Int}{T:Nat}(e:itr L p (T+1)=p)(m:Nat):itr L p m=itr L p (m % (T+1)):=by
 have z:=Nat.div_add_mod m (T+1);have:itr L p m=itr L p (m / (T+1)*(T+1)+m % (T+1)):=by rw[Nat.mul_comm,z]
 rw[this,jl,aud e]
theorem atq{L:List Int}{p:Int}{T:Nat}(e:itr L p (T+1)=p){x:Int}:x∈rg L p T↔∃m,x=itr L p m:=by
 rw[aej];constructor
 ·rintro⟨i,_,rfl⟩
  exact⟨i,rfl⟩
 ·rintro⟨m,rfl⟩
  exact⟨m % (T+1),by have:=Nat.mod_lt m (show 0 < T+1 by omega);omega,aue e m⟩
theorem aso{L:List Int}{p:Int}{T:Nat}(e:itr L p (T+1)=p){j:Nat}(hj:j<=T):(rg L p T).drop j++(rg L p T).take j=rg L (itr L p j) T:=by
 have hl:=adg L p T;apply List.ext_getElem?;intro i
 by_cases hi:i < T+1
 ·rw[aj4 L _ hi,<-jl]
  by_cases q:i < T+1 - j
  ·rw[List.getElem?_append_left (by rw[List.length_drop];omega),List.getElem?_drop,aj4 L p (by omega)]
  ·rw[List.getElem?_append_right (by rw[List.length_drop];omega),List.length_drop,List.getElem?_take_of_lt (by omega),aj4 L p (by omega)]
   have:itr L p (j+i)=itr L p (i - ((rg L p T).length - j)):=by
    rw[hl,show j+i=(T+1)+(i - (T+1 - j)) by omega,jl,e]
   rw[this]
 ·rw[List.getElem?_eq_none (by rw[List.length_append,List.length_drop,List.length_take];omega),List.getElem?_eq_none (by rw[adg];omega)]
theorem axb{L:List Int}{p:Int}{T:Nat}(e:itr L p (T+1)=p)(hm:∀i,1<=i->i<=T->itr L p i≠p){j:Nat}(hj:j<=T):itr L (itr L p j) (T+1)=itr L p j/\∀i,1<=i->i<=T->itr L (itr L p j) i≠itr L p j:=by
 refine⟨by rw[<-jl,show j+(T+1)=(T+1)+j by omega,jl,e],fun i i1 i2 z =>?_⟩
 have:itr L p i=p:=by
  have a:itr L (itr L (itr L p j) i) (T+1 - j)=itr L (itr L p j) (T+1 - j):=by rw[z]
  rw[<-jl,<-jl,<-jl,show j+(i+(T+1 - j))=(T+1)+i by omega,show j+(T+1 - j)=T+1 by omega,jl,e] at a
  exact a
 exact hm i i1 i2 this
theorem am7:∀{r:List Int} {x:Int},x∈r->minI r<=x
 | [],_,h=>by cases h
 | y::r,x,h=>by
  have key:∀(r:List Int) (y:Int),r.foldl (fun m z=>if decide (z < m)=true then z else m) y<=y/\∀x∈r,r.foldl (fun m z=>if decide (z < m)=true then z else m) y<=x:=by
   intro r
   induction r with
   | nil=>intro y;exact⟨Int.le_refl _,fun x hx=>by cases hx⟩
   | cons z t ih =>
    intro y;rw[List.foldl_cons];obtain⟨a,b⟩:=ih (if decide (z < y)=true then z else y)
    by_cases q:z < y
    ·rw[decide_eq_true q,if_pos rfl] at a b ⊢
     exact⟨by omega,fun x hx=>by
      rcases List.mem_cons.mp hx with rfl | hx
      ·exact a
      ·exact b x hx⟩
    ·rw[decide_eq_false q,if_neg (by simp)] at a b ⊢
     exact⟨a,fun x hx=>by
      rcases List.mem_cons.mp hx with rfl | hx
      ·omega
      ·exact b x hx⟩
  obtain⟨a,b⟩:=key r y;rcases List.mem_cons.mp h with rfl | h
  ·exact a
  ·exact b x h
theorem ap8{r t:List Int}(hr:r≠[])(ht:t≠[])(h:∀x,x∈r↔x∈t):minI r=minI t:=by
 have a:=am7 ((h _).mp (ags hr));have b:=am7 ((h _).mpr (ags ht));omega
theorem apn(L:List Int)(p:Int)(T:Nat):rg L p T≠[]:=fun z=>by have:=adg L p T;rw[z] at this;simp at this
theorem awv{ns:List Int}(h:ns≠[]):ixm ns < ns.length/\ns[ixm ns]? = some (minI ns):=by
 have hm:=ags h;unfold ixm;cases e:(ns.map D.int).findIdx? fun y=>eqD y (.int (minI ns)) with
 | none =>
  rw[List.findIdx?_eq_none_iff] at e;have:=e (.int (minI ns)) (List.mem_map.mpr ⟨_,hm,rfl⟩);rw[ag3] at this;simp at this
 | some i =>
  obtain⟨hi,hp,_⟩:=List.findIdx?_eq_some_iff_getElem.mp e;have hi':i < ns.length:=by simpa using hi
  refine⟨hi',?_⟩;show ns[i]? = _;rw[List.getElem_map,ag3] at hp;rw[List.getElem?_eq_getElem hi']
  congr 1
  simpa using hp
theorem axc{L:List Int}{p:Int}{T:Nat}(e:itr L p (T+1)=p)(hm:∀i,1<=i->i<=T->itr L p i≠p):∃j,j<=T/\Cy L (rotm (rg L p T)) (itr L p j) T:=by
 obtain⟨a,b⟩:=awv (apn L p T);rw[adg] at a;rw[aj4 L p a] at b;have b:=Option.some.inj b;obtain⟨c1,c2⟩:=axb e hm (j:=ixm (rg L p T)) (by omega)
 refine⟨ixm (rg L p T),by omega,aso e (by omega),c1,c2,?_⟩
 rw[b];refine ap8 (fun z =>?_) (apn L p T) fun x=>ap9
 have:=apl (rg L p T);rw[z,adg] at this;simp at this
theorem Cy.mem{L r:List Int}{μ:Int}{T:Nat}(c:Cy L r μ T){x:Int}:x∈r↔∃m,x=itr L μ m:=by
 rw[c.is];exact atq c.per
section
variable{qv:LL9}(h:Hs qv){as:List Int}(ha:Arr qv as)
include h ha
theorem ael:qg [.val (hD qv),.val (.tup (as.map D.int))]=some (.ok (.fr ((lasts qv as).map D.int)),[.val (hD qv),.val (.tup (as.map D.int))]):=by
 have hl:=ha.len;have hm:=h.most;have hle:(hDs qv).length<=(as.map D.int).length:=by rw[vy,List.length_map];omega
 have comp:=qu (b:=bTup 2 (su (du 0) (su (du 1) bNil))) (mc:=ret true) (me:=aap) (fun j ys ρ=>∃(o1 o2:Sl),ρ=[o1,o2]/\ys=((List.range j).map fun(i:Nat)=>jh qv as (i:Int)).map D.int)
  (l:=ab1 (hDs qv) (as.map D.int)) (ys:=[]) (ρ:=[.emp,.emp]) 0 ⟨.emp,.emp,rfl,rfl⟩ ?_
 ·obtain⟨ys,ρ',e6,o1,o2,rfl,rfl⟩:=comp;rw[ad0 hle,vy,Nat.zero_add] at e6;have hc:((lasts qv as).map D.int).length<=capS:=by rw[List.length_map,mq];exact dj (by omega)
  have hle2:(hDs qv).length<=as.length:=by simpa using hle
  change compD _ _ _ _ _ _=some (.ok ((lasts qv as).map D.int),_) at e6
  generalize (lasts qv as).map D.int=ld at *;simp only[hD];simp[qg,aex,hle2,e6,hc]
 ·rintro j d ys ρ hd ⟨o1,o2,rfl,rfl⟩
  obtain⟨d2,d1,g2,g1,rfl⟩:=ab0 hd;obtain⟨r,hr,rfl⟩:=agx g2;rw[List.getElem?_map] at g1;obtain⟨a,ea,rfl⟩:=Option.map_eq_some_iff.mp g1;obtain⟨b0,b1⟩:=ha.ok j a r ea hr;have er:dr qv (j:Int)=r:=by unfold dr;rw[List.getD_eq_getElem?_getD,Int.toNat_natCast,hr];rfl
  have e3:ar as (j:Int)=a:=by unfold ar;rw[List.getD_eq_getElem?_getD,Int.toNat_natCast,ea];rfl
  have q0:=Int.emod_nonneg (a - 1) (b:=(r.length:Int)) (by omega)
  have q1:=Int.emod_lt_of_pos (a - 1) (b:=(r.length:Int)) (by omega)
  have e4:atI (r.map D.int) ((a - 1) % (r.length:Int))=some (.int (r.getD ((a - 1) % (r.length:Int)).toNat 0)):=yw q0 q1;have e7:fMod (a - 1) (r.length:Int)=some ((a - 1) % (r.length:Int)):=by
   unfold fMod;rw[if_pos (by omega)]
  have e5:jh qv as ((0+j:Nat):Int)=r.getD ((a - 1) % (r.length:Int)).toNat 0:=by rw[Nat.zero_add];unfold jh wd;rw[er,e3]
  refine⟨[.val (.tup (r.map D.int)),.val (.int a)],_,true,by simp,rfl,.inr ⟨rfl,.int (r.getD ((a - 1) % (r.length:Int)).toNat 0),[.val (.tup (r.map D.int)),.val (.int a)],by simp[aap,e4,e7],_,_,rfl,?_⟩⟩
  rw[afr,List.map_append,e5];rfl
end
section
variable{qv:LL9}(h:Hs qv)(sh:Sh qv){as:List Int}(ha:Arr qv as)
include h sh ha
theorem lasts_get0{x:Int}(h0:0<=x)(h1:x < (qv.length:Int)):(lasts qv as).getD x.toNat 0=jh qv as x:=by
 have hx:x.toNat < qv.length:=by omega
 rw[List.getD_eq_getElem?_getD,ane hx,show((x.toNat:Nat):Int)=x by omega]
 rfl
theorem ah5{x:Int}(h0:0<=x)(h1:x < (qv.length:Int)):jh qv as x∈dr qv x:=by
 have a:=(h.dr h0 h1).1;unfold jh;have w0:0 < wd qv x:=by unfold wd;omega
 have b0:=Int.emod_nonneg (ar as x - 1) (show wd qv x≠0 by omega)
 have b1:=Int.emod_lt_of_pos (ar as x - 1) w0;have hk:((ar as x - 1) % wd qv x).toNat < (dr qv x).length:=by unfold wd at *;omega
 rw[List.getD_eq_getElem?_getD,List.getElem?_eq_getElem hk];exact List.getElem_mem hk
theorem adz{x:Int}(h0:0<=x)(h1:x < (qv.length:Int)):x∈ag9 (lp (lasts qv as)):=by
 have tI:ag9 (lp (lasts qv as))=(upto qv.length).filter (caught (lp (lasts qv as))):=by unfold ag9;rw[ah0,mq]
 rw[tI];refine List.mem_filter.mpr ⟨List.mem_map.mpr ⟨x.toNat,List.mem_range.mpr (by omega),by omega⟩,(af2 _ _).mpr fun y r =>?_⟩
 have key:0<=y/\y < (qv.length:Int):=by
  induction r with
  | base=>exact⟨h0,h1⟩
  | step r q hd ih =>
   obtain⟨i0,i1⟩:=ih;rw[axa i0 (by rw[mq];exact i1),List.mem_singleton,lasts_get0 h sh ha i0 i1] at hd
   have m:=ah5 h sh ha i0 i1;rw[hd];exact⟨sh.dr m,((h.dr i0 i1).2.2 _ m).2⟩
 exact key.1
variable{k:Int}(hk:0<=k/\k < (qv.length:Int))
include hk
end
theorem avd{L:List Int}{s:Int}(hp:∀m,0<=itr L s m/\itr L s m < (L.length:Int)):∃T,T < L.length/\itr L s (T+1)∈rg L s T/\∀t,t < T->itr L s (t+1)∉rg L s t:=by
 obtain⟨i,j,hij,hj,e⟩:=pig (fun m=>itr L s m) L.length fun m _=>hp m
 have e:itr L s i=itr L s j:=e;obtain⟨T,hT,hl⟩:=least (P:=fun T=>itr L s (T+1)∈rg L s T) (j - 1) (aej.mpr ⟨i,by omega,by rw[show j - 1+1=j by omega];exact e.symm⟩)
 refine⟨T,?_,hT,hl⟩;rcases Nat.lt_or_ge (j - 1) T with q | q
 ·exact absurd (aej.mpr ⟨i,by omega,by rw[show j - 1+1=j by omega];exact e.symm⟩) (hl (j - 1) q)
 ·omega
open Classical in
noncomputable def lawR(L:List Int)(s:Int):Option (List Int):=if q:∃T,T < L.length/\itr L s (T+1)∈rg L s T/\∀t,t < T->itr L s (t+1)∉rg L s t then (if itr L s (q.choose+1)=s/\minI (rg L s q.choose)=s then some (rg L s q.choose) else none) else none
theorem ajg{L:List Int}{s:Int}{T:Nat}(h1:T < L.length)(h2:itr L s (T+1)∈rg L s T)(h3:∀t,t < T->itr L s (t+1)∉rg L s t):lawR L s=if itr L s (T+1)=s/\minI (rg L s T)=s then some (rg L s T) else none:=by
 have q:∃T,T < L.length/\itr L s (T+1)∈rg L s T/\∀t,t < T->itr L s (t+1)∉rg L s t:=⟨T,h1,h2,h3⟩
 have e:q.choose=T:=by
  obtain⟨_,c2,c3⟩:=q.choose_spec;rcases Nat.lt_trichotomy q.choose T with z | z | z
  ·exact absurd c2 (h3 _ z)
  ·exact z
  ·exact absurd h2 (c3 _ z)
 unfold lawR;rw[dif_pos q,e]
theorem agw{L:List Int}{s:Int}{r:List Int}(hp:∀m,0<=itr L s m/\itr L s m < (L.length:Int))(h:lawR L s=some r):∃T,Cy L r s T/\T < L.length:=by
 obtain⟨T,h1,h2,h3⟩:=avd hp;rw[ajg h1 h2 h3] at h;split at h
 ·rename_i q;cases h;refine⟨T,⟨rfl,q.1,fun i i1 i2 z =>?_,q.2⟩,h1⟩
  have:=h3 (i - 1) (by omega)
  rw[show i - 1+1=i by omega] at this
  exact this (aej.mpr ⟨0,by omega,z⟩)
 ·cases h
theorem auf{L:List Int}{μ:Int}{r:List Int}{T:Nat}(c:Cy L r μ T)(hT:T < L.length):lawR L μ=some r:=by
 rw[ajg (T:=T) hT (aej.mpr ⟨0,by omega,c.per⟩) fun t ht z =>?_]
 ·have:=c.least;rw[c.is] at this;rw[if_pos ⟨c.per,this⟩,c.is]
 ·obtain⟨i,hi,e⟩:=aej.mp z;have:itr L μ (t+1 - i)=μ:=by
   have a:itr L (itr L μ (t+1)) (T+1 - i)=itr L (itr L μ i) (T+1 - i):=by rw[e]
   rw[<-jl,<-jl,show t+1+(T+1 - i)=(T+1)+(t+1 - i) by omega,show i+(T+1 - i)=T+1 by omega,jl,c.per] at a
   exact a
  exact c.min (t+1 - i) (by omega) (by omega) this
theorem aey{L:List Int}:∀{C:List Int},C.Nodup->(∀x∈C,∀m,0<=itr L x m/\itr L x m < (L.length:Int))->(C.filterMap (lawR L)).Nodup
 | [],_,_=>by simp
 | s::C,hn,hp=>by
  have hn':=List.nodup_cons.mp hn;have i1:=aey hn'.2 fun x hx=>hp x (List.mem_cons_of_mem _ hx)
  rw[List.filterMap_cons];cases e:lawR L s with
  | none=>exact i1
  | some r =>
   refine List.nodup_cons.mpr ⟨fun z =>?_,i1⟩
   obtain⟨s',hs',e'⟩:=List.mem_filterMap.mp z;obtain⟨T,c,_⟩:=agw (hp s (List.mem_cons_self ..)) e;obtain⟨T',c',_⟩:=agw (hp s' (List.mem_cons_of_mem _ hs')) e';have:s=s':=c.least.symm.trans c'.least;exact hn'.1 (this▸hs')
section
variable{qv:LL9}(h:Hs qv)(sh:Sh qv){as:List Int}(ha:Arr qv as){C:List Int}(hr:∀x∈C,0<=x/\x < (qv.length:Int))(hn:C.Nodup)(hz:C.length<=10)
include h sh ha hr
omit hr in
theorem agv(hh A CC:Sl)(F:LL9)(hF:F.length<=10){s:Int}(s0:0<=s)(s1:s < (qv.length:Int))(o6:Sl):∃q6,l1__law_rings [hh,A,CC,.own none ((lasts qv as).map D.int),.own none (F.map rowT),.val (.int s),o6]=some (.nx,[hh,A,CC,.own none ((lasts qv as).map D.int),.own none ((F++(lawR (lasts qv as) s).toList).map rowT),.val (.int s),q6]):=by
 have w:=ac2 h ha;have hp:∀m,0<=itr (lasts qv as) s m/\itr (lasts qv as) s m < ((lasts qv as).length:Int):=fun m=>aem w (adz h sh ha s0 s1) m
 have hm:=w.most;generalize lasts qv as=L at *;obtain⟨T,h1,h2,h3⟩:=avd hp;have e4:=ajg h1 h2 h3;have at2:∀m,atI (L.map D.int) (itr L s m)=some (.int (itr L s (m+1))):=fun m=>by
  rw[aqh L s m (hp m).1];exact yw (hp m).1 (hp m).2
 have loop:=aaw (c:=rz) (g:=xu)
  (fun n ρ=>∃t:Nat,t<=T/\n=T - t/\ρ=[hh,A,CC,.own none (L.map D.int),.own none (F.map rowT),.val (.int s),.own none ((rg L s t).map D.int)])
  (fun ρ=>ρ=[hh,A,CC,.own none (L.map D.int),.own none (F.map rowT),.val (.int s),.own none ((rg L s T).map D.int)])
  ?_ fuel T [hh,A,CC,.own none (L.map D.int),.own none (F.map rowT),.val (.int s),.own none [.int s]] (Nat.lt_trans (show T < 100000 by omega) ag1) ⟨0,by omega,rfl,rfl⟩
 ·obtain⟨ρ',e,rfl⟩:=loop;obtain⟨l,el⟩:=aj3 L s T;have e1:atI ((rg L s T).map D.int) (-1)=some (.int (itr L s T)):=by rw[el];exact anf l _
  have e2:=at2 T;have e3:=aqv (apn L s T);have hcap:(F.map rowT).length < capS:=by rw[List.length_map];unfold capS;omega
  refine⟨.own none ((rg L s T).map D.int),?_⟩;rw[e4]
  by_cases q1:itr L s (T+1)=s
  ·by_cases q2:minI (rg L s T)=s
   ·rw[if_pos ⟨q1,q2⟩];rw[Option.toList_some,List.map_append];have e7:List.map rowT [rg L s T]=[.tup ((rg L s T).map D.int)]:=rfl;rw[e7];generalize minI (rg L s T)=mm at *;generalize itr L s (T+1)=y1 at *;generalize itr L s T=y0 at *;generalize (rg L s T).map D.int=RR at *;generalize L.map D.int=LL at *;generalize F.map rowT=FF at *;simp[l1__law_rings,e,e1,e2,e3,q1,q2,hcap]
   ·rw[if_neg (fun z=>q2 z.2)]
    rw[Option.toList_none,List.append_nil];generalize minI (rg L s T)=mm at *;generalize itr L s (T+1)=y1 at *;generalize itr L s T=y0 at *;generalize (rg L s T).map D.int=RR at *;generalize L.map D.int=LL at *;generalize F.map rowT=FF at *;simp[l1__law_rings,e,e1,e2,e3,q1,q2]
  ·rw[if_neg (fun z=>q1 z.1)]
   rw[Option.toList_none,List.append_nil];generalize itr L s (T+1)=y1 at *;generalize itr L s T=y0 at *;generalize (rg L s T).map D.int=RR at *;generalize L.map D.int=LL at *;generalize F.map rowT=FF at *;simp[l1__law_rings,e,e1,e2,q1]
 ·rintro n ρ ⟨t,t2,rfl,rfl⟩
  obtain⟨l,el⟩:=aj3 L s t;have e1:atI ((rg L s t).map D.int) (-1)=some (.int (itr L s t)):=by rw[el];exact anf l _
  have e2:=at2 t;have e3:=aaj true (itr L s (t+1)) (rg L s t);have p0:=(hp (t+1)).1;rcases Nat.lt_or_ge t T with q | q
  ·have hne:=h3 t q;rw[decide_eq_false hne] at e3;have hcap:((rg L s t).map D.int).length < capS:=by rw[List.length_map,adg];unfold capS;omega
   refine .inr ⟨[hh,A,CC,.own none (L.map D.int),.own none (F.map rowT),.val (.int s),.own none ((rg L s t).map D.int)],[hh,A,CC,.own none (L.map D.int),.own none (F.map rowT),.val (.int s),.own none ((rg L s (t+1)).map D.int)],T - (t+1),?_,?_,by omega,t+1,by omega,rfl,rfl⟩
   ·generalize (rg L s t).map D.int=RR at *;generalize L.map D.int=LL at *;generalize itr L s (t+1)=y at *;generalize F.map rowT=FF at *;simp[rz,e1,e2,e3,p0]
   ·rw[amo,List.map_append];generalize (rg L s t).map D.int=RR at *;generalize L.map D.int=LL at *;generalize F.map rowT=FF at *;simp[xu,e1,e2,hcap]
  ·have:t=T:=by omega
   subst this;rw[decide_eq_true h2] at e3;refine .inl ⟨[hh,A,CC,.own none (L.map D.int),.own none (F.map rowT),.val (.int s),.own none ((rg L s t).map D.int)],?_,rfl⟩;generalize (rg L s t).map D.int=RR at *;generalize L.map D.int=LL at *;generalize itr L s (t+1)=y at *;generalize F.map rowT=FF at *;simp[rz,e1,e2,e3]
include hn hz
theorem ah3:qp [.val (hD qv),.val (.tup (as.map D.int)),.val (.lst (C.map D.int))]=some (.ok (.fr ((abf (C.filterMap (lawR (lasts qv as)))).map rowT)),[.val (hD qv),.val (.tup (as.map D.int)),.val (.lst (C.map D.int))]):=by
 have w:=ac2 h ha;have hC:∀x∈C,x∈ag9 (lp (lasts qv as)):=fun x hx=>adz h sh ha (hr x hx).1 (hr x hx).2
 have loop:∀(xs:List Int) (F:LL9) (o5 o6:Sl),(∀x∈xs,0<=x/\x < (qv.length:Int))->F.length+xs.length<=10->∃q5 q6,forD (du 5) l1__law_rings (xs.map D.int) [.val (hD qv),.val (.tup (as.map D.int)),.val (.lst (C.map D.int)),.own none ((lasts qv as).map D.int),.own none (F.map rowT),o5,o6]=some (.nx,[.val (hD qv),.val (.tup (as.map D.int)),.val (.lst (C.map D.int)),.own none ((lasts qv as).map D.int),.own none ((F++xs.filterMap (lawR (lasts qv as))).map rowT),q5,q6]):=by
  intro xs
  induction xs with
  | nil=>intro F o5 o6 _ _;exact⟨o5,o6,by rw[List.filterMap_nil,List.append_nil];rfl⟩
  | cons x xs ih =>
   intro F o5 o6 hx hl;obtain⟨x0,x1⟩:=hx x (List.mem_cons_self ..);rw[List.length_cons] at hl;obtain⟨p6,e1⟩:=agv h sh ha (.val (hD qv)) (.val (.tup (as.map D.int))) (.val (.lst (C.map D.int))) F (by omega) x0 x1 o6
   have hz2:(lawR (lasts qv as) x).toList.length<=1:=by cases lawR (lasts qv as) x <;> simp
   obtain⟨q5,q6,e2⟩:=ih (F++(lawR (lasts qv as) x).toList) (.val (.int x)) p6 (fun y hy=>hx y (List.mem_cons_of_mem _ hy)) (by rw[List.length_append];omega)
   refine⟨q5,q6,?_⟩;rw[List.map_cons,uf];simp only[ag6,List.set_cons_succ,List.set_cons_zero];rw[e1];have:F++List.filterMap (lawR (lasts qv as)) (x::xs)=F++(lawR (lasts qv as) x).toList++List.filterMap (lawR (lasts qv as)) xs:=by
    rw[List.filterMap_cons,List.append_assoc];cases lawR (lasts qv as) x <;> rfl
   rw[this];exact e2
 obtain⟨q5,q6,e⟩:=loop C [] .emp .emp hr (by simpa using hz)
 rw[List.nil_append] at e;have n1:(C.filterMap (lawR (lasts qv as))).Nodup:=aey hn fun x hx m=>aem w (hC x hx) m
 have es:=agy (rows:=C.filterMap (lawR (lasts qv as))) (by have:=List.length_filterMap_le (lawR (lasts qv as)) C;omega) (fun r hr'=>by
  obtain⟨s,hs,e'⟩:=List.mem_filterMap.mp hr';obtain⟨T,c,_⟩:=agw (fun m=>aem w (hC s hs) m) e'
  rw[c.is];exact apn _ _ _) n1
 have el:=ael h ha;have e:forD (du 5) l1__law_rings (C.map D.int) [.val (hD qv),.val (.tup (as.map D.int)),.val (.lst (C.map D.int)),.own none ((lasts qv as).map D.int),.own none [],.emp,.emp]=some (.nx,[.val (hD qv),.val (.tup (as.map D.int)),.val (.lst (C.map D.int)),.own none ((lasts qv as).map D.int),.own none ((C.filterMap (lawR (lasts qv as))).map rowT),q5,q6]):=e;generalize (abf (C.filterMap (lawR (lasts qv as)))).map rowT=SS at *;generalize (C.filterMap (lawR (lasts qv as))).map rowT=FF at *;generalize (lasts qv as).map D.int=LL at *;generalize C.map D.int=CC at *;generalize as.map D.int=AA at *;generalize hD qv=hh at *;simp[qp,adn,el,e,es]
end
theorem ae1:∀{ns:List Int},(dedI ns).length=ns.length->ns.Nodup
 | [],_=>List.Pairwise.nil
 | x::r,h=>by
  unfold dedI at h;have hle:=ym r;split at h
  ·rw[List.length_cons] at h;omega
  ·rename_i hx;rw[List.length_cons,List.length_cons] at h;exact List.Pairwise.cons (fun a ha e=>hx (List.contains_iff_mem.mpr (e▸ha))) (ae1 (by omega))
theorem amn(x:Int)(r:List Int){i:Nat}(hi:i < r.length+1):(r++[x]).getD i 0=(x::r).getD ((i+1) % (r.length+1)) 0:=by
 rcases Nat.lt_or_ge i r.length with q | q
 ·rw[Nat.mod_eq_of_lt (by omega),List.getD_eq_getElem?_getD,List.getD_eq_getElem?_getD,List.getElem?_append_left q,List.getElem?_cons_succ]
 ·have:i=r.length:=by omega
  subst this;rw[Nat.mod_self,List.getD_eq_getElem?_getD,List.getD_eq_getElem?_getD,List.getElem?_append_right (Nat.le_refl _),Nat.sub_self];rfl
theorem ai1(f:Int->Int)(x:Int)(r:List Int):(∀i,i < r.length+1->f ((x::r).getD i 0)=(x::r).getD ((i+1) % (r.length+1)) 0)↔(x::r).map f=(x::r).drop 1++(x::r).take 1:=by
 show _↔(x::r).map f=r++[x];have hl:((x::r).map f).length=(r++[x]).length:=by simp
 constructor
 ·intro h;refine List.ext_getElem hl fun i h1 h2 =>?_
  have hi:i < r.length+1:=by simpa using h1
  have e:=h i hi;rw[<-amn x r hi] at e;have g1:(x::r).getD i 0=(x::r)[i]'(by simpa using hi):=by rw[List.getD_eq_getElem?_getD,List.getElem?_eq_getElem (by simpa using hi)];rfl
  have g2:(r++[x]).getD i 0=(r++[x])[i]:=by rw[List.getD_eq_getElem?_getD,List.getElem?_eq_getElem h2];rfl
  rw[List.getElem_map,<-g1,<-g2];exact e
 ·intro h i hi;rw[<-amn x r hi,<-h];have g2:((x::r).map f).getD i 0=f ((x::r).getD i 0):=by
   rw[List.getD_eq_getElem?_getD,List.getD_eq_getElem?_getD,List.getElem?_map,List.getElem?_eq_getElem (by simpa using hi)]
   rfl
  exact g2.symm
def inR(n:Nat)(ns:List Int):Bool:=ns.all fun x=>decide (0<=x)&&decide (x<=(n:Int) - 1)
def rgB(qv:LL9)(as ns:List Int):Bool:=inR qv.length ns&&decide ((dedI ns).length=ns.length)&&decide (ns.map (jh qv as)=ns.drop 1++ns.take 1)
def age(qv:LL9)(as:List Int):D->Bool
 | .tup l=>match jd l with
  | some ns=>decide (ns≠[])&&rgB qv as ns
  | none=>false
 | _=>false
theorem aed(qv:LL9)(as ns:List Int):age qv as (.tup (ns.map D.int))=(decide (ns≠[])&&rgB qv as ns):=by
 simp only[age,my]
theorem al6(ns:List Int):(ns.map D.int).all nq=true:=by
 rw[List.all_map,List.all_eq_true];intro x _;rfl
theorem aj2(qv:LL9)(as:List Int){l:List D}(h:l.all nq=false):age qv as (.tup l)=false:=by
 cases e:jd l with
 | none=>simp only[age,e]
 | some ns =>
  rw[qj e,al6] at h;cases h
theorem ajm(n:Nat)(ns:List Int):inR n ns=true↔∀x∈ns,0<=x/\x < (n:Int):=by
 unfold inR;rw[List.all_eq_true];constructor
 ·intro h x hx;have:=h x hx;rw[Bool.and_eq_true,decide_eq_true_eq,decide_eq_true_eq] at this;omega
 ·intro h x hx;have:=h x hx;rw[Bool.and_eq_true,decide_eq_true_eq,decide_eq_true_eq];omega
theorem apo{qv:LL9}{as ns:List Int}(h:qv.length < ns.length):rgB qv as ns=false:=by
 unfold rgB
 by_cases h1:inR qv.length ns=true
 ·by_cases h2:(dedI ns).length=ns.length
  ·have:=ac0 qv.length ns (ae1 h2) ((ajm _ _).mp h1);omega
  ·rw[decide_eq_false h2,Bool.and_false,Bool.false_and]
 ·rw[Bool.not_eq_true] at h1;rw[h1,Bool.false_and,Bool.false_and]
theorem afj(n:Nat)(ns:List Int):(ns.map D.int).all (ir 0 ((n:Int) - 1))=inR n ns:=by
 rw[List.all_map];rfl
theorem aqw{ns:List Int}(h:ns.length < 64):gLS (.tup (ns.map D.int))=some (.v (.int ((dedI ns).length:Int))):=by
 rw[at5,my];simp[h]
def OkR(d:D):Prop:=∀l,d=.tup l->l.length < 64/\okD 30 (.tup l)=true
section
variable{qv:LL9}(h:Hs qv){as:List Int}(ha:Arr qv as)
include h ha
theorem asq(l:List D):compD (du 0) (ret true) ada l [] [.emp,.val (hD qv)]=some (.ok (l.map fun d=>.bl (ir 0 ((qv.length:Int) - 1) d)),acf .emp l::[.val (hD qv)]):=by
 rw[aaq (f:=fun d=>.bl (ir 0 ((qv.length:Int) - 1) d))]
 ·simp
 ·intro d hd;have e:=wy qv d;generalize hD qv=hh at *;simp[ada,e]
theorem asp{x:Int}{r:List Int}(hin:∀y∈x::r,0<=y/\y < (qv.length:Int)):∃o1 o2,compD (bTup 2 (su (du 0) (su (du 1) bNil))) (ret true) aa3 (afh ((x::r).map D.int)) [] [.emp,.emp,.val (.tup ((x::r).map D.int)),.val (.tup ((lasts qv as).map D.int))]=some (.ok (((List.range (r.length+1)).map fun(i:Nat)=>decide (jh qv as ((x::r).getD i 0)=(x::r).getD ((i+1) % (r.length+1)) 0)).map D.bl),[o1,o2,.val (.tup ((x::r).map D.int)),.val (.tup ((lasts qv as).map D.int))]):=by
 have comp:=qu (b:=bTup 2 (su (du 0) (su (du 1) bNil))) (mc:=ret true) (me:=aa3) (fun j ys ρ=>∃o1 o2:Sl,ρ=[o1,o2,.val (.tup ((x::r).map D.int)),.val (.tup ((lasts qv as).map D.int))]/\ys=((List.range j).map fun(i:Nat)=>decide (jh qv as ((x::r).getD i 0)=(x::r).getD ((i+1) % (r.length+1)) 0)).map D.bl)
  (l:=afh ((x::r).map D.int)) (ys:=[]) (ρ:=[.emp,.emp,.val (.tup ((x::r).map D.int)),.val (.tup ((lasts qv as).map D.int))]) 0 ⟨.emp,.emp,rfl,rfl⟩ ?_
 ·obtain⟨ys,ρ',e6,o1,o2,rfl,rfl⟩:=comp;rw[ae0,List.length_map,List.length_cons,Nat.zero_add] at e6;exact⟨o1,o2,e6⟩
 ·rintro j d ys ρ hd ⟨o1,o2,rfl,rfl⟩
  obtain⟨d0,g1,rfl⟩:=aig hd;rw[List.getElem?_map] at g1;obtain⟨y,ey,rfl⟩:=Option.map_eq_some_iff.mp g1;have hj:j < r.length+1:=by simpa using (List.getElem?_eq_some_iff.mp ey).1
  have hy:=hin y (List.mem_of_getElem? ey);have ey2:(x::r).getD j 0=y:=by rw[List.getD_eq_getElem?_getD,ey];rfl
  have e1:=akf (as:=as) hy.1 hy.2;have hm:((j:Int)+1) % ((r.length+1:Nat):Int)=(((j+1) % (r.length+1):Nat):Int):=by
   rw[Int.natCast_emod];rfl
  have hlt:(j+1) % (r.length+1) < r.length+1:=Nat.mod_lt _ (by omega)
  have e2:=yw (ns:=x::r) (k:=(((j+1) % (r.length+1):Nat):Int)) (by omega) (by rw[List.length_cons];omega)
  rw[Int.toNat_natCast] at e2;have e3:fMod ((j:Int)+1) ((r.length:Int)+1)=some (((j+1) % (r.length+1):Nat):Int):=by
   unfold fMod;rw[if_pos (by omega),<-hm]
   rfl
  have hlen:((x::r).map D.int).length=r.length+1:=by simp
  refine⟨[.val (.int (j:Int)),.val (.int y),.val (.tup ((x::r).map D.int)),.val (.tup ((lasts qv as).map D.int))],_,true,by simp,rfl,.inr ⟨rfl,.bl (decide (jh qv as y=(x::r).getD ((j+1) % (r.length+1)) 0)),[.val (.int (j:Int)),.val (.int y),.val (.tup ((x::r).map D.int)),.val (.tup ((lasts qv as).map D.int))],?_,_,_,rfl,?_⟩⟩
  ·generalize (x::r).map D.int=XX at *;generalize (lasts qv as).map D.int=LL at *;generalize (x::r).getD ((j+1) % (r.length+1)) 0=v at *;generalize (((j+1) % (r.length+1):Nat):Int)=q at *;generalize jh qv as y=u at *
   by_cases z:u=v <;> simp[aa3,e1,e2,e3,hlen,z]
  ·rw[Nat.zero_add,List.range_succ,List.map_append,List.map_append,List.map_singleton,List.map_singleton,ey2]
theorem als(d:D)(hd:OkR d):mz [.val (hD qv),.val (.tup ((lasts qv as).map D.int)),.val d]=some (.ok (.v (.bl (age qv as d))),[.val (hD qv),.val (.tup ((lasts qv as).map D.int)),.val d]):=by
 have e1:=u9 d 1 (qv.length:Int);have hl:=vy qv;have hm:=h.most;have no:tupB 1 (qv.length:Int) d=false->age qv as d=false->mz [.val (hD qv),.val (.tup ((lasts qv as).map D.int)),.val d]=some (.ok (.v (.bl (age qv as d))),[.val (hD qv),.val (.tup ((lasts qv as).map D.int)),.val d]):=fun q1 q2=>by
  rw[q1] at e1;rw[q2];generalize (lasts qv as).map D.int=LL at *;simp only[hD] at *;simp[mz,aai,hl,e1]
 cases d with
 | tup l =>
  obtain⟨h64,_⟩:=hd l rfl
  by_cases hlen:1<=l.length/\l.length<=qv.length
  ·have q1:tupB 1 (qv.length:Int) (.tup l)=true:=by
    show(decide ((1:Int)<=(l.length:Int))&&decide ((l.length:Int)<=(qv.length:Int)))=true;rw[decide_eq_true (by omega),decide_eq_true (by omega)]
    rfl
   rw[q1] at e1;have e2:=asq h ha l;have hc:(l.map fun d=>D.bl (ir 0 ((qv.length:Int) - 1) d)).length<=capS:=by rw[List.length_map];exact dj (by omega)
   have hb:=ajv l (ir 0 ((qv.length:Int) - 1));cases hall:(l.map (ir 0 ((qv.length:Int) - 1))).all id with
   | false =>
    have hall':l.all (ir 0 ((qv.length:Int) - 1))=false:=by rw[<-hall,List.all_map];rfl
    have hr:age qv as (.tup l)=false:=by
     cases hwh:l.all nq with
     | false=>exact aj2 qv as hwh
     | true =>
      obtain⟨ns,rfl⟩:=aav hwh;rw[aed];have:inR qv.length ns=false:=by
       rw[<-afj];exact hall'
      unfold rgB;rw[this,Bool.false_and,Bool.false_and,Bool.and_false]
    rw[hr];generalize (l.map fun d=>D.bl (ir 0 ((qv.length:Int) - 1) d))=BB at *
    generalize l.map (ir 0 ((qv.length:Int) - 1))=bs at *;generalize (lasts qv as).map D.int=LL at *;simp only[hD] at *;simp[mz,aai,hl,e1,e2,hc,hb,hall]
   | true =>
    have hall2:∀d∈l,ir 0 ((qv.length:Int) - 1) d=true:=fun d hdm=>by
     rw[List.all_map,List.all_eq_true] at hall;exact hall d hdm
    have hwh:l.all nq=true:=List.all_eq_true.mpr fun d hdm=>by
     have:=hall2 d hdm;cases d with
     | int i=>rfl
     | _=>exact Bool.noConfusion this
    have hall':l.all (ir 0 ((qv.length:Int) - 1))=true:=by rw[<-hall,List.all_map];rfl
    obtain⟨ns,rfl⟩:=aav hwh;have hin:inR qv.length ns=true:=by
     rw[<-afj];exact hall'
    have hin2:=(ajm _ _).mp hin;rw[List.length_map] at h64 hlen;have e3:=aqw h64;rw[aed];have hne:ns≠[]:=fun z=>by rw[z] at hlen;simp at hlen
    rw[decide_eq_true hne,Bool.true_and];unfold rgB;rw[hin,Bool.true_and];have hnl:(ns.map D.int).length=ns.length:=List.length_map ..
    by_cases hdd:(dedI ns).length=ns.length
    ·rw[decide_eq_true hdd,Bool.true_and];obtain⟨x,r,rfl⟩:=List.exists_cons_of_ne_nil hne;obtain⟨o1,o2,e4⟩:=asp h ha hin2;have hri:=ai1 (jh qv as) x r;have hfin:((List.range (r.length+1)).map fun(i:Nat)=>decide (jh qv as ((x::r).getD i 0)=(x::r).getD ((i+1) % (r.length+1)) 0)).all id=decide ((x::r).map (jh qv as)=(x::r).drop 1++(x::r).take 1):=by
      rw[Bool.eq_iff_iff,decide_eq_true_eq,<-hri,List.all_map,List.all_eq_true];constructor
      ·intro g i hi;have:=g i (List.mem_range.mpr hi)
       simpa using this
      ·intro g i hi;have:=g i (List.mem_range.mp hi)
       simpa using this
     have hb2:=xr ((List.range (r.length+1)).map fun(i:Nat)=>decide (jh qv as ((x::r).getD i 0)=(x::r).getD ((i+1) % (r.length+1)) 0))
     have hc2:(((List.range (r.length+1)).map fun(i:Nat)=>decide (jh qv as ((x::r).getD i 0)=(x::r).getD ((i+1) % (r.length+1)) 0)).map D.bl).length<=capS:=by
      rw[List.length_map,List.length_map,List.length_range];rw[List.length_cons] at hlen;exact dj (by omega)
     rw[<-hfin];rw[hdd] at e3;generalize ((List.range (r.length+1)).map fun(i:Nat)=>decide (jh qv as ((x::r).getD i 0)=(x::r).getD ((i+1) % (r.length+1)) 0))=cs at *
     generalize (x::r).length=nn at *;generalize (x::r).map D.int=XX at *;generalize (XX.map fun d=>D.bl (ir 0 ((qv.length:Int) - 1) d))=BB at *
     generalize XX.map (ir 0 ((qv.length:Int) - 1))=bs at *;generalize (lasts qv as).map D.int=LL at *;simp only[hD] at *;have hc3:cs.length<=capS:=by rw[List.length_map] at hc2;exact hc2
     simp[mz,aai,hl,e1,e2,hc,hb,hall,e3,hnl,e4,hc2,hc3,hb2]
    ·rw[decide_eq_false hdd,Bool.false_and];have hdd':¬((dedI ns).length:Int)=(ns.length:Int):=by omega
     generalize ns.length=nn at *;generalize (dedI ns).length=dn at *;generalize ns.map D.int=XX at *;generalize (XX.map fun d=>D.bl (ir 0 ((qv.length:Int) - 1) d))=BB at *
     generalize XX.map (ir 0 ((qv.length:Int) - 1))=bs at *;generalize (lasts qv as).map D.int=LL at *;simp only[hD] at *;simp[mz,aai,hl,e1,e2,hc,hb,hall,e3,hnl,hdd']
  ·refine no ?_ ?_
   ·show(decide ((1:Int)<=(l.length:Int))&&decide ((l.length:Int)<=(qv.length:Int)))=false;rw[Bool.and_eq_false_iff,decide_eq_false_iff_not,decide_eq_false_iff_not];omega
   ·cases hwh:l.all nq with
    | false=>exact aj2 qv as hwh
    | true =>
     obtain⟨ns,rfl⟩:=aav hwh;rw[aed];rw[List.length_map] at hlen
     by_cases hne:ns=[]
     ·rw[decide_eq_false (fun q=>q hne),Bool.false_and]
     ·have:1<=ns.length:=List.length_pos_iff.mpr hne;rw[apo (by omega),Bool.and_false]
 | _=>exact no rfl rfl
end
def isS(s:Str):D->Bool
 | .str t=>decide (t=s)
 | _=>false
theorem akr(x:D)(s:Str):eqD x (.str s)=isS s x:=by
 cases x with
 | str t =>
  show PyData.eqv (.str t) (.str s)=decide (t=s)
  by_cases q:t=s
  ·subst q;rw[decide_eq_true rfl];show(t==t)=true;exact beq_self_eq_true t
  ·rw[decide_eq_false q];show(t==s)=false
   simpa using q
 | _=>rfl
theorem acj{x:D}(hx:okD 30 x=true){s:Str}(hs:okD 30 (.str s)=true):gEq false x (.str s)=some (.v (.bl (isS s x))):=by
 unfold gEq;rw[hx,hs,akr];rfl
theorem aqt{x:D}(hx:okD 30 x=true){s:Str}(hs:okD 30 (.str s)=true):gEq true x (.str s)=some (.v (.bl (!isS s x))):=by
 unfold gEq;rw[hx,hs,akr];rfl
theorem agk:okD 30 (.str "gone")=true:=by kernel_rfl
theorem am2:okD 30 (.str "ring")=true:=by kernel_rfl
noncomputable def ac5(qv:LL9)(k:Int):D->Bool
 | .int i=>decide (i∈afg qv k)
 | _=>false
noncomputable def rwO(qv:LL9)(as:List Int)(k:Int):Option (List Int)->Bool
 | some (x::r)=>rgB qv as (x::r)&&(!decide (k∈x::r)&&decide (x∈xn qv k))
 | _=>false
noncomputable def acv(qv:LL9)(as:List Int)(k:Int):D->Bool
 | .tup l=>rwO qv as k (jd l)
 | _=>false
noncomputable def papB(qv:LL9)(as:List Int)(k:Int):D->Bool
 | .tup [.str s,y]=>if s = "gone" then ac5 qv k y else if s = "ring" then acv qv as k y else false
 | _=>false
structure Pp (d:D):Prop where
 ok:∀l,d=.tup l->okD 30 (.tup l)=true
 two:∀x y l,d=.tup [x,y]->y=.tup l->l.length < 64
theorem Pp.fst{x y:D}(h:Pp (.tup [x,y])):okD 29 x=true/\okD 29 y=true:=by
 have:=h.ok _ rfl;have:(okD 29 x&&(okD 29 y&&true))=true:=this;rw[Bool.and_true,Bool.and_eq_true] at this;exact this
theorem ace:∀(n:Nat) (d:D),okD n d=true->okD (n+1) d=true:=by
 intro n
 induction n with
 | zero=>intro d h;cases d <;> first | exact h | cases h
 | succ n ih =>
  intro d h;cases d with
  | tup l =>
   have h:l.all (okD n)=true:=h;show l.all (okD (n+1))=true;rw[List.all_eq_true] at h ⊢
   exact fun x hx=>ih x (h x hx)
  | lst l =>
   have h:l.all (okD n)=true:=h;show l.all (okD (n+1))=true;rw[List.all_eq_true] at h ⊢
   exact fun x hx=>ih x (h x hx)
  | kst l =>
   have h:l.all (okD n)=true:=h;show l.all (okD (n+1))=true;rw[List.all_eq_true] at h ⊢
   exact fun x hx=>ih x (h x hx)
  | _=>first | exact h | cases h
section
variable{qv:LL9}(h:Hs qv)(sh:Sh qv){as:List Int}(ha:Arr qv as){k:Int}(hk:0<=k/\k < (qv.length:Int))
include h sh ha hk
theorem aga:fj [.val (hD qv),.val (.tup (as.map D.int)),.val (.int k)]=some (.ok (.v .non),[.val (hD qv),.val (.tup (as.map D.int)),.val (.int k)]):=by
 have e1:=aee h ha hk.1 hk.2;have e2:=afb h sh;generalize hD qv=hh at *;simp[fj,nu,e1,e2]
theorem alu(y:D):uh [.val (hD qv),.val (.int k),.val y]=some (.ok (.v (.bl (ac5 qv k y))),[.val (hD qv),.val (.int k),.val y]):=by
 have e1:=wy qv y;have e2:=ah7 h hk;have no:ir 0 ((qv.length:Int) - 1) y=false->ac5 qv k y=false->uh [.val (hD qv),.val (.int k),.val y]=some (.ok (.v (.bl (ac5 qv k y))),[.val (hD qv),.val (.int k),.val y]):=fun q1 q2=>by
  rw[q1] at e1;rw[q2];generalize hD qv=hh at *;simp[uh,aet,e1]
 cases y with
 | int i =>
  by_cases q:0<=i/\i < (qv.length:Int)
  ·have e3:=aaj false i (afg qv k);have q1:ir 0 ((qv.length:Int) - 1) (.int i)=true:=by
    show(decide (0<=i)&&decide (i<=(qv.length:Int) - 1))=true;rw[decide_eq_true q.1,decide_eq_true (by omega)]
    rfl
   rw[q1] at e1;have:ac5 qv k (.int i)=decide (i∈afg qv k):=rfl;rw[this];generalize decide (i∈afg qv k)=bb at *;generalize (afg qv k).map D.int=GG at *;generalize hD qv=hh at *;simp[uh,aet,e1,e2,e3]
  ·refine no ?_ (decide_eq_false fun z =>?_)
   ·show(decide (0<=i)&&decide (i<=(qv.length:Int) - 1))=false;rw[Bool.and_eq_false_iff,decide_eq_false_iff_not,decide_eq_false_iff_not];omega
   ·exact q (xj h hk i (List.mem_filter.mp z).1)
 | _=>exact no rfl rfl
theorem acg(y:D)(hy:OkR y):ik [.val (hD qv),.val (.tup (as.map D.int)),.val (.int k),.val y]=some (.ok (.v (.bl (acv qv as k y))),[.val (hD qv),.val (.tup (as.map D.int)),.val (.int k),.val y]):=by
 have e1:=ah4 h ha;have e2:=als h ha y hy;obtain⟨e3,_⟩:=xm h hk;cases hb:age qv as y with
 | false =>
  rw[hb] at e2;have:acv qv as k y=false:=by
   cases y with
   | tup l =>
    have hb:(match jd l with | some ns=>decide (ns≠[])&&rgB qv as ns | none=>false)=false:=hb
    show rwO qv as k (jd l)=false;cases e:jd l with
    | none=>rfl
    | some ns =>
     rw[e] at hb;cases ns with
     | nil=>rfl
     | cons x r =>
      have hb:(decide (x::r≠[])&&rgB qv as (x::r))=false:=hb;rw[decide_eq_true (by simp),Bool.true_and] at hb
      show(rgB qv as (x::r)&&_)=false;rw[hb,Bool.false_and]
   | _=>rfl
  rw[this];generalize (lasts qv as).map D.int=LL at *;generalize as.map D.int=AA at *;generalize hD qv=hh at *;simp[ik,qe,e1,e2]
 | true =>
  rw[hb] at e2;cases y with
  | tup l =>
   have hb:(match jd l with | some ns=>decide (ns≠[])&&rgB qv as ns | none=>false)=true:=hb
   cases e:jd l with
   | none=>rw[e] at hb;cases hb
   | some ns =>
    rw[e] at hb;cases ns with
    | nil=>cases hb
    | cons x r =>
     have hb:(decide (x::r≠[])&&rgB qv as (x::r))=true:=hb;rw[Bool.and_eq_true] at hb;have hw:acv qv as k (.tup l)=(!decide (k∈x::r)&&decide (x∈xn qv k)):=by
      show rwO qv as k (jd l)=_;rw[e];show(rgB qv as (x::r)&&_)=_;rw[hb.2,Bool.true_and]
     rw[hw];obtain rfl:=qj e;have e4:=ajp true k (x::r);have e5:=ajp false x (xn qv k);have e6:atI ((x::r).map D.int) 0=some (.int x):=by simp[atI,ixN]
     generalize decide (k∈x::r)=b1 at *;generalize decide (x∈xn qv k)=b2 at *;generalize (x::r).map D.int=XX at *;generalize (xn qv k).map D.int=CC at *;generalize (lasts qv as).map D.int=LL at *;generalize as.map D.int=AA at *;generalize hD qv=hh at *;cases b1 <;> simp[ik,qe,e1,e2,e3,e4,e5,e6]
  | _=>cases hb
theorem aqp(d:D)(hd:Pp d):f_why_not_holds [.val (hD qv),.val (.tup (as.map D.int)),.val (.int k),.val d]=some (.ok (.v (.bl (papB qv as k d))),[.val (hD qv),.val (.tup (as.map D.int)),.val (.int k),.val d]):=by
 have e1:=aga h sh ha hk;have e2:=u9 d 2 2;have no:tupB 2 2 d=false->papB qv as k d=false->f_why_not_holds [.val (hD qv),.val (.tup (as.map D.int)),.val (.int k),.val d]=some (.ok (.v (.bl (papB qv as k d))),[.val (hD qv),.val (.tup (as.map D.int)),.val (.int k),.val d]):=fun q1 q2=>by
  rw[q1] at e2;rw[q2];generalize as.map D.int=AA at *;generalize hD qv=hh at *;simp[f_why_not_holds,g_why_not_holds,e1,e2]
 cases d with
 | tup l =>
  match l,hd,e2,no with
  | [],_,_,no=>exact no rfl rfl
  | [z],_,_,no=>exact no rfl (by cases z <;> rfl)
  | z::z1::z2::r,_,_,no =>
   refine no ?_ (by cases z <;> rfl)
   show(decide ((2:Int)<=((r.length+1+1+1:Nat):Int))&&decide (((r.length+1+1+1:Nat):Int)<=2))=false;rw[Bool.and_eq_false_iff,decide_eq_false_iff_not,decide_eq_false_iff_not];omega
  | [x,y],hd,e2,_ =>
   obtain⟨ox,oy⟩:=hd.fst;have ox:=ace _ _ ox;have oy:=ace _ _ oy;have e2:cu [.val (.tup [x,y]),.val (.int 2),.val (.int 2)]=some (.ok (.v (.bl true)),[.val (.tup [x,y]),.val (.int 2),.val (.int 2)]):=e2;have a0:atI [x,y] 0=some x:=rfl;have a1:atI [x,y] 1=some y:=rfl;have g1:=acj ox agk;have g2:=acj ox am2;have hy:OkR y:=fun l' q=>⟨hd.two x y l' rfl q,by rw[<-q];exact oy⟩
   have f1:=alu h sh ha hk y;have f2:=acg h sh ha hk y hy;have no2:isS "gone" x=false->isS "ring" x=false->papB qv as k (.tup [x,y])=false->f_why_not_holds [.val (hD qv),.val (.tup (as.map D.int)),.val (.int k),.val (.tup [x,y])]=some (.ok (.v (.bl (papB qv as k (.tup [x,y])))),[.val (hD qv),.val (.tup (as.map D.int)),.val (.int k),.val (.tup [x,y])]):=fun q1 q2 q3=>by
    rw[q1] at g1;rw[q2] at g2;rw[q3];generalize as.map D.int=AA at *;generalize hD qv=hh at *;simp[f_why_not_holds,g_why_not_holds,e1,e2,a0,g1,g2]
   cases x with
   | str s =>
    by_cases q1:s = "gone"
    ·have hp:papB qv as k (.tup [.str s,y])=ac5 qv k y:=if_pos q1;rw[hp];rw[show isS "gone" (.str s)=true from decide_eq_true q1] at g1
     clear no2
     generalize ac5 qv k y=bb at *;generalize as.map D.int=AA at *;generalize hD qv=hh at *;simp[f_why_not_holds,g_why_not_holds,e1,e2,a0,a1,g1,f1]
    ·by_cases q2:s = "ring"
     ·have hp:papB qv as k (.tup [.str s,y])=acv qv as k y:=by
       show(if s = "gone" then _ else if s = "ring" then _ else _)=_
       rw[if_neg q1,if_pos q2]
      rw[hp];rw[show isS "gone" (.str s)=false from decide_eq_false q1] at g1
      rw[show isS "ring" (.str s)=true from decide_eq_true q2] at g2
      clear no2
      generalize acv qv as k y=bb at *;generalize as.map D.int=AA at *;generalize hD qv=hh at *;simp[f_why_not_holds,g_why_not_holds,e1,e2,a0,a1,g1,g2,f2]
     ·exact no2 (decide_eq_false q1) (decide_eq_false q2) (by
       show(if s = "gone" then _ else if s = "ring" then _ else _)=_
       rw[if_neg q1,if_neg q2])
   | _=>exact no2 rfl rfl rfl
 | _=>exact no rfl rfl
end
theorem aqy(neg:Bool)(a b:List Int):gEq neg (.lst (a.map D.int)) (.lst (b.map D.int))=some (.v (.bl (if neg then !decide (a=b) else decide (a=b)))):=by
 have h1:okD 30 (.lst (a.map D.int))=true:=am3 29 a;have h2:okD 30 (.lst (b.map D.int))=true:=am3 29 b;have h3:eqD (.lst (a.map D.int)) (.lst (b.map D.int))=decide (a=b):=by
  rw[<-akq];exact aob _ _
 simp only[gEq,h1,h2,h3];rfl
theorem aj0(ns:List Int):(setI ns=sortI ns)↔(dedI ns).length=ns.length:=by
 constructor
 ·intro e;have:=congrArg List.length e;unfold setI at this;rw[(sortI_perm _).length_eq,(sortI_perm _).length_eq] at this;exact this
 ·intro e;have nd:=ae1 e;have hp:(dedI ns).Perm ns:=by
   rw[List.perm_ext_iff_of_nodup (tu ns) nd];exact yj ns
  unfold setI;exact adw ((sortI_perm _).trans hp) (uy _)
theorem apm(f:Int->Int)(x:Int)(r:List Int):(∀i,i < r.length+1->f ((x::r).getD ((i+r.length) % (r.length+1)) 0)=(x::r).getD i 0)↔(x::r).map f=(x::r).drop 1++(x::r).take 1:=by
 rw[<-ai1];constructor
 ·intro h i hi;have:=h ((i+1) % (r.length+1)) (Nat.mod_lt _ (by omega))
  rw[Nat.mod_add_mod,show i+1+r.length=i+(r.length+1) by omega,Nat.add_mod_right,Nat.mod_eq_of_lt hi] at this
  exact this
 ·intro h i hi;have:=h ((i+r.length) % (r.length+1)) (Nat.mod_lt _ (by omega))
  rw[Nat.mod_add_mod,show i+r.length+1=i+(r.length+1) by omega,Nat.add_mod_right,Nat.mod_eq_of_lt hi] at this
  exact this
def itB(ns:List Int)(k:Int):D->Bool
 | .int i=>decide (i∈ns) && !decide (i=k)
 | _=>false
section
variable{qv:LL9}(h:Hs qv)(sh:Sh qv){as:List Int}(ha:Arr qv as){k:Int}(hk:0<=k/\k < (qv.length:Int))
include h sh ha hk
omit h sh ha hk in
theorem aw9(ns:List Int)(l:List D):compD (du 0) (ret true) lg l [] [.emp,.own (some 1) (ns.map D.int),.val (.int k)]=some (.ok (l.map fun d=>.bl (itB ns k d)),acf .emp l::[.own (some 1) (ns.map D.int),.val (.int k)]):=by
 rw[aaq (f:=fun d=>.bl (itB ns k d))]
 ·simp
 ·intro d _;cases d with
  | int i =>
   have e:=aaj false i ns;show lg [.val (.int i),.own (some 1) (ns.map D.int),.val (.int k)]=some (.ok (.bl (decide (i∈ns) && !decide (i=k))),_);generalize decide (i∈ns)=bb at *;generalize ns.map D.int=NN at *;cases bb
   ·simp[lg,nq,e]
   ·by_cases q:i=k
    ·subst q;simp[lg,nq,e]
    ·simp[lg,nq,e,q]
  | _=>simp[lg,nq,itB]
omit sh hk in
theorem aw8{x:Int}{r:List Int}(hin:∀y∈x::r,0<=y/\y < (qv.length:Int))(w:D)(hr:r.length < 100):compD (du 0) (ret true) yq (jx 0 (r.length+1)) [] [.emp,.val (.tup [w,.tup ((x::r).map D.int)]),.own (some 2) ((lasts qv as).map D.int)]=some (.ok (((List.range (r.length+1)).map fun i=>decide (jh qv as ((x::r).getD ((i+r.length) % (r.length+1)) 0)=(x::r).getD i 0)).map D.bl),acf .emp (jx 0 (r.length+1))::[.val (.tup [w,.tup ((x::r).map D.int)]),.own (some 2) ((lasts qv as).map D.int)]):=by
 rw[aaq (f:=fun d=>match d with | .int i=>.bl (decide (jh qv as ((x::r).getD ((i.toNat+r.length) % (r.length+1)) 0)=(x::r).getD i.toNat 0)) | _=>.non)]
 ·rw[List.nil_append];unfold jx;rw[List.map_map,List.map_map]
  congr 4
  funext i
  simp
 ·intro d hd;unfold jx at hd;obtain⟨i,hi,rfl⟩:=List.mem_map.mp hd;have hi:=List.mem_range.mp hi;have ei:(0:Int)+(i:Int)=(i:Int):=by omega
  rw[ei];show yq [.val (.int (i:Int)),.val (.tup [w,.tup ((x::r).map D.int)]),.own (some 2) ((lasts qv as).map D.int)]=some (.ok (.bl (decide (jh qv as ((x::r).getD (((i:Int).toNat+r.length) % (r.length+1)) 0)=(x::r).getD (i:Int).toNat 0))),_);rw[Int.toNat_natCast];have hl:((x::r).map D.int).length=r.length+1:=by simp
  have a1:atI [w,.tup ((x::r).map D.int)] 1=some (.tup ((x::r).map D.int)):=rfl;have e1:=yw (ns:=x::r) (k:=(i:Int)) (by omega) (by rw[List.length_cons];omega)
  rw[Int.toNat_natCast] at e1;have hm:(i+r.length) % (r.length+1) < r.length+1:=Nat.mod_lt _ (by omega)
  have e2:atI ((x::r).map D.int) ((i:Int) - 1)=some (.int ((x::r).getD ((i+r.length) % (r.length+1)) 0)):=by
   by_cases z:1<=i
   ·have e:=yw (ns:=x::r) (k:=(i:Int) - 1) (by omega) (by rw[List.length_cons];omega)
    rw[e,show(i+r.length) % (r.length+1)=i - 1 by rw[show i+r.length=(i - 1)+(r.length+1) by omega,Nat.add_mod_right,Nat.mod_eq_of_lt (by omega)],show((i:Int) - 1).toNat=i - 1 by omega]
   ·have z0:i=0:=by omega
    subst z0;have e3:(0+r.length) % (r.length+1)=r.length:=by rw[Nat.zero_add];exact Nat.mod_eq_of_lt (by omega)
    rw[e3];have h3:ixN ((x::r).map D.int).length (((0:Nat):Int) - 1)=some r.length:=by
     unfold ixN;rw[hl];have a1:¬(0<=((0:Nat):Int) - 1):=by omega
     have a2 : -((r.length+1:Nat):Int)<=((0:Nat):Int) - 1:=by omega
     rw[if_neg a1,if_pos a2]
     congr 1
     omega
    unfold atI;rw[h3];have:r.length < (x::r).length:=by simp
    rw[List.getD_eq_getElem?_getD,List.getElem?_eq_getElem this];simp only[Option.bind_some,List.getElem?_map,List.getElem?_eq_getElem this,Option.map_some,Option.getD_some]
  have hy:(x::r).getD ((i+r.length) % (r.length+1)) 0∈x::r:=by
   rw[List.getD_eq_getElem?_getD,List.getElem?_eq_getElem (by rw[List.length_cons];exact hm)]
   exact List.getElem_mem _
  have e4:=akf (as:=as) (hin _ hy).1 (hin _ hy).2;generalize (x::r).getD ((i+r.length) % (r.length+1)) 0=y at *;generalize (x::r).getD i 0=v at *;generalize (x::r).map D.int=XX at *;generalize (lasts qv as).map D.int=LL at *;generalize jh qv as y=u at *
  by_cases q:u=v <;> simp[yq,a1,e1,e2,e4,q]
theorem aq7{x:Int}{r:List Int}(hr:(x::r).map (jh qv as)=(x::r).drop 1++(x::r).take 1)(hx:Rch qv k x)(hin:∀y∈x::r,0<=y/\y < (qv.length:Int)):∀y∈x::r,Rch qv k y:=by
 have hh:=(ai1 (jh qv as) x r).mpr hr;have key:∀i,i < r.length+1->Rch qv k ((x::r).getD i 0):=by
  intro i
  induction i with
  | zero=>intro _;exact hx
  | succ i ih =>
   intro hi;have e:=hh i (by omega)
   rw[Nat.mod_eq_of_lt (by omega)] at e
   have hm:(x::r).getD i 0∈x::r:=by
    rw[List.getD_eq_getElem?_getD,List.getElem?_eq_getElem (by rw[List.length_cons];omega)]
    exact List.getElem_mem _
   rw[<-e];exact .step (ih (by omega)) (hin _ hm).1 (ah5 h sh ha (hin _ hm).1 (hin _ hm).2)
 intro y hy;obtain⟨i,hi,e⟩:=List.mem_iff_getElem.mp hy;have:=key i (by simpa using hi)
 rw[List.getD_eq_getElem?_getD,List.getElem?_eq_getElem hi,e] at this;exact this
theorem arp{ns0:List Int}(hm:∀x,x∈ns0↔Rch qv k x)(x:Int)(r:List Int):rwO qv as k (some (x::r))=((x::r).all (fun i=>decide (i∈ns0) && !decide (i=k))&&(decide ((dedI (x::r)).length=(x::r).length)&&decide ((x::r).map (jh qv as)=(x::r).drop 1++(x::r).take 1))):=by
 have range:∀y,Rch qv k y->0<=y/\y < (qv.length:Int):=fun y hy=>xj h hk y ((u5 h hk sh).mpr hy)
 show(rgB qv as (x::r)&&(!decide (k∈x::r)&&decide (x∈xn qv k)))=_;rw[Bool.eq_iff_iff];unfold rgB;simp only[Bool.and_eq_true,decide_eq_true_eq,Bool.not_eq_true',decide_eq_false_iff_not,List.all_eq_true,ajm];constructor
 ·rintro⟨⟨⟨h1,h2⟩,h3⟩,h4,h5⟩
  have hc:=aq7 h sh ha hk h3 ((u5 h hk sh).mp h5) h1;exact⟨fun y hy=>⟨(hm y).mpr (hc y hy),fun z=>h4 (z▸hy)⟩,h2,h3⟩
 ·rintro⟨h1,h2,h3⟩
  refine⟨⟨⟨fun y hy=>range y ((hm y).mp (h1 y hy).1),h2⟩,h3⟩,fun z=>(h1 k z).2 rfl,(u5 h hk sh).mpr ((hm x).mp (h1 x (List.mem_cons_self ..)).1)⟩
end
theorem at6{l:List D}(h:okD 30 (.tup l)=true):gEq false (.tup l) (.tup [])=some (.v (.bl l.isEmpty)):=by
 have h3:okD 30 (.tup [])=true:=rfl;have h2:eqD (.tup l) (.tup [])=l.isEmpty:=by cases l <;> rfl
 simp only[gEq,h,h2,h3,Bool.and_self,if_true];rfl
theorem ant{ns:List Int}{k:Int}:∀{l:List D},l.all (itB ns k)=true->∃ms:List Int,l=ms.map D.int
 | [],_=>⟨[],rfl⟩
 | d::r,h=>by
  rw[List.all_cons,Bool.and_eq_true] at h;obtain⟨ms,e⟩:=ant h.2;cases d with
  | int x=>exact⟨x::ms,by rw[List.map_cons,e]⟩
  | _=>exact Bool.noConfusion h.1
theorem aut(l:List D)(f:D->Bool):gAll (.lst (l.map fun d=>.bl (f d)))=some (.v (.bl (l.all f))):=by
 have:(l.map fun d=>D.bl (f d))=(l.map f).map D.bl:=by rw[List.map_map];rfl
 rw[this];show(vm ((l.map f).map D.bl)).map _=_;rw[xr];show some (Rv.v (.bl ((l.map f).all id)))=_;rw[List.all_map];rfl
section
variable{qv:LL9}(h:Hs qv)(sh:Sh qv){as:List Int}(ha:Arr qv as){k:Int}(hk:0<=k/\k < (qv.length:Int))
include h sh ha hk
theorem aqr{i:Int}(hi:0<=i/\i < (qv.length:Int)){ns1:List Int}(hm:∀x,x∈ns1↔Rch qv i x)(hr:Rch qv k i):decide (i∈afg qv k) = !decide (k∈ns1):=by
 have e:k∈ns1↔k∈xn qv i:=by rw[hm,u5 h hi sh]
 by_cases q:k∈ns1
 ·rw[decide_eq_true q];exact decide_eq_false fun z=>by
   have:=(List.mem_filter.mp z).2;rw[decide_eq_true (e.mp q)] at this;cases this
 ·rw[decide_eq_false q];exact decide_eq_true (List.mem_filter.mpr ⟨(u5 h hk sh).mpr hr,by rw[decide_eq_false fun z=>q (e.mpr z)];rfl⟩)
theorem aq4{s:Str}(hs:s = "gone")(y:D)(oy:okD 30 y=true):cg [.val (hD qv),.val (.tup (as.map D.int)),.val (.int k),.val (.tup [.str s,y])]=some (.ok (.v (.bl (ac5 qv k y))),[.val (hD qv),.val (.tup (as.map D.int)),.val (.int k),.val (.tup [.str s,y])]):=by
 subst hs;obtain⟨ns0,e0,_,_,_,hm0⟩:=uz h (S:=.val (hD qv)) (.inl rfl) hk;have g1:=acj agk agk;have g1':gEq false (.str "gone") (.str "gone")=some (.v (.bl true)):=g1;have a0:atI [D.str "gone", y] 0=some (.str "gone"):=rfl;have a1:atI [D.str "gone", y] 1=some y:=rfl;have no:nq y=false->ac5 qv k y=false->cg [.val (hD qv),.val (.tup (as.map D.int)),.val (.int k),.val (.tup [.str "gone", y])]=some (.ok (.v (.bl (ac5 qv k y))),[.val (hD qv),.val (.tup (as.map D.int)),.val (.int k),.val (.tup [.str "gone", y])]):=fun q1 q2=>by
  rw[q2];generalize ns0.map D.int=NN at *;generalize as.map D.int=AA at *;generalize hD qv=hh at *;simp[cg,gq,isTy,a0,a1,e0,g1',q1]
 cases y with
 | int i =>
  have e2:=aaj false i ns0
  by_cases q:i∈ns0
  ·have hr:=(hm0 i).mp q;have hi:=xj h hk i ((u5 h hk sh).mpr hr);obtain⟨ns1,e1,_,_,_,hm1⟩:=uz h (S:=.val (hD qv)) (.inl rfl) hi;have e3:=aaj true k ns1;have hb:ac5 qv k (.int i) = !decide (k∈ns1):=aqr h sh ha hk hi hm1 hr;rw[hb];rw[decide_eq_true q] at e2;generalize decide (k∈ns1)=bb at *;generalize ns0.map D.int=NN at *;generalize ns1.map D.int=N1 at *;generalize as.map D.int=AA at *;generalize hD qv=hh at *;simp[cg,gq,isTy,a0,a1,e0,e1,e2,e3,g1',nq]
  ·have hb:ac5 qv k (.int i)=false:=decide_eq_false fun z=>q ((hm0 i).mpr ((u5 h hk sh).mp (List.mem_filter.mp z).1))
   rw[hb];rw[decide_eq_false q] at e2;generalize ns0.map D.int=NN at *;generalize as.map D.int=AA at *;generalize hD qv=hh at *;simp[cg,gq,isTy,a0,a1,e0,e2,g1',nq]
 | _=>exact no rfl rfl
theorem aoe{s:Str}(os:okD 30 (.str s)=true)(h1:s ≠ "gone")(h2:s ≠ "ring")(y:D):cg [.val (hD qv),.val (.tup (as.map D.int)),.val (.int k),.val (.tup [.str s,y])]=some (.ok (.v (.bl false)),[.val (hD qv),.val (.tup (as.map D.int)),.val (.int k),.val (.tup [.str s,y])]):=by
 obtain⟨ns0,e0,_,_,_,hm0⟩:=uz h (S:=.val (hD qv)) (.inl rfl) hk;have g1:=acj os agk;have g2:=aqt os am2;rw[show isS "gone" (.str s)=false from decide_eq_false h1] at g1
 rw[show isS "ring" (.str s)=false from decide_eq_false h2] at g2
 have a0:atI [D.str s,y] 0=some (.str s):=rfl;generalize ns0.map D.int=NN at *;generalize as.map D.int=AA at *;generalize hD qv=hh at *;simp[cg,gq,isTy,a0,e0,g1,g2]
theorem aq3{s:Str}(hs:s = "ring")(y:D)(oy:okD 30 y=true)(hy:∀l,y=.tup l->l.length < 64):cg [.val (hD qv),.val (.tup (as.map D.int)),.val (.int k),.val (.tup [.str s,y])]=some (.ok (.v (.bl (acv qv as k y))),[.val (hD qv),.val (.tup (as.map D.int)),.val (.int k),.val (.tup [.str s,y])]):=by
 subst hs;obtain⟨ns0,e0,_,_,_,hm0⟩:=uz h (S:=.val (hD qv)) (.inl rfl) hk;have g1:gEq false (.str "ring") (.str "gone")=some (.v (.bl false)):=by kernel_rfl
 have g2:gEq true (.str "ring") (.str "ring")=some (.v (.bl false)):=by kernel_rfl
 have a0:atI [D.str "ring", y] 0=some (.str "ring"):=rfl;have a1:atI [D.str "ring", y] 1=some y:=rfl;have no:isTy .tuple y=false->acv qv as k y=false->cg [.val (hD qv),.val (.tup (as.map D.int)),.val (.int k),.val (.tup [.str "ring", y])]=some (.ok (.v (.bl (acv qv as k y))),[.val (hD qv),.val (.tup (as.map D.int)),.val (.int k),.val (.tup [.str "ring", y])]):=fun q1 q2=>by
  rw[q2];generalize ns0.map D.int=NN at *;generalize as.map D.int=AA at *;generalize hD qv=hh at *;have t1:isTy .tuple (.tup [D.str "ring", y])=true:=rfl;have t2:isTy .str (D.str "ring")=true:=rfl;simp[cg,gq,t1,t2,q1,a0,a1,e0,g1,g2]
 cases y with
 | tup l =>
  have hl:=hy l rfl;have en:=at6 oy;cases l with
  | nil =>
   have:acv qv as k (.tup [])=false:=rfl;rw[this];have en:gEq false (.tup []) (.tup [])=some (.v (.bl true)):=en;generalize ns0.map D.int=NN at *;generalize as.map D.int=AA at *;generalize hD qv=hh at *;simp[cg,gq,isTy,a0,a1,e0,g1,g2,en]
  | cons d0 l0 =>
   have en:gEq false (.tup (d0::l0)) (.tup [])=some (.v (.bl false)):=en;have e1:=aw9 (k:=k) ns0 (d0::l0);have ea:=aut (d0::l0) (itB ns0 k);have hc:((d0::l0).map fun d=>D.bl (itB ns0 k d)).length<=capS:=by rw[List.length_map];exact dj (by omega)
   cases hall:(d0::l0).all (itB ns0 k) with
   | false =>
    rw[hall] at ea;have hw:acv qv as k (.tup (d0::l0))=false:=by
     show rwO qv as k (jd (d0::l0))=false;cases e:jd (d0::l0) with
     | none=>rfl
     | some ms =>
      cases ms with
      | nil=>rfl
      | cons x r =>
       rw[arp h sh ha hk hm0,Bool.and_eq_false_iff]
       left
       rw[qj e,List.all_map] at hall;exact hall
    rw[hw];generalize ((d0::l0).map fun d=>D.bl (itB ns0 k d))=BB at *
    generalize d0::l0=LL at *;generalize ns0.map D.int=NN at *;generalize as.map D.int=AA at *;generalize hD qv=hh at *;simp[cg,gq,isTy,a0,a1,e0,g1,g2,en,e1,hc,ea]
   | true =>
    rw[hall] at ea;obtain⟨ms,em⟩:=ant hall;cases ms with
    | nil=>cases em
    | cons x r =>
     rw[em] at hall hl en e1 ea hc a0 a1 oy ⊢
     have hall':(x::r).all (fun i=>decide (i∈ns0) && !decide (i=k))=true:=by rw[List.all_map] at hall;exact hall
     have hin:∀y∈x::r,0<=y/\y < (qv.length:Int):=fun y hy=>by
      rw[List.all_eq_true] at hall';have:=hall' y hy;rw[Bool.and_eq_true,decide_eq_true_eq] at this;exact xj h hk y ((u5 h hk sh).mpr ((hm0 y).mp this.1))
     have hw:acv qv as k (.tup ((x::r).map D.int))=(decide ((dedI (x::r)).length=(x::r).length)&&decide ((x::r).map (jh qv as)=(x::r).drop 1++(x::r).take 1)):=by
      show rwO qv as k (jd ((x::r).map D.int))=_;rw[my,arp h sh ha hk hm0,hall',Bool.true_and]
     rw[hw];have el:=ael h ha;have h64:(x::r).length < 64:=by rw[List.length_map] at hl;exact hl
     have s1:=aic (ns:=x::r) h64;have s2:=aib (ns:=x::r) h64;have s3:=aqy true (setI (x::r)) (sortI (x::r));have s3':decide (setI (x::r)=sortI (x::r))=decide ((dedI (x::r)).length=(x::r).length):=by
      by_cases q:setI (x::r)=sortI (x::r)
      ·rw[decide_eq_true q,decide_eq_true ((aj0 _).mp q)]
      ·rw[decide_eq_false q,decide_eq_false fun z=>q ((aj0 _).mpr z)]
     rw[s3'] at s3;have h64':r.length+1 < 64:=by simpa using h64
     have e2:=aw8 h ha hin (.str "ring") (by omega)
     have hb:((List.range (r.length+1)).map fun i=>decide (jh qv as ((x::r).getD ((i+r.length) % (r.length+1)) 0)=(x::r).getD i 0)).all id=decide ((x::r).map (jh qv as)=(x::r).drop 1++(x::r).take 1):=by
      rw[Bool.eq_iff_iff,decide_eq_true_eq,<-apm,List.all_map,List.all_eq_true];constructor
      ·intro z i hi;have:=z i (List.mem_range.mpr hi)
       simpa using this
      ·intro z i hi;have:=z i (List.mem_range.mp hi)
       simpa using this
     have hc2:(((List.range (r.length+1)).map fun i=>decide (jh qv as ((x::r).getD ((i+r.length) % (r.length+1)) 0)=(x::r).getD i 0)).map D.bl).length<=capS:=by
      rw[List.length_map,List.length_map,List.length_range];exact dj (by omega)
     have ea2:gAll (.lst (((List.range (r.length+1)).map fun i=>decide (jh qv as ((x::r).getD ((i+r.length) % (r.length+1)) 0)=(x::r).getD i 0)).map D.bl))=some (.v (.bl (decide ((x::r).map (jh qv as)=(x::r).drop 1++(x::r).take 1)))):=by
      rw[<-hb];show(vm _).map _=_;rw[xr];rfl
     have hlen:((x::r).map D.int).length=r.length+1:=by simp
     have hrg:yp [.int ((r.length:Int)+1)]=some (jx 0 (r.length+1)):=by
      rw[ajo,if_pos (by omega),show((r.length:Int)+1).toNat=r.length+1 by omega]
     generalize (((List.range (r.length+1)).map fun i=>decide (jh qv as ((x::r).getD ((i+r.length) % (r.length+1)) 0)=(x::r).getD i 0)).map D.bl)=B2 at *
     generalize decide ((x::r).map (jh qv as)=(x::r).drop 1++(x::r).take 1)=b2 at *;generalize decide ((dedI (x::r)).length=(x::r).length)=b1 at *;generalize (setI (x::r)).map D.int=SI at *;generalize (sortI (x::r)).map D.int=SO at *;generalize (((x::r).map D.int).map fun d=>D.bl (itB ns0 k d))=BB at *
     generalize (x::r).map D.int=XX at *;generalize (lasts qv as).map D.int=LL at *;generalize jx 0 (r.length+1)=RR at *;generalize ns0.map D.int=NN at *;generalize as.map D.int=AA at *;generalize hD qv=hh at *;cases b1 <;> simp[cg,gq,isTy,a0,a1,e0,g1,g2,en,e1,hc,ea,el,s1,s2,s3,hlen,hrg,e2,hc2,ea2]
 | _=>exact no rfl rfl
theorem alq(d:D)(hd:Pp d):cg [.val (hD qv),.val (.tup (as.map D.int)),.val (.int k),.val d]=some (.ok (.v (.bl (papB qv as k d))),[.val (hD qv),.val (.tup (as.map D.int)),.val (.int k),.val d]):=by
 cases d with
 | tup l =>
  match l,hd with
  | [],_ =>
   show _=some (Out.ok (Rv.v (.bl false)),_);generalize as.map D.int=AA at *;generalize hD qv=hh at *;simp[cg,gq,isTy]
  | [z],_ =>
   have:papB qv as k (.tup [z])=false:=by cases z <;> rfl
   rw[this];generalize as.map D.int=AA at *;generalize hD qv=hh at *;simp[cg,gq,isTy]
  | z::z1::z2::r,_ =>
   have:papB qv as k (.tup (z::z1::z2::r))=false:=by cases z <;> rfl
   rw[this];have hne:¬((r.length:Int)+1+1+1=2):=by omega
   generalize as.map D.int=AA at *;generalize hD qv=hh at *;simp[cg,gq,isTy,hne]
  | [x,y],hd =>
   obtain⟨ox,oy⟩:=hd.fst;have ox:=ace _ _ ox;have oy:=ace _ _ oy;cases x with
   | str s =>
    by_cases q1:s = "gone"
    ·have hp:papB qv as k (.tup [.str s,y])=ac5 qv k y:=if_pos q1;rw[hp];exact aq4 h sh ha hk q1 y oy
    ·by_cases q2:s = "ring"
     ·have hp:papB qv as k (.tup [.str s,y])=acv qv as k y:=by
       show(if s = "gone" then _ else if s = "ring" then _ else _)=_
       rw[if_neg q1,if_pos q2]
      rw[hp];exact aq3 h sh ha hk q2 y oy fun l' q=>hd.two _ y l' rfl q
     ·have hp:papB qv as k (.tup [.str s,y])=false:=by
       show(if s = "gone" then _ else if s = "ring" then _ else _)=_
       rw[if_neg q1,if_neg q2]
      rw[hp];exact aoe h sh ha hk ox q1 q2 y
   | _ =>
    show _=some (Out.ok (Rv.v (.bl false)),_);have a0:∀z:D,atI [z,y] 0=some z:=fun _=>rfl
    generalize as.map D.int=AA at *;generalize hD qv=hh at *;simp[cg,gq,isTy,a0]
 | _ =>
  show _=some (Out.ok (Rv.v (.bl false)),_);generalize as.map D.int=AA at *;generalize hD qv=hh at *;simp[cg,gq,isTy]
end
theorem au7{x y:Str}(h1:PyData.strOk x=true)(h2:PyData.strOk y=true):PyData.strOk (x++y)=true:=by
 have e:(x++y).cps=x.cps++y.cps:=rfl;unfold PyData.strOk at *;rw[e,Array.all_append,h1,h2];rfl
theorem au6(s:String):PyData.strOk (Str.ofString s)=true:=by
 unfold PyData.strOk;rw[Str.ofString_eq_toList];simp only[List.all_toArray',List.all_eq_true,List.mem_map,decide_eq_true_eq]
 rintro n ⟨c,_,rfl⟩
 have h1:c.toNat=c.val.toNat:=rfl;have h2:c.val.toNat.isValidChar:=c.valid;rw[h1];rcases h2 with h | h <;> omega
structure Sx (n:Nat) (x:Str):Prop where
 ok:PyData.strOk x=true
 len:x.length<=n
theorem Sx.app{n m:Nat}{x y:Str}(h1:Sx n x)(h2:Sx m y):Sx (n+m) (x++y):=⟨au7 h1.ok h2.ok,by rw[strLen_append];exact Nat.add_le_add h1.len h2.len⟩
theorem Sx.mono{n m:Nat}{x:Str}(h:Sx n x)(e:n<=m):Sx m x:=⟨h.ok,Nat.le_trans h.len e⟩
theorem amd(b:Nat):∀(ts:List Str) (k n:Nat) (acc:Str),Sx n acc->(∀t∈ts,Sx b t)->Sx (n+(b+2)*ts.length) (textFrom k acc ts)
 | [],k,n,acc,h,_=>h
 | t::r,k,n,acc,h,hr=>by
  have h1:Sx 2 (((if k > 0 then ",\x20" else "" : String)):Str):=by
   split
   ·exact⟨by decide +kernel,by decide +kernel⟩
   ·exact⟨by decide +kernel,by decide +kernel⟩
  have:=amd b r (k+1) (n+2+b) _ ((h.app h1).app (hr t List.mem_cons_self)) fun t h=>hr t (List.mem_cons_of_mem _ h)
  exact this.mono (by rw[List.length_cons,Nat.mul_succ];omega)
theorem amc(b:Nat):∀(ts:List Str),(∀t∈ts,Sx b t)->Sx ((b+2)*ts.length) (Str.join ",\x20" ts)
 | [],_=>⟨by decide +kernel,by simp[show(Str.join ",\x20" ([]:List Str)).length=0 by decide +kernel]⟩
 | [x],h=>(h x (by simp)).mono (by simp)
 | x::y::r,h=>by
  have:=amc b (y::r) fun t h'=>h t (List.mem_cons_of_mem _ h')
  exact(((h x (by simp)).app (m:=2) (y:=((",\x20" : String):Str)) ⟨by decide +kernel,by decide +kernel⟩).app this).mono (by simp only[List.length_cons,Nat.mul_succ];omega)
structure It (k m:Nat) (d:D):Prop where
 ok:okD k d=true
 sb:(toPy d).showable=true
 sx:Sx m (toPy d).shown
theorem art(d:D){n:Nat}(h:okD n d=true):∀j,okD (n+j) d=true
 | 0=>h
 | j+1=>ace _ _ (art d h j)
theorem It.mono{k m k' m':Nat}{d:D}(h:It k m d)(e1:k<=k')(e2:m<=m'):It k' m' d :=
 ⟨by have:=art d h.ok (k' - k);rwa[show k+(k' - k)=k' by omega] at this,h.sb,h.sx.mono e2⟩
theorem anm{k m:Nat}:∀(l:List D),(∀d∈l,It k m d)->l.all (okD k)=true/\PyData.showableAll (uv l)=true/\(∀t∈PyData.shownAll (uv l),Sx m t)/\(PyData.shownAll (uv l)).length=l.length
 | [],_=>⟨rfl,rfl,by simp[uv,PyData.shownAll],rfl⟩
 | d::r,h=>by
  obtain⟨a,b,c,e⟩:=anm r fun d hd=>h d (List.mem_cons_of_mem _ hd)
  have q:=h d List.mem_cons_self;refine⟨by rw[List.all_cons,q.ok,a];rfl,?_,?_,?_⟩
  ·show((toPy d).showable&&PyData.showableAll (uv r))=true;rw[q.sb,b];rfl
  ·show ∀t∈(toPy d).shown::PyData.shownAll (uv r),Sx m t
   intro t ht;rcases List.mem_cons.mp ht with rfl | ht
   ·exact q.sx
   ·exact c t ht
  ·show((toPy d).shown::PyData.shownAll (uv r)).length=_;rw[List.length_cons,e,List.length_cons]
theorem afs{k m c:Nat}{l:List D}(h:∀d∈l,It k m d)(hl:l.length<=c):It (k+1) ((m+2)*c+3) (.lst l):=by
 obtain⟨a,b,q,e⟩:=anm l h;have s:=(amd m (PyData.shownAll (uv l)) 0 1 "[" ⟨by decide +kernel,by decide +kernel⟩ q).app (m:=1) (y:=(("]" : String):Str)) ⟨by decide +kernel,by decide +kernel⟩
 have hle:(m+2)*l.length<=(m+2)*c:=Nat.mul_le_mul_left _ hl;exact⟨a,b,(show Sx _ (toPy (.lst l)).shown from s).mono (by rw[e];omega)⟩
theorem j9{k m c:Nat}{l:List D}(h:∀d∈l,It k m d)(hl:l.length<=c):It (k+1) ((m+2)*c+3) (.tup l):=by
 obtain⟨a,b,q,e⟩:=anm l h;have hz:Sx 2 (((if (PyData.shownAll (uv l)).length==1 then ",)" else ")" : String)):Str):=by
  split
  ·exact⟨by decide +kernel,by decide +kernel⟩
  ·exact⟨by decide +kernel,by decide +kernel⟩
 have s:=((Sx.mk (n:=1) (x:=(("(" : String):Str)) (by decide +kernel) (by decide +kernel)).app (amc m _ q)).app hz
 have hle:(m+2)*l.length<=(m+2)*c:=Nat.mul_le_mul_left _ hl;exact⟨a,b,(show Sx _ (toPy (.tup l)).shown from s).mono (by rw[e];omega)⟩
theorem aah{i:Int}(h0 : -20<=i)(h1:i<=20):It 1 10 (.int i):=by
 have key:∀j:Fin 41,((toString ((j.val:Int) - 20):String):Str).length<=10/\(((j.val:Int) - 20).natAbs.log2 < 1920):=by decide +kernel
 have e:(((⟨(i+20).toNat,by omega⟩:Fin 41).val:Int) - 20)=i:=by
  show(((i+20).toNat:Nat):Int) - 20=i;omega
 have k:=key ⟨(i+20).toNat,by omega⟩
 rw[e] at k;exact⟨rfl,decide_eq_true k.2,au6 _,k.1⟩
theorem anq{ns:List Int}(h:∀x∈ns,-20<=x/\x<=20):∀d∈ns.map D.int,It 1 10 d:=fun d hd=>by
 obtain⟨x,hx,rfl⟩:=List.mem_map.mp hd;exact aah (h x hx).1 (h x hx).2
structure Hd (d:D):Prop where
 pp:Pp d
 rp:∃x,gRepr d=some (.v (.str x))/\PyData.strOk x=true
theorem asr{m:Nat}{d:D}(h:It 30 m d)(hm:m<=1000000):∃x,gRepr d=some (.v (.str x))/\PyData.strOk x=true:=by
 have e:gRepr d=apj d:=by
  have:=h.ok;cases d <;> first | rfl | cases this
 refine⟨(toPy d).shown,?_,h.sx.ok⟩;rw[e];unfold apj;rw[if_pos];rw[Bool.and_eq_true,Bool.and_eq_true,decide_eq_true_eq];exact⟨⟨h.ok,h.sb⟩,Nat.le_trans h.sx.len (by unfold capS;omega)⟩
theorem anz{m:Nat}{d:D}(h:It 30 m d)(hm:m<=1000000)(two:∀x y l,d=.tup [x,y]->y=.tup l->l.length < 64):Hd d :=
 ⟨⟨fun l q=>by rw[<-q];exact h.ok,two⟩,asr h hm⟩
theorem kh{x y:D}(hx:It 25 5000 x)(hy:It 25 5000 y)(hl:∀l,y=.tup l->l.length < 64):Hd (.tup [x,y]) :=
 anz ((j9 (c:=2) (l:=[x,y]) (fun d hd=>by
  simp only[List.mem_cons,List.not_mem_nil,or_false] at hd;rcases hd with rfl | rfl
  ·exact hx
  ·exact hy) (by simp)).mono (by omega) (Nat.le_refl _)) (by omega) fun x' y' l e q=>by
   have e:=D.tup.inj e;simp only[List.cons.injEq,and_true] at e;exact hl l (e.2.trans q)
theorem it_s{s:Str}(h1:okD 1 (.str s)=true)(h2:(toPy (.str s)).showable=true)(h3:PyData.strOk (toPy (.str s)).shown=true)(h4:(toPy (.str s)).shown.length<=10):It 1 10 (.str s):=⟨h1,h2,h3,h4⟩
theorem ajj:It 1 10 (.str "gone"):=it_s (by kernel_rfl) (by kernel_rfl) (by decide +kernel) (by decide +kernel)
theorem aji:It 1 10 (.str "ring"):=it_s (by kernel_rfl) (by kernel_rfl) (by decide +kernel) (by decide +kernel)
theorem aql:It 1 10 (.str "rings"):=it_s (by kernel_rfl) (by kernel_rfl) (by decide +kernel) (by decide +kernel)
theorem it_0:It 1 10 (.str "0"):=it_s (by kernel_rfl) (by kernel_rfl) (by decide +kernel) (by decide +kernel)
theorem it_1:It 1 10 (.str "1"):=it_s (by kernel_rfl) (by kernel_rfl) (by decide +kernel) (by decide +kernel)
theorem it_e:It 1 10 (.str ""):=it_s (by kernel_rfl) (by kernel_rfl) (by decide +kernel) (by decide +kernel)
theorem azt:It 1 10 (.str "ab"):=it_s (by kernel_rfl) (by kernel_rfl) (by decide +kernel) (by decide +kernel)
theorem aqm(b:Bool):It 1 10 (.bl b):=by cases b <;> exact⟨rfl,rfl,by decide +kernel,by decide +kernel⟩
theorem anr:It 1 10 .non:=⟨rfl,rfl,by decide +kernel,by decide +kernel⟩
theorem za{k m:Nat}{d:D}(h:It k m d):∀x∈[d],It k m x:=fun x hx=>by
 rw[List.mem_singleton] at hx;rw[hx];exact h
theorem awd(P:Int×Int):∃d P',f__law_odd [.own (some 0) (pen P)]=some (.ok (.v d),[.own (some 0) (pen P')])/\Hd d:=by
 obtain⟨r,P',e,h0,h1⟩:=gm P 16 (by decide) (by decide)
 have big:fPow 10 30=some 1000000000000000000000000000000:=by decide +kernel
 have z0:It 1 10 (.int 0):=aah (by decide) (by decide)
 have t0:It 2 100 (.tup [.int 0]):=(j9 (c:=1) (za z0) (by simp)).mono (by omega) (by omega)
 have hT:∃d,atI [.non,.bl true,.bl false,.int (-1),.str "1", .str "", .tup [],.lst [],.tup [.int 0],.lst [.int 0],.dct [(Sum.inr "a", .int 1)],.tup [.int 0,.int 1],.int 1000000000000000000000000000000,.tup [.tup [.int 0]],.str "ab", .tup [.tup [.int (-1)],.tup [.int 0,.int 1]]] r=some d/\Hd d:=by
  have:r=0∨r=1∨r=2∨r=3∨r=4∨r=5∨r=6∨r=7∨r=8∨r=9∨r=10∨r=11∨r=12∨r=13∨r=14∨r=15:=by omega
  have no:∀{d:D} {m:Nat},It 30 m d->m<=1000000->(∀x y,d≠.tup [x,y])->Hd d:=fun h hm q=>anz h hm fun x y l e=>absurd e (q x y)
  rcases this with rfl | rfl | rfl | rfl | rfl | rfl | rfl | rfl | rfl | rfl | rfl | rfl | rfl | rfl | rfl | rfl
  ·exact⟨_,rfl,no (anr.mono (by omega) (Nat.le_refl _)) (by omega) fun x y q=>by cases q⟩
  ·exact⟨_,rfl,no ((aqm true).mono (by omega) (Nat.le_refl _)) (by omega) fun x y q=>by cases q⟩
  ·exact⟨_,rfl,no ((aqm false).mono (by omega) (Nat.le_refl _)) (by omega) fun x y q=>by cases q⟩
  ·exact⟨_,rfl,no ((aah (i := -1) (by decide) (by decide)).mono (by omega) (Nat.le_refl _)) (by omega) fun x y q=>by cases q⟩
  ·exact⟨_,rfl,no (it_1.mono (by omega) (Nat.le_refl _)) (by omega) fun x y q=>by cases q⟩
  ·exact⟨_,rfl,no (it_e.mono (by omega) (Nat.le_refl _)) (by omega) fun x y q=>by cases q⟩
  ·exact⟨_,rfl,no ((j9 (k:=1) (m:=10) (c:=1) (l:=[]) (fun d hd=>by cases hd) (by simp)).mono (by omega) (Nat.le_refl _)) (by omega) fun x y q=>by cases q⟩
  ·exact⟨_,rfl,no ((afs (k:=1) (m:=10) (c:=1) (l:=[]) (fun d hd=>by cases hd) (by simp)).mono (by omega) (Nat.le_refl _)) (by omega) fun x y q=>by cases q⟩
  ·exact⟨_,rfl,no (t0.mono (by omega) (Nat.le_refl _)) (by omega) fun x y q=>by cases q⟩
  ·exact⟨_,rfl,no ((afs (c:=1) (za z0) (by simp)).mono (by omega) (Nat.le_refl _)) (by omega) fun x y q=>by cases q⟩
  ·exact⟨_,rfl,⟨⟨fun l q=>(by cases q),fun x y l q=>(by cases q)⟩,⟨(PyData.dict [(.str "a", .int 1)]).shown,if_pos (by decide +kernel),by decide +kernel⟩⟩⟩
  ·exact⟨_,rfl,kh (z0.mono (by omega) (by omega)) ((aah (i:=1) (by decide) (by decide)).mono (by omega) (by omega)) fun l q=>by cases q⟩
  ·exact⟨_,rfl,no (d:=.int 1000000000000000000000000000000) (m:=100) ⟨rfl,by decide +kernel,au6 _,by decide +kernel⟩ (by omega) fun x y q=>by cases q⟩
  ·exact⟨_,rfl,no ((j9 (c:=1) (za t0) (by simp)).mono (by omega) (Nat.le_refl _)) (by omega) fun x y q=>by cases q⟩
  ·exact⟨_,rfl,no (azt.mono (by omega) (Nat.le_refl _)) (by omega) fun x y q=>by cases q⟩
  ·refine⟨_,rfl,kh ((j9 (c:=1) (za (aah (i := -1) (by decide) (by decide))) (by simp)).mono (by omega) (by omega)) ((j9 (c:=2) (l:=[.int 0,.int 1]) (anq (ns:=[0,1]) (by decide)) (by simp)).mono (by omega) (by omega)) fun l q =>?_⟩
   cases q
   decide
 obtain⟨T,eT,t⟩:=hT;have hc:(16:Nat)<=capS:=by decide
 exact⟨T,P',by simp[f__law_odd,afw,e,big,eT,hc],t⟩
inductive Pap (n:Nat):D->D->Prop
 | gone {i:Int}:0<=i->i < (n:Int)->Pap n (.str "gone") (.int i)
 | ring {ns:List Int}:ns.length<=10->(∀x∈ns,0<=x/\x < (n:Int))->Pap n (.str "ring") (.tup (ns.map D.int))
theorem Pap.it{n:Nat}(hn:n<=10){w m:D}(h:Pap n w m):It 1 10 w/\It 2 200 m/\(∀l,m=.tup l->l.length<=10/\∀d∈l,It 1 10 d):=by
 cases h with
 | gone h0 h1=>exact⟨ajj,(aah (by omega) (by omega)).mono (by omega) (by omega),fun l q=>by cases q⟩
 | ring hl hx =>
  have hi:=anq fun x hx'=>by have:=hx x hx';exact(⟨by omega,by omega⟩ : -20<=x/\x<=20)
  refine⟨aji,(j9 hi (by rw[List.length_map];exact hl)).mono (by omega) (by omega),fun l q =>?_⟩
  cases q;exact⟨by rw[List.length_map];exact hl,hi⟩
theorem Pap.hd{n:Nat}(hn:n<=10){w m:D}(h:Pap n w m):Hd (.tup [w,m]):=by
 obtain⟨a,b,c⟩:=h.it hn;exact kh (a.mono (by omega) (by omega)) (b.mono (by omega) (by omega)) fun l q=>by have:=(c l q).1;omega
theorem auo(P:Int×Int){qv:LL9}(h:Hs qv){w m:D}(hp:Pap qv.length w m):∃d P',f__law_bent [.own (some 0) (pen P),.val (hD qv),.val (.tup [w,m])]=some (.ok (.v d),[.own (some 0) (pen P'),.val (hD qv),.val (.tup [w,m])])/\Hd d:=by
 have hm:=h.most;have hl:=vy qv;obtain⟨iw,im,il⟩:=hp.it hm;obtain⟨r1,P1,e1,r1a,r1b⟩:=gm P 11 (by decide) (by decide)
 have z0:It 1 10 (.int 0):=aah (by decide) (by decide)
 have t0:It 2 30 (.tup [.int 0]):=(j9 (c:=1) (za z0) (by simp)).mono (by omega) (by omega)
 have ho:∃odd,atI [.int (-1),.int (qv.length:Int),.bl true,.non,.str "0", .lst [.int 0],.tup [.int 0],.bl false,.int 0,.tup [],.tup [.tup [.int 0]]] r1=some odd/\It 4 100 odd/\∀l,odd=.tup l->l.length < 64:=by
  have:r1=0∨r1=1∨r1=2∨r1=3∨r1=4∨r1=5∨r1=6∨r1=7∨r1=8∨r1=9∨r1=10:=by omega
  rcases this with rfl | rfl | rfl | rfl | rfl | rfl | rfl | rfl | rfl | rfl | rfl
  ·exact⟨_,rfl,(aah (by decide) (by decide)).mono (by omega) (by omega),fun l q=>by cases q⟩
  ·exact⟨_,rfl,(aah (by omega) (by omega)).mono (by omega) (by omega),fun l q=>by cases q⟩
  ·exact⟨_,rfl,(aqm true).mono (by omega) (by omega),fun l q=>by cases q⟩
  ·exact⟨_,rfl,anr.mono (by omega) (by omega),fun l q=>by cases q⟩
  ·exact⟨_,rfl,it_0.mono (by omega) (by omega),fun l q=>by cases q⟩
  ·exact⟨_,rfl,(afs (c:=1) (za z0) (by simp)).mono (by omega) (by omega),fun l q=>by cases q⟩
  ·exact⟨_,rfl,t0.mono (by omega) (by omega),fun l q=>by cases q;decide⟩
  ·exact⟨_,rfl,(aqm false).mono (by omega) (by omega),fun l q=>by cases q⟩
  ·exact⟨_,rfl,z0.mono (by omega) (by omega),fun l q=>by cases q⟩
  ·exact⟨_,rfl,(j9 (k:=1) (m:=10) (c:=1) (l:=[]) (fun d hd=>by cases hd) (by simp)).mono (by omega) (by omega),fun l q=>by cases q;decide⟩
  ·exact⟨_,rfl,(j9 (c:=1) (za t0) (by simp)).mono (by omega) (by omega),fun l q=>by cases q;decide⟩
 obtain⟨odd,eo,io,lo⟩:=ho;have W:=iw.mono (k':=25) (m':=5000) (by omega) (by omega)
 have Mm:=im.mono (k':=25) (m':=5000) (by omega) (by omega)
 have Ml:∀l,m=.tup l->l.length < 64:=fun l q=>by have:=(il l q).1;omega
 have no:∀{d:D} {b:Nat},It 30 b d->b<=1000000->(∀x y,d≠.tup [x,y])->Hd d:=fun h hm q=>anz h hm fun x y l e=>absurd e (q x y)
 have wm:∀d∈[w,m],It 2 200 d:=fun d hd=>by
  simp only[List.mem_cons,List.not_mem_nil,or_false] at hd;rcases hd with rfl | rfl
  ·exact iw.mono (by omega) (by omega)
  ·exact im
 have all11:∀d∈[D.tup [.str "rings", m],.tup [w,odd],.lst [w,m],.tup [w],.tup [w,m,.int 0],.tup [m,w],m,.tup [.str "gone", m],.tup [.str "ring", m],.tup [w,.tup [m]],.tup [w,.lst [m]]],Hd d:=fun d hd=>by
  simp only[List.mem_cons,List.not_mem_nil,or_false] at hd;rcases hd with rfl | rfl | rfl | rfl | rfl | rfl | rfl | rfl | rfl | rfl | rfl
  ·exact kh (aql.mono (by omega) (by omega)) Mm Ml
  ·exact kh W (io.mono (by omega) (by omega)) lo
  ·exact no ((afs (c:=2) wm (by simp)).mono (by omega) (Nat.le_refl _)) (by omega) fun x y q=>by cases q
  ·exact no ((j9 (c:=1) (za iw) (by simp)).mono (by omega) (Nat.le_refl _)) (by omega) fun x y q=>by cases q
  ·exact no ((j9 (k:=2) (m:=200) (c:=3) (l:=[w,m,.int 0]) (fun d hd=>by
    simp only[List.mem_cons,List.not_mem_nil,or_false] at hd;rcases hd with rfl | rfl | rfl
    ·exact iw.mono (by omega) (by omega)
    ·exact im
    ·exact z0.mono (by omega) (by omega)) (by simp)).mono (by omega) (Nat.le_refl _)) (by omega) fun x y q=>by cases q
  ·exact kh Mm W fun l q=>by cases hp <;> cases q
  ·refine anz (im.mono (by omega) (Nat.le_refl _)) (by omega) fun x y l e q =>?_
   cases hp with
   | gone=>cases e
   | @ring ns hz hx =>
    have e:=D.tup.inj e
    match ns,e with
    | [a,b],e => 
     simp only[List.map_cons,List.map_nil,List.cons.injEq,and_true] at e;rw[q] at e;exact absurd e.2 (by intro z;cases z)
  ·exact kh (ajj.mono (by omega) (by omega)) Mm Ml
  ·exact kh (aji.mono (by omega) (by omega)) Mm Ml
  ·exact kh W ((j9 (c:=1) (za im) (by simp)).mono (by omega) (by omega)) fun l q=>by cases q;simp
  ·exact kh W ((afs (c:=1) (za im) (by simp)).mono (by omega) (by omega)) fun l q=>by cases q
 cases hp with
 | gone h0 h1 =>
  rename_i i;obtain⟨r2,P2,e2,r2a,r2b⟩:=gm P1 11 (by decide) (by decide)
  have:∃d,atI [D.tup [.str "rings", .int i],.tup [.str "gone", odd],.lst [.str "gone", .int i],.tup [.str "gone"],.tup [.str "gone", .int i,.int 0],.tup [.int i,.str "gone"],.int i,.tup [.str "gone", .int i],.tup [.str "ring", .int i],.tup [.str "gone", .tup [.int i]],.tup [.str "gone", .lst [.int i]]] r2=some d/\Hd d:=by
   have hlt:r2.toNat < 11:=by omega
   obtain⟨d,hd⟩:∃d,([D.tup [.str "rings", .int i],.tup [.str "gone", odd],.lst [.str "gone", .int i],.tup [.str "gone"],.tup [.str "gone", .int i,.int 0],.tup [.int i,.str "gone"],.int i,.tup [.str "gone", .int i],.tup [.str "ring", .int i],.tup [.str "gone", .tup [.int i]],.tup [.str "gone", .lst [.int i]]]:List D)[r2.toNat]? = some d:=⟨_,List.getElem?_eq_getElem (by simpa using hlt)⟩
   have:=abz hd;rw[show((r2.toNat:Nat):Int)=r2 by omega] at this
   exact⟨d,this,all11 d (List.mem_of_getElem? hd)⟩
  obtain⟨d,ed,hd⟩:=this;refine⟨d,P2,?_,hd⟩;have q8:(8:Nat)<=capS:=by decide
  have q11:(11:Nat)<=capS:=by decide
  rw[<-hl] at eo;simp only[hD] at *;generalize hDs qv=hh at *;simp[f__law_bent,abv,e1,eo,isTy,e2,ed,q11]
 | ring hz hx =>
  rename_i ns;obtain⟨r2,P2,e2,r2a,r2b⟩:=gm P1 17 (by decide) (by decide)
  obtain⟨X10,Xi⟩:=il _ rfl;obtain⟨t1,c1,l1⟩:=ae3 ns none (some 1);obtain⟨t2,c2,l2⟩:=ae3 ns (some 1) none;have i1:∀d∈cutD (ns.map D.int) none (some 1),It 1 10 d:=fun d hd=>Xi d (List.mem_of_mem_drop (List.mem_of_mem_take hd))
  have i2:∀d∈cutD (ns.map D.int) (some 1) none,It 1 10 d:=fun d hd=>Xi d (List.mem_of_mem_drop (List.mem_of_mem_take hd))
  have L1:(cutD (ns.map D.int) none (some 1)).length<=10:=by rw[c1,List.length_map];omega
  have L2:(cutD (ns.map D.int) (some 1) none).length<=10:=by rw[c2,List.length_map];omega
  clear c1 c2 l1 l2
  have ec1:∃T1,cutD (ns.map D.int) none (some 1)=T1:=⟨_,rfl⟩
  obtain⟨T1,ec1⟩:=ec1;have ec2:∃T2,cutD (ns.map D.int) (some 1) none=T2:=⟨_,rfl⟩
  obtain⟨T2,ec2⟩:=ec2;rw[ec1] at i1 L1;rw[ec2] at i2 L2;generalize ns.map D.int=X at *;have all6:∀d∈[D.tup [.str "ring", .lst X],.tup [.str "ring", .tup (X++T1)],.tup [.str "ring", .tup X.reverse],.tup [.str "ring", .tup T2],.tup [.str "ring", .tup (X++[odd])],.tup [.str "ring", .tup (odd::T2)]],Hd d:=fun d hd=>by
   simp only[List.mem_cons,List.not_mem_nil,or_false] at hd;rcases hd with rfl | rfl | rfl | rfl | rfl | rfl
   ·exact kh W ((afs (c:=10) Xi X10).mono (by omega) (by omega)) fun l q=>by cases q
   ·exact kh W ((j9 (k:=1) (m:=10) (c:=20) (fun d hd=>by
     rcases List.mem_append.mp hd with z | z
     ·exact Xi d z
     ·exact i1 d z) (by rw[List.length_append];omega)).mono (by omega) (by omega)) fun l q=>by cases q;rw[List.length_append];omega
   ·exact kh W ((j9 (k:=1) (m:=10) (c:=10) (fun d hd=>Xi d (List.mem_reverse.mp hd)) (by rw[List.length_reverse];exact X10)).mono (by omega) (by omega)) fun l q=>by cases q;rw[List.length_reverse];omega
   ·exact kh W ((j9 (c:=10) i2 L2).mono (by omega) (by omega)) fun l q=>by cases q;omega
   ·exact kh W ((j9 (k:=4) (m:=100) (c:=11) (fun d hd=>by
     rcases List.mem_append.mp hd with z | z
     ·exact(Xi d z).mono (by omega) (by omega)
     ·rw[List.mem_singleton] at z;rw[z];exact io) (by rw[List.length_append,List.length_singleton];omega)).mono (by omega) (by omega)) fun l q=>by cases q;rw[List.length_append,List.length_singleton];omega
   ·exact kh W ((j9 (k:=4) (m:=100) (c:=11) (fun d hd=>by
     rcases List.mem_cons.mp hd with z | z
     ·rw[z];exact io
     ·exact(i2 d z).mono (by omega) (by omega)) (by rw[List.length_cons];omega)).mono (by omega) (by omega)) fun l q=>by cases q;rw[List.length_cons];omega
  have:∃d,atI ([D.tup [.str "rings", .tup X],.tup [.str "ring", odd],.lst [.str "ring", .tup X],.tup [.str "ring"],.tup [.str "ring", .tup X,.int 0],.tup [.tup X,.str "ring"],.tup X,.tup [.str "gone", .tup X],.tup [.str "ring", .tup X],.tup [.str "ring", .tup [.tup X]],.tup [.str "ring", .lst [.tup X]],.tup [.str "ring", .lst X],.tup [.str "ring", .tup (X++T1)],.tup [.str "ring", .tup X.reverse],.tup [.str "ring", .tup T2],.tup [.str "ring", .tup (X++[odd])],.tup [.str "ring", .tup (odd::T2)]]) r2=some d/\Hd d:=by
   have hlt:r2.toNat < 17:=by omega
   obtain⟨d,hd⟩:∃d,([D.tup [.str "rings", .tup X],.tup [.str "ring", odd],.lst [.str "ring", .tup X],.tup [.str "ring"],.tup [.str "ring", .tup X,.int 0],.tup [.tup X,.str "ring"],.tup X,.tup [.str "gone", .tup X],.tup [.str "ring", .tup X],.tup [.str "ring", .tup [.tup X]],.tup [.str "ring", .lst [.tup X]],.tup [.str "ring", .lst X],.tup [.str "ring", .tup (X++T1)],.tup [.str "ring", .tup X.reverse],.tup [.str "ring", .tup T2],.tup [.str "ring", .tup (X++[odd])],.tup [.str "ring", .tup (odd::T2)]]:List D)[r2.toNat]? = some d:=⟨_,List.getElem?_eq_getElem (by simpa using hlt)⟩
   have e:=abz hd;rw[show((r2.toNat:Nat):Int)=r2 by omega] at e
   refine⟨d,e,?_⟩;rcases List.mem_append.mp (show d∈[D.tup [.str "rings", .tup X],.tup [.str "ring", odd],.lst [.str "ring", .tup X],.tup [.str "ring"],.tup [.str "ring", .tup X,.int 0],.tup [.tup X,.str "ring"],.tup X,.tup [.str "gone", .tup X],.tup [.str "ring", .tup X],.tup [.str "ring", .tup [.tup X]],.tup [.str "ring", .lst [.tup X]]]++[.tup [.str "ring", .lst X],.tup [.str "ring", .tup (X++T1)],.tup [.str "ring", .tup X.reverse],.tup [.str "ring", .tup T2],.tup [.str "ring", .tup (X++[odd])],.tup [.str "ring", .tup (odd::T2)]] from List.mem_of_getElem? hd) with z | z
   ·exact all11 d z
   ·exact all6 d z
  obtain⟨d,ed,hd⟩:=this;refine⟨d,P2,?_,hd⟩
  clear all11 all6 wm no
  have q11:(11:Nat)<=capS:=by decide
  have q15:(15:Nat)<=capS:=by decide
  have q17:(17:Nat)<=capS:=by decide
  have p1:X.length+T1.length<=capS:=dj (by omega)
  have p2:X.length+1<=capS:=dj (by omega)
  have p3:1+T2.length<=capS:=dj (by omega)
  have p4:X.length<=capS:=dj (by omega)
  rw[<-hl] at eo;simp only[hD] at *;generalize hDs qv=hh at *;simp[f__law_bent,abv,e1,eo,isTy,e2,ed,q11,q15,q17,ec1,ec2,p1,p2,p3,p4]
section
variable{qv:LL9}(h:Hs qv)(sh:Sh qv){as:List Int}(ha:Arr qv as)
include h sh ha
theorem aqz:(abf ((upto qv.length).filterMap (lawR (lasts qv as)))).length<=10/\1<=(abf ((upto qv.length).filterMap (lawR (lasts qv as)))).length/\∀r∈abf ((upto qv.length).filterMap (lawR (lasts qv as))),1<=r.length/\r.length<=10/\∀x∈r,0<=x/\x < (qv.length:Int):=by
 have w:=ac2 h ha;have hll:=mq qv as;have hm:=h.most;have h1:=h.one;have hp:∀{x:Int},0<=x->x < (qv.length:Int)->∀m,0<=itr (lasts qv as) x m/\itr (lasts qv as) x m < ((lasts qv as).length:Int):=fun a b m=>aem w (adz h sh ha a b) m
 have mu:∀{x:Int},0<=x->x < (qv.length:Int)->x∈upto qv.length:=fun{x} a b=>List.mem_map.mpr ⟨x.toNat,List.mem_range.mpr (by omega),by omega⟩
 rw[(wj _).length_eq];refine⟨?_,?_,fun r hr =>?_⟩
 ·have:=List.length_filterMap_le (lawR (lasts qv as)) (upto qv.length);have:(upto qv.length).length=qv.length:=by simp[upto]
  omega
 ·obtain⟨T,t1,t2,t3⟩:=avc w (adz h sh ha (x:=0) (by omega) (by omega))
  obtain⟨j,hj,c⟩:=axc t2 t3;have e:=auf c t1;have q:=hp (x:=0) (by omega) (by omega) ((lasts qv as).length+j)
  rw[jl] at q;have:rotm (rg (lasts qv as) (itr (lasts qv as) 0 (lasts qv as).length) T)∈(upto qv.length).filterMap (lawR (lasts qv as)):=List.mem_filterMap.mpr ⟨_,mu q.1 (by rw[<-hll];exact q.2),e⟩
  exact List.length_pos_of_mem this
 ·rw[(wj _).mem_iff] at hr;obtain⟨s,hs,e⟩:=List.mem_filterMap.mp hr;have s0:=agt hs;obtain⟨T,c,hT⟩:=agw (hp s0.1 s0.2) e;rw[c.is];refine⟨by rw[adg];omega,by rw[adg];omega,fun x hx =>?_⟩
  obtain⟨i,_,rfl⟩:=aej.mp hx;have:=hp s0.1 s0.2 i;rw[hll] at this;exact this
theorem alg(P:Int×Int):∃w m P',f__law_paper [.own (some 0) (pen P),.val (hD qv),.val (.tup (as.map D.int))]=some (.ok (.v (.tup [w,m])),[.own (some 0) (pen P'),.val (hD qv),.val (.tup (as.map D.int))])/\Pap qv.length w m:=by
 have hm:=h.most;have h1:=h.one;have hl:=vy qv;obtain⟨f1,f2,f3⟩:=aqz h sh ha;have nd:(upto qv.length).Nodup:=by
  unfold upto;exact List.Pairwise.map _ (fun a b hab=>by omega) (List.nodup_range (n:=qv.length))
 have er:=ah3 h sh ha (C:=upto qv.length) (fun x hx=>agt hx) nd (by simp[upto];omega)
 rw[<-ai4] at er;generalize abf ((upto qv.length).filterMap (lawR (lasts qv as)))=F at *;obtain⟨r1,P1,e1,r1a,r1b⟩:=gm P (F.length:Int) (by omega) (by omega)
 obtain⟨ring,hr⟩:∃ring,F[r1.toNat]? = some ring:=⟨_,List.getElem?_eq_getElem (by omega)⟩
 obtain⟨g1,g2,g3⟩:=f3 ring (List.mem_of_getElem? hr);have e2:atI (F.map rowT) r1=some (rowT ring):=by
  have:=abz (xs:=F.map rowT) (j:=r1.toNat) (v:=rowT ring) (by rw[List.getElem?_map,hr];rfl)
  rwa[show((r1.toNat:Nat):Int)=r1 by omega] at this
 obtain⟨at',P2,e3,a0,a1⟩:=gm P1 (ring.length:Int) (by omega) (by omega)
 obtain⟨i,P3,e4,i0,i1⟩:=gm P2 (qv.length:Int) (by omega) (by omega)
 obtain⟨r5,P5,e5,r5a,r5b⟩:=gm P3 3 (by decide) (by decide)
 have comp:=qu (b:=du 0) (mc:=ret true) (me:=yr) (fun j ys ρ=>∃ns P o,ρ=[o,.own (some 1) (pen P),.val (.int (qv.length:Int))]/\ys=ns.map D.int/\ns.length=j/\∀x∈ns,0<=x/\x < (qv.length:Int))
  (l:=jx 0 (1+r5).toNat) (ys:=[]) (ρ:=[.emp,.own (some 1) (pen P5),.val (.int (qv.length:Int))]) 0 ⟨[],P5,.emp,rfl,rfl,rfl,by simp⟩ ?_
 ·obtain⟨ys,ρ',e6,ns,P6,o,rfl,rfl,hn,hx⟩:=comp;have hn:ns.length=(1+r5).toNat:=by simpa[jx] using hn
  obtain⟨r7,P7,e7,r7a,r7b⟩:=gm P6 4 (by decide) (by decide)
  have c1:=auh (ns:=ring.map D.int) (k:=at') a0 (by rw[List.length_map];omega)
  have c2:=a0f (ns:=ring.map D.int) (k:=at') a0 (by rw[List.length_map];omega)
  have c3:(ring.map D.int).drop at'.toNat++(ring.map D.int).take at'.toNat=(ring.drop at'.toNat++ring.take at'.toNat).map D.int:=by rw[List.map_append,List.map_drop,List.map_take]
  have hT:∃w m,atI [D.tup [.str "gone", .int i],.tup [.str "ring", .tup ((ring.map D.int).drop at'.toNat++(ring.map D.int).take at'.toNat)],.tup [.str "ring", .tup (ring.map D.int)],.tup [.str "ring", .tup (ns.map D.int)]] r7=some (.tup [w,m])/\Pap qv.length w m:=by
   have:r7=0∨r7=1∨r7=2∨r7=3:=by omega
   rcases this with rfl | rfl | rfl | rfl
   ·exact⟨_,_,rfl,.gone i0 i1⟩
   ·refine⟨.str "ring", .tup ((ring.drop at'.toNat++ring.take at'.toNat).map D.int),by rw[<-c3];rfl,.ring ?_ fun x hx =>?_⟩
    ·rw[List.length_append,List.length_drop,List.length_take];omega
    ·rcases List.mem_append.mp hx with z | z
     ·exact g3 x (List.mem_of_mem_drop z)
     ·exact g3 x (List.mem_of_mem_take z)
   ·exact⟨_,_,rfl,.ring g2 g3⟩
   ·exact⟨_,_,rfl,.ring (by omega) hx⟩
  obtain⟨w,m,ew,hp⟩:=hT;refine⟨w,m,P7,?_,hp⟩;have hb:(1+r5).natAbs < 4611686018427387904:=by omega
  have hc1:ns.length<=capS:=dj (by omega)
  have hc2:((ring.map D.int).drop at'.toNat).length+((ring.map D.int).take at'.toNat).length<=capS:=by
   rw[List.length_drop,List.length_take,List.length_map];exact dj (by omega)
  have hs:=aix h;have hF:(F.map rowT).length=F.length:=List.length_map ..
  have hR:(ring.map D.int).length=ring.length:=List.length_map ..
  have hN:(ns.map D.int).length=ns.length:=List.length_map ..
  have hcp:(3:Nat) < capS:=by decide
  have er0:rowT ring=.tup (ring.map D.int):=rfl;rw[er0] at e2;generalize (ring.map D.int).drop at'.toNat=X1 at *;generalize (ring.map D.int).take at'.toNat=X2 at *;generalize ring.map D.int=RG at *;generalize ns.map D.int=NS' at *;generalize F.map rowT=FF at *;generalize as.map D.int=AA at *;simp only[hD] at *;rw[<-hl] at er e4 e6 hs;generalize hDs qv=hh at *;have hs6:hh.length < 1000000:=by omega
  rw[<-hF] at e1;rw[<-hR] at e3;rw[<-hN] at hc1;simp[f__law_paper,adp,hs6,er,e1,e2,e3,e4,c1,c2,hc2,e5,hb,e6,hc1,hcp,e7,ew]
 ·rintro j d ys ρ hd ⟨ns,P6,o,rfl,rfl,hn,hx⟩
  obtain⟨r7,P7,e7,r7a,r7b⟩:=gm P6 (qv.length:Int) (by omega) (by omega)
  refine⟨_,_,true,rfl,rfl,.inr ⟨rfl,.int r7,_,by simp[yr,e7];rfl,ns++[r7],P7,_,rfl,by simp,by simp[hn],fun x h =>?_⟩⟩
  rcases List.mem_append.mp h with h | h
  ·exact hx x h
  ·obtain rfl:x=r7:=by simpa using h
   omega
variable{k:Int}(hk:0<=k/\k < (qv.length:Int))
include hk
theorem agf(d:D)(hd:Hd d):jf [.val (hD qv),.val (.tup (as.map D.int)),.val (.int k),.val d]=some (.ok (.v (.bl true)),[.val (hD qv),.val (.tup (as.map D.int)),.val (.int k),.val d]):=by
 have e1:=aqp h sh ha hk d hd.pp;have e2:=alq h sh ha hk d hd.pp;obtain⟨x,ex,sx⟩:=hd.rp;have g1:∀b:Bool,gEq true (.bl b) (.bl b)=some (.v (.bl false)):=fun b=>by cases b <;> kernel_rfl
 have g2:∀b:Bool,gEq false (.bl b) (.bl b)=some (.v (.bl true)):=fun b=>by cases b <;> kernel_rfl
 have g3:gEq false (.str x) (.str x)=some (.v (.bl true)):=by
  have ho:okD 30 (.str x)=true:=sx;have:=acj ho ho;rw[this];show some (Rv.v (.bl (decide (x=x))))=_;rw[decide_eq_true rfl]
 generalize papB qv as k d=bb at *;have g1:=g1 bb;have g2:=g2 bb;generalize as.map D.int=AA at *;generalize hD qv=hh at *;simp[jf,ado,ex,e1,e2,isTy,g1,g2,g3]
end
theorem atv(S A C P T:Sl){qv:LL9}(h:Hs qv)(sh:Sh qv){as:List Int}(ha:Arr qv as){k:Int}(hk:0<=k/\k < (qv.length:Int))(d:D)(hd:Hd d):anh [S,A,C,P,.val (hD qv),.val (.tup (as.map D.int)),.val (.int k),T,.val d]=some (.nx,[S,A,C,P,.val (hD qv),.val (.tup (as.map D.int)),.val (.int k),T,.val d]):=by
 have e:=agf h sh ha hk d hd;generalize as.map D.int=AA at *;generalize hD qv=hh at *;simp[anh,e]
theorem azq(S C T:Sl){qv:LL9}(h:Hs qv)(sh:Sh qv){as:List Int}(ha:Arr qv as){k:Int}(hk:0<=k/\k < (qv.length:Int))(P:Int×Int)(a1 a8:Sl):∃P' b1 b8,l3_law [S,a1,C,.own none (pen P),.val (hD qv),.val (.tup (as.map D.int)),.val (.int k),T,a8]=some (.nx,[S,b1,C,.own none (pen P'),.val (hD qv),.val (.tup (as.map D.int)),.val (.int k),T,b8]):=by
 obtain⟨w,m,P1,e1,hp⟩:=alg h sh ha P;obtain⟨d2,P2,e2,h2⟩:=auo P1 h hp;obtain⟨d3,P3,e3,h3⟩:=awd P2;have z1:=atv S (.val (.tup [w,m])) C (.own none (pen P3)) T h sh ha hk _ (hp.hd h.most);have z2:=atv S (.val (.tup [w,m])) C (.own none (pen P3)) T h sh ha hk d2 h2;have z3:=atv S (.val (.tup [w,m])) C (.own none (pen P3)) T h sh ha hk d3 h3;refine⟨P3,.val (.tup [w,m]),.val d3,?_⟩;generalize as.map D.int=AA at *;generalize hD qv=hh at *;simp[l3_law,e1,e2,e3,uf,z1,z2,z3]
theorem azp(S:D)(n:Int)(a1 a3 a4 a5 a6 a7 a8:Sl):∃b1 b3 b4 b5 b6 b7 b8,l4_law [.val S,a1,.val (.int n),a3,a4,a5,a6,a7,a8]=some (.nx,[.val S,b1,.val (.int n),b3,b4,b5,b6,b7,b8]):=by
 obtain⟨P,e0⟩:=apx n;obtain⟨r,P1,e1,r0,r1⟩:=gm P 3 (by decide) (by decide)
 have ei:∃m:Int,atI [D.int 3,.int 5,.int 7] r=some (.int m)/\1<=m/\m<=7:=by
  have:r=0∨r=1∨r=2:=by omega
  rcases this with rfl | rfl | rfl
  ·exact⟨3,rfl,by decide,by decide⟩
  ·exact⟨5,rfl,by decide,by decide⟩
  ·exact⟨7,rfl,by decide,by decide⟩
 obtain⟨m,em,m1,m2⟩:=ei;obtain⟨qv,P2,e2,hk⟩:=amj P1 m 3 m1 (by omega) (by decide) (by decide)
 have h:Hs qv:=hk.hs (by omega) (by decide)
 have ho:=h.one;have hmo:=h.most;obtain⟨as,P3,e3,ha⟩:=ajx P2 h;obtain⟨k,P4,e4,k0,k1⟩:=gm P3 (qv.length:Int) (by omega) (by omega)
 have L:=fun(t:Int) (Q:Int×Int) (x1 x8:Sl)=>azq (.val S) (.val (.int n)) (.val (.int t)) h hk.sh ha ⟨k0,k1⟩ Q x1 x8
 obtain⟨Q0,s1,s8,z0⟩:=L 0 P4 a1 a8;obtain⟨Q1,t1,t8,z1⟩:=L 1 Q0 s1 s8;obtain⟨Q2,u1,u8,z2⟩:=L 2 Q1 t1 t8;obtain⟨Q3,v1,v8,z3⟩:=L 3 Q2 u1 u8
 clear L
 have e8:jx 0 4=[.int 0,.int 1,.int 2,.int 3]:=rfl;refine⟨v1,.own none (pen Q3),.val (hD qv),.val (.tup (as.map D.int)),.val (.int k),.val (.int 3),v8,?_⟩;generalize as.map D.int=la at *;have hl:=vy qv;rw[<-hl] at e4;simp only[hD] at *;generalize hDs qv=hh at *;simp[l4_law,e0,e1,em,e2,e3,e4,e8,uf,z0,z1,z2,z3]
theorem awp(S:D):∀(ns:List Int) (q a1 a3 a4 a5 a6 a7 a8:Sl),∃ρ,forD (du 2) l4_law (ns.map D.int) [.val S,a1,q,a3,a4,a5,a6,a7,a8]=some (.nx,.val S::ρ)
 | [],q,a1,a3,a4,a5,a6,a7,a8=>⟨_,rfl⟩
 | n::r,q,a1,a3,a4,a5,a6,a7,a8=>by
  obtain⟨b1,b3,b4,b5,b6,b7,b8,z⟩:=azp S n a1 a3 a4 a5 a6 a7 a8;obtain⟨ρ,z2⟩:=awp S r (.val (.int n)) b1 b3 b4 b5 b6 b7 b8;exact⟨ρ,by rw[List.map_cons,uf];simp[z,z2]⟩
theorem aur{r:List Int}{a:Int}(h0:0<=a)(h1:a < (r.length:Int)):Arr [r] [a]:=⟨rfl,fun i x q g1 g2=>by
 cases i with
 | zero=>simp at g1 g2;subst g1 g2;exact⟨h0,h1⟩
 | succ i=>simp at g1⟩
theorem auq:Arr [[0,1],[1]] [0,0]:=⟨rfl,fun i x q g1 g2=>by
 match i,g1,g2 with
 | 0,g1,g2=>simp at g1 g2;subst g1 g2;exact⟨by decide,by decide⟩
 | 1,g1,g2=>simp at g1 g2;subst g1 g2;exact⟨by decide,by decide⟩
 | i+2,g1,_=>simp at g1⟩
theorem ani(S:D)(a2 a3 a4 a5 a6 a7 a8:Sl):∀(l:List D) (q:Sl),(∀d∈l,Hd d)->∃q',forD (du 1) akg l [.val S,q,a2,a3,a4,a5,a6,a7,a8]=some (.nx,[.val S,q',a2,a3,a4,a5,a6,a7,a8])
 | [],q,_=>⟨q,rfl⟩
 | d::l,q,hd=>by
  have H1:Hs [[0]]:=⟨by decide,by decide,by decide⟩
  have S1:Sh [[0]]:=by unfold Sh;decide
  have H2:Hs [[0,1],[1]]:=⟨by decide,by decide,by decide⟩
  have S2:Sh [[0,1],[1]]:=by unfold Sh;decide
  have r1:jf [.val (.tup [.tup [.int 0,.int 1],.tup [.int 1]]),.val (.tup [.int 0,.int 0]),.val (.int 0),.val d]=some (.ok (.v (.bl true)),[.val (.tup [.tup [.int 0,.int 1],.tup [.int 1]]),.val (.tup [.int 0,.int 0]),.val (.int 0),.val d]):=agf H2 S2 auq ⟨by decide,by decide⟩ d (hd d (List.mem_cons_self ..))
  have r2:jf [.val (.tup [.tup [.int 0]]),.val (.tup [.int 0]),.val (.int 0),.val d]=some (.ok (.v (.bl true)),[.val (.tup [.tup [.int 0]]),.val (.tup [.int 0]),.val (.int 0),.val d]):=agf H1 S1 (aur (by decide) (by decide)) ⟨by decide,by decide⟩ d (hd d (List.mem_cons_self ..))
  obtain⟨q',e⟩:=ani S a2 a3 a4 a5 a6 a7 a8 l (.val d) fun x hx=>hd x (List.mem_cons_of_mem _ hx)
  have es:akg [.val S,.val d,a2,a3,a4,a5,a6,a7,a8]=some (.nx,[.val S,.val d,a2,a3,a4,a5,a6,a7,a8]):=by simp[akg,r1,r2]
  refine⟨q',?_⟩;rw[uf];simp only[ag6,List.set_cons_succ,List.set_cons_zero];rw[es];exact e
theorem aqe:ajy an6:=fun ns hn=>by
 obtain⟨n0,e0⟩:=aoj ns 0 (by decide)
 obtain⟨ms,em,hm⟩:=ae3 ns (some 1) (some 4);have hc:1+ms.length<=capS:=dj (by omega)
 have z0:It 1 10 (.int 0):=aah (by decide) (by decide)
 have z1:It 1 10 (.int 1):=aah (by decide) (by decide)
 have W1:=ajj.mono (k':=25) (m':=5000) (by omega) (by omega)
 have W2:=aji.mono (k':=25) (m':=5000) (by omega) (by omega)
 obtain⟨q',e1⟩:=ani (.kst (ns.map D.int)) .emp .emp .emp .emp .emp .emp .emp [.tup [.str "gone", .int 1],.tup [.str "gone", .int 0],.tup [.str "ring", .tup [.int 1]],.tup [.str "ring", .tup [.int 0]],.tup [.str "ring", .tup []],.non] .emp fun d hd=>by
  simp only[List.mem_cons,List.not_mem_nil,or_false] at hd;rcases hd with rfl | rfl | rfl | rfl | rfl | rfl
  ·exact kh W1 (z1.mono (by omega) (by omega)) fun l q=>by cases q
  ·exact kh W1 (z0.mono (by omega) (by omega)) fun l q=>by cases q
  ·exact kh W2 ((j9 (c:=1) (za z1) (by simp)).mono (by omega) (by omega)) fun l q=>by cases q;decide
  ·exact kh W2 ((j9 (c:=1) (za z0) (by simp)).mono (by omega) (by omega)) fun l q=>by cases q;decide
  ·exact kh W2 ((j9 (k:=1) (m:=10) (c:=1) (l:=[]) (fun d hd=>by cases hd) (by simp)).mono (by omega) (by omega)) fun l q=>by cases q;decide
  ·exact anz (anr.mono (by omega) (Nat.le_refl _)) (by omega) fun x y l e=>by cases e
 obtain⟨ρ,q⟩:=awp (.kst (ns.map D.int)) (n0::ms) .emp q' .emp .emp .emp .emp .emp .emp;simp only[List.map_cons] at q;simp[an6,aw1,e1,e0,em,hc,q]
end My
set_option maxHeartbeats 0
namespace My
open PySem L2 Mn Dn
def top(i:Nat):Stmt:=PySem.Challenge.pw_turnarrows_k29_papers_of_no_round.main.body.getD i (.Pass ⟨0,0,0,0⟩)
abbrev acq:Stmt:=top 6
theorem ai0:FnScope ["thing"] ["thing"] (au acq):=mkSc rfl rfl rfl rfl (by decide +kernel)
abbrev ph:Stmt:=top 7
theorem ab5:FnScope ["thing","least","most"] ["thing","least","most"] (au ph):=mkSc rfl rfl rfl rfl (by decide +kernel)
abbrev pq:Stmt:=top 8
theorem ab6:FnScope ["thing","least","most"] ["thing","least","most"] (au pq):=mkSc rfl rfl rfl rfl (by decide +kernel)
abbrev qy:Stmt:=top 10
theorem acp:FnScope ["house","thing"] ["house","thing"] (au qy):=mkSc rfl rfl rfl rfl (by decide +kernel)
abbrev qx:Stmt:=top 11
theorem aco:FnScope ["house","thing"] ["house","thing"] (au qx):=mkSc rfl rfl rfl rfl (by decide +kernel)
abbrev aec:Stmt:=top 12
theorem sy:FnScope ["house","room","met","looked_at","doors","door"] ["house","room"] (au aec):=mkSc rfl rfl rfl rfl (by decide +kernel)
abbrev ad9:Stmt:=top 13
theorem ak8:FnScope ["house"] ["house"] (au ad9):=mkSc rfl rfl rfl rfl (by decide +kernel)
abbrev oh:Stmt:=top 14
theorem ab3:FnScope ["house"] ["house"] (au oh):=mkSc rfl rfl rfl rfl (by decide +kernel)
abbrev abj:Stmt:=top 16
theorem ahg:FnScope ["house","thing"] ["house","thing"] (au abj):=mkSc rfl rfl rfl rfl (by decide +kernel)
abbrev mj:Stmt:=top 17
theorem abg:FnScope ["house","thing"] ["house","thing"] (au mj):=mkSc rfl rfl rfl rfl (by decide +kernel)
abbrev abi:Stmt:=top 18
theorem ahf:FnScope ["house","arrows"] ["house","arrows"] (au abi):=mkSc rfl rfl rfl rfl (by decide +kernel)
abbrev aea:Stmt:=top 20
theorem ak9:FnScope ["house","last","thing"] ["house","last","thing"] (au aea):=mkSc rfl rfl rfl rfl (by decide +kernel)
abbrev ou:Stmt:=top 22
theorem ab4:FnScope ["house","arrows","room"] ["house","arrows","room"] (au ou):=mkSc rfl rfl rfl rfl (by decide +kernel)
abbrev ju:Stmt:=top 24
theorem xx:FnScope ["house","arrows","room"] ["house","arrows","room"] (au ju):=mkSc rfl rfl rfl rfl (by decide +kernel)
abbrev abk:Stmt:=top 25
theorem ahh:FnScope ["house","room"] ["house","room"] (au abk):=mkSc rfl rfl rfl rfl (by decide +kernel)
abbrev aeb:Stmt:=top 26
theorem ala:FnScope ["house","room","thing"] ["house","room","thing"] (au aeb):=mkSc rfl rfl rfl rfl (by decide +kernel)
abbrev qb:Stmt:=top 27
theorem ab7:FnScope ["house","arrows","room","thing"] ["house","arrows","room","thing"] (au qb):=mkSc rfl rfl rfl rfl (by decide +kernel)
abbrev s_why_not_holds:Stmt:=top 28
theorem sc_why_not_holds:FnScope ["house","arrows","room","thing"] ["house","arrows","room","thing"] (au s_why_not_holds):=mkSc rfl rfl rfl rfl (by decide +kernel)
abbrev abo:Stmt:=top 30
theorem ahj:FnScope ["script","k"] ["script","k"] (au abo):=mkSc rfl rfl rfl rfl (by decide +kernel)
abbrev acr:Stmt:=top 31
theorem ad7:FnScope ["cell","left"] ["cell"] (au acr):=mkSc rfl rfl rfl rfl (by decide +kernel)
abbrev abn:Stmt:=top 32
theorem ql:FnScope ["pen","many","left","found","stir"] ["pen","many"] (au abn):=mkSc rfl rfl rfl rfl (by decide +kernel)
abbrev zu:Stmt:=top 33
theorem agb:FnScope ["thing"] ["thing"] (au zu):=mkSc rfl rfl rfl rfl (by decide +kernel)
abbrev acs:Stmt:=top 34
theorem ad8:FnScope ["pen","some"] ["pen"] (au acs):=mkSc rfl rfl rfl rfl (by decide +kernel)
abbrev vp:Stmt:=top 35
theorem j0:FnScope ["house","room","found","at"] ["house","room"] (au vp):=mkSc rfl rfl rfl rfl (by decide +kernel)
abbrev abl:Stmt:=top 36
theorem lq:FnScope ["pen","most","doors","many","house","room","wide","some"] ["pen","most","doors"] (au abl):=mkSc rfl rfl rfl rfl (by decide +kernel)
abbrev ye:Stmt:=top 37
theorem afa:FnScope ["pen","house"] ["pen","house"] (au ye):=mkSc rfl rfl rfl rfl (by decide +kernel)
abbrev abm:Stmt:=top 38
theorem ahi:FnScope ["house","arrows"] ["house","arrows"] (au abm):=mkSc rfl rfl rfl rfl (by decide +kernel)
abbrev zx:Stmt:=top 39
theorem lw:FnScope ["house","arrows","rooms","last","found","room","ring"] ["house","arrows","rooms"] (au zx):=mkSc rfl rfl rfl rfl (by decide +kernel)
abbrev acu:Stmt:=top 40
theorem abh:FnScope ["house","arrows","room","thing","rooms","last"] ["house","arrows","room","thing"] (au acu):=mkSc rfl rfl rfl rfl (by decide +kernel)
abbrev aaa:Stmt:=top 41
theorem j6:FnScope ["pen","house","arrows","many","rings","ring","at","some"] ["pen","house","arrows"] (au aaa):=mkSc rfl rfl rfl rfl (by decide +kernel)
abbrev abp:Stmt:=top 42
theorem jo:FnScope ["pen","house","thing","word","more","odd","some"] ["pen","house","thing"] (au abp):=mkSc rfl rfl rfl rfl (by decide +kernel)
abbrev zy:Stmt:=top 43
theorem yc:FnScope ["house","arrows","room","thing","kept","found"] ["house","arrows","room","thing"] (au zy):=mkSc rfl rfl rfl rfl (by decide +kernel)
abbrev agc:Stmt:=top 44
theorem aa8:FnScope ["script","thing","cell","pen","house","arrows","room","turn","one"] ["script"] (au agc):=mkSc rfl rfl rfl rfl (by decide +kernel)
theorem lnS{k:Nat}{us:List Value}(h:us.length=k+1):∃a r,us=a::r/\r.length=k:=by
 cases us with
 | nil=>cases h
 | cons a r=>exact⟨a,r,rfl,Nat.succ.inj h⟩
theorem ln1{us:List Value}(h:us.length=1):∃a0,us=[a0]:=by
 obtain⟨a,r,rfl,h'⟩:=lnS h;cases List.eq_nil_of_length_eq_zero h';exact⟨a,rfl⟩
theorem ln2{us:List Value}(h:us.length=2):∃a0 a1,us=[a0,a1]:=by
 obtain⟨a,r,rfl,h'⟩:=lnS h;obtain⟨_,rfl⟩:=ln1 h';exact⟨_,_,rfl⟩
theorem ln3{us:List Value}(h:us.length=3):∃a0 a1 a2,us=[a0,a1,a2]:=by
 obtain⟨a,r,rfl,h'⟩:=lnS h;obtain⟨_,_,rfl⟩:=ln2 h';exact⟨_,_,_,rfl⟩
theorem ln4{us:List Value}(h:us.length=4):∃a0 a1 a2 a3,us=[a0,a1,a2,a3]:=by
 obtain⟨a,r,rfl,h'⟩:=lnS h;obtain⟨_,_,_,rfl⟩:=ln3 h';exact⟨_,_,_,_,rfl⟩
structure Txt (K:Fg9) (mg:Str->Option Value):Prop where
 z_all:mg "all" = none
 z_bool:mg "bool" = none
 z_divmod:mg "divmod" = none
 z_enumerate:mg "enumerate" = none
 z_int:mg "int" = none
 z_isinstance:mg "isinstance" = none
 z_len:mg "len" = none
 z_list:mg "list" = none
 z_max:mg "max" = none
 z_min:mg "min" = none
 z_range:mg "range" = none
 z_repr:mg "repr" = none
 z_set:mg "set" = none
 z_sorted:mg "sorted" = none
 z_str:mg "str" = none
 z_tuple:mg "tuple" = none
 z_zip:mg "zip" = none
section
variable(P:Program)(w:World)(K:Fg9)(mg:Str->Option Value)(base:Heap)
abbrev Dd0:Prop:=Dfn P w K mg base "is_whole" ["thing"] 1 (spOf K 1 xg)
abbrev Dd1:Prop:=Dfn P w K mg base "is_whole_within" ["thing","least","most"] 2 (spOf K 3 ig)
abbrev Dd3:Prop:=Dfn P w K mg base "is_room_number" ["house","thing"] 3 (spOf K 2 gw)
abbrev Dd4:Prop:=Dfn P w K mg base "refuse_no_room" ["house","thing"] 4 (spOf K 2 dz)
abbrev Dd6:Prop:=Dfn P w K mg base "is_shut" ["house"] 1 (spOf K 1 aak)
abbrev Dd2:Prop:=Dfn P w K mg base "is_tuple_within" ["thing","least","most"] 1 (spOf K 3 cu)
abbrev Dd8:Prop:=Dfn P w K mg base "is_arrows" ["house","thing"] 3 (spOf K 2 ul)
abbrev Dd9:Prop:=Dfn P w K mg base "refuse_no_arrows" ["house","thing"] 4 (spOf K 2 je)
abbrev Dd12:Prop:=Dfn P w K mg base "refuse_no_state" ["house","arrows","room"] 5 (spOf K 3 jn)
abbrev Dd7:Prop:=Dfn P w K mg base "refuse_not_shut" ["house"] 2 (spOf K 1 jm)
abbrev Dd5:Prop:=Dfn P w K mg base "come_to" ["house","room"] 5 (spOf K 2 qm)
abbrev Dd14:Prop:=Dfn P w K mg base "gone_from" ["house","room"] 6 (spOf K 2 um)
abbrev Dd10:Prop:=Dfn P w K mg base "last_ways" ["house","arrows"] 1 (spOf K 2 ug)
abbrev Dd11:Prop:=Dfn P w K mg base "is_ring" ["house","last","thing"] 4 (spOf K 3 mz)
abbrev Dd13:Prop:=Dfn P w K mg base "refuse_no_shut_state" ["house","arrows","room"] 6 (spOf K 3 fj)
abbrev Dd15:Prop:=Dfn P w K mg base "is_gone" ["house","room","thing"] 7 (spOf K 3 uh)
abbrev Dd16:Prop:=Dfn P w K mg base "is_ring_without" ["house","arrows","room","thing"] 6 (spOf K 4 ik)
abbrev Dd20:Prop:=Dfn P w K mg base "_law_draw" ["pen","many"] 1 (spOf K 2 f__law_draw)
abbrev Dd26:Prop:=Dfn P w K mg base "_law_last" ["house","arrows"] 1 (spOf K 2 qg)
abbrev Dd23:Prop:=Dfn P w K mg base "_law_reached" ["house","room"] 1 (spOf K 2 jt)
abbrev Dd21:Prop:=Dfn P w K mg base "_law_whole" ["thing"] 1 (spOf K 1 lr)
abbrev Dd27:Prop:=Dfn P w K mg base "_law_rings" ["house","arrows","rooms"] 2 (spOf K 3 qp)
abbrev Dd17:Prop:=Dfn P w K mg base "why_not_holds" ["house","arrows","room","thing"] 8 (spOf K 4 f_why_not_holds)
abbrev Dd28:Prop:=Dfn P w K mg base "_law_due" ["house","arrows","room","thing"] 2 (spOf K 4 cg)
abbrev Dd31:Prop:=Dfn P w K mg base "_law_right" ["house","arrows","room","thing"] 9 (spOf K 4 jf)
abbrev Dd18:Prop:=Dfn P w K mg base "_law_cell" ["script","k"] 1 (spOf K 2 f__law_cell)
abbrev Dd19:Prop:=Dfn P w K mg base "_law_pen" ["cell"] 1 (spOf K 1 f__law_pen)
abbrev Dd24:Prop:=Dfn P w K mg base "_law_shut" ["pen","most","doors"] 2 (spOf K 3 f__law_shut)
abbrev Dd25:Prop:=Dfn P w K mg base "_law_arrows" ["pen","house"] 2 (spOf K 2 f__law_arrows)
abbrev Dd29:Prop:=Dfn P w K mg base "_law_paper" ["pen","house","arrows"] 3 (spOf K 3 f__law_paper)
abbrev Dd30:Prop:=Dfn P w K mg base "_law_bent" ["pen","house","thing"] 2 (spOf K 3 f__law_bent)
abbrev Dd22:Prop:=Dfn P w K mg base "_law_odd" ["pen"] 2 (spOf K 1 f__law_odd)
end
section
variable{P:Program}{w:World}{K:Fg9}{mg:Str->Option Value}{base:Heap}{f:Addr}{fd:FuncData}
theorem ai8(F:Fun K "is_whole" "is_whole" acq f fd)(T:Txt K mg):FnOk P w K mg base CX0 1 f fd ["thing"] (spOf K 1 xg) :=
 g8 F ai0 rfl rfl fun cdv A outer s H E hr =>
  (az (dh (EV.toR (zg (abe (t:=.int) (afd (by rfl) T.z_int aox) (by rfl) T.z_isinstance gf (jg (pv 0))) (abd (ar4 (abe (t:=.bool) (afd (by rfl) T.z_bool aju) (by rfl) T.z_isinstance gf (jg (pv 0)))))))))
theorem aca(F:Fun K "is_whole_within" "is_whole_within" ph f fd)(T:Txt K mg)(d0:Dd0 P w K mg base):FnOk P w K mg base CX0 2 f fd ["thing","least","most"] (spOf K 3 ig) :=
 g8 F ab5 rfl rfl fun cdv A outer s H E hr =>
  (az (dh (EV.toR (zg (ER.toD (dm d0 (hr.mono (by decide)) (by rfl) (eg_n (pv 0) bu))) (abd (akp ap4 ap4 (aq (pv 1)) (aq (pv 0)) (aq (pv 2))))))))
theorem acb(F:Fun K "is_tuple_within" "is_tuple_within" pq f fd)(T:Txt K mg):FnOk P w K mg base CX0 1 f fd ["thing","least","most"] (spOf K 3 cu) :=
 g8 F ab6 rfl rfl fun cdv A outer s H E hr =>
  (az (dh (EV.toR (zg (abe (t:=.tuple) (afd (by rfl) T.z_tuple nj) (by rfl) T.z_isinstance gf (jg (pv 0))) (abd (akp ap4 ap4 (aq (pv 1)) (ER.toD (bw kj (by rfl) T.z_len j8 (ea_n (pv 0) dg))) (aq (pv 2))))))))
theorem acz(F:Fun K "is_room_number" "is_room_number" qy f fd)(T:Txt K mg)(d1:Dd1 P w K mg base):FnOk P w K mg base CX0 3 f fd ["house","thing"] (spOf K 2 gw) :=
 g8 F acp rfl rfl fun cdv A outer s H E hr =>
  (az (dh (dm d1 (hr.mono (by decide)) (by rfl) (eg_v (aq (pv 1)) (eg_v ak (eg_v (ER.toD (dq acx (e2_v (ER.toD (bw kj (by rfl) T.z_len j8 (ea_n (pv 0) dg))) (EV.toB ak)))) bu))))))
theorem acy(F:Fun K "refuse_no_room" "refuse_no_room" qx f fd)(T:Txt K mg)(d3:Dd3 P w K mg base):FnOk P w K mg base CX0 4 f fd ["house","thing"] (spOf K 2 dz) :=
 g8 F aco rfl rfl fun cdv A outer s H E hr =>
  (az (qw (rn (qt (ER.toD (dm d3 (hr.mono (by decide)) (by rfl) (eg_n (pv 0) (eg_v (aq (pv 1)) bu)))))) (az af6) gr))
theorem alm(F:Fun K "come_to" "come_to" aec f fd)(T:Txt K mg)(d4:Dd4 P w K mg base):FnOk P w K mg base CX0 5 f fd ["house","room"] (spOf K 2 qm) :=
 g8 F sy rfl rfl fun cdv A outer s H E hr =>
  (ao (ud (dm d4 (hr.mono (by decide)) (by rfl) (eg_n (pv 0) (eg_v (aq (pv 1)) bu)))) (ao (f9 (i:=2) sy.nd rfl (Or.inl rfl) (j5 (aa (aq (pv 1)) bf))) (ao (f9 (i:=3) sy.nd rfl (Or.inl rfl) (EV.toR ak)) (ao (af5 fuel PassesOwn.never (j7 am0 (e2_n (pv 3) (EV.toB (ER.toD (bw kj (by rfl) T.z_len j8 (ea_n (pv 2) dg))))) (jq _)) (ao (f9 (i:=4) sy.nd rfl (Or.inl rfl) (ie (e2_n (pv 0) (EV.toB (ER.toD (ie (e2_n (pv 2) (jg (pv 3))) (fun _ _=>by rfl))))) (fun _ _=>by rfl))) (ao (ad2 PassesOwn.never rfl (aaf (aq (pv 4))) (fc (i:=5) sy.nd rfl (Or.inl rfl)) (az (qw (EW.pt (an7 (j7 aho (e2_n (pv 5) (EV.toB ak)) (jq _)) (ajs (j7 (wk hr.units) (e2_n (pv 5) (jg (pv 2))) (by with_unfolding_all rfl))))) (az (ud (EV.toR (aie wu PySem.F.slot_list_append PySem.F.type_list_append ww (pv 2) (aa (aq (pv 5)) bf))))) gr))) (az (au4 (i:=3) sy.nd rfl (Or.inl rfl) ak aw0))))) (az (dh (ni yt (by rfl) T.z_tuple nj (ea_v (ER.toD (bw adc (by rfl) T.z_sorted aas (ea_n (pv 2) dg))) dg))))))))
theorem ali(F:Fun K "is_shut" "is_shut" ad9 f fd)(T:Txt K mg):FnOk P w K mg base CX0 1 f fd ["house"] (spOf K 1 aak) :=
 g8 F ak8 rfl rfl fun cdv A outer s H E hr =>
  (az (dh (bw (af1 rfl) (by rfl) T.z_all af3 (ea_v (ER.toD (rm [] ["doors"] [none] rfl (aaf (aq (pv 0))) (fun _ _ _=>(fc (i:=0) (show(["doors"]:List Str).Nodup by decide +kernel) rfl (Or.inl rfl))) (fun _ _ _=>uo) (fun _ _ _=>(ER.toD (vg aho (e2_v (ER.toD (bw (aom rfl) (by rfl) T.z_min ar6 (ea_n (pv 0) dg))) (EV.toB ak)) (jq _)))))) dg))))
theorem ab8(F:Fun K "refuse_not_shut" "refuse_not_shut" oh f fd)(T:Txt K mg)(d6:Dd6 P w K mg base):FnOk P w K mg base CX0 2 f fd ["house"] (spOf K 1 jm) :=
 g8 F ab3 rfl rfl fun cdv A outer s H E hr =>
  (az (qw (rn (qt (ER.toD (dm d6 (hr.mono (by decide)) (by rfl) (eg_v (aq (pv 0)) bu))))) (az af6) gr))
theorem ahq(F:Fun K "is_arrows" "is_arrows" abj f fd)(T:Txt K mg)(d2:Dd2 P w K mg base)(d1:Dd1 P w K mg base):FnOk P w K mg base CX0 3 f fd ["house","thing"] (spOf K 2 ul) :=
 g8 F ahg rfl rfl fun cdv A outer s H E hr =>
  (ao (qw (rn (qt (ER.toD (dm d2 (hr.mono (by decide)) (by rfl) (eg_n (pv 1) (eg_v (ER.toD (bw kj (by rfl) T.z_len j8 (ea_n (pv 0) dg))) (eg_v (ER.toD (bw kj (by rfl) T.z_len j8 (ea_n (pv 0) dg))) bu))))))) (az (dh (EV.toR zq))) gr) (az (dh (bw (af1 rfl) (by rfl) T.z_all af3 (ea_v (ER.toD (rm [] ["arrow","doors"] [none,none] rfl (ajh (by rfl) T.z_zip (aa (aq (pv 1)) (aa (aq (pv 0)) bf))) (fun _ _ _=>(aft rfl (km (fc (i:=0) (show(["arrow","doors"]:List Str).Nodup by decide +kernel) rfl (Or.inl rfl)) (km (fc (i:=1) (show(["arrow","doors"]:List Str).Nodup by decide +kernel) rfl (Or.inl rfl)) ac4)))) (fun _ _ _=>uo) (fun _ _ _=>(ER.toD (dm d1 (hr.mono (by decide)) (by rfl) (eg_n (pv 0) (eg_v ak (eg_v (ER.toD (dq acx (e2_v (ER.toD (bw kj (by rfl) T.z_len j8 (ea_n (pv 1) dg))) (EV.toB ak)))) bu)))))))) dg)))))
theorem abq(F:Fun K "refuse_no_arrows" "refuse_no_arrows" mj f fd)(T:Txt K mg)(d8:Dd8 P w K mg base):FnOk P w K mg base CX0 4 f fd ["house","thing"] (spOf K 2 je) :=
 g8 F abg rfl rfl fun cdv A outer s H E hr =>
  (az (qw (rn (qt (ER.toD (dm d8 (hr.mono (by decide)) (by rfl) (eg_v (aq (pv 0)) (eg_v (aq (pv 1)) bu)))))) (az af6) gr))
theorem ahp(F:Fun K "last_ways" "last_ways" abi f fd)(T:Txt K mg):FnOk P w K mg base CX0 1 f fd ["house","arrows"] (spOf K 2 ug) :=
 g8 F ahf rfl rfl fun cdv A outer s H E hr =>
  (az (dh (ni yt (by rfl) T.z_tuple nj (ea_v (ER.toD (rm [] ["arrow","doors"] [none,none] rfl (ajh (by rfl) T.z_zip (aa (aq (pv 1)) (aa (aq (pv 0)) bf))) (fun _ _ _=>(aft rfl (km (fc (i:=0) (show(["arrow","doors"]:List Str).Nodup by decide +kernel) rfl (Or.inl rfl)) (km (fc (i:=1) (show(["arrow","doors"]:List Str).Nodup by decide +kernel) rfl (Or.inl rfl)) ac4)))) (fun _ _ _=>uo) (fun _ _ _=>(ER.toD (ie (e2_n (pv 1) (EV.toB (ER.toD (dq acx (e2_n (pv 0) (EV.toB ak)))))) (fun _ _=>by rfl)))))) dg))))
theorem alj(F:Fun K "is_ring" "is_ring" aea f fd)(T:Txt K mg)(d2:Dd2 P w K mg base)(d3:Dd3 P w K mg base):FnOk P w K mg base CX0 4 f fd ["house","last","thing"] (spOf K 3 mz) :=
 g8 F ak9 rfl rfl fun cdv A outer s H E hr =>
  (ao (qw (rn (qt (ER.toD (dm d2 (hr.mono (by decide)) (by rfl) (eg_n (pv 2) (eg_v ak (eg_v (ER.toD (bw kj (by rfl) T.z_len j8 (ea_n (pv 0) dg))) bu))))))) (az (dh (EV.toR zq))) gr) (ao (qw (rn (qt (ER.toD (bw (af1 rfl) (by rfl) T.z_all af3 (ea_v (ER.toD (rm ["house"] ["room","house"] [none,some 0] rfl (aaf (aq (pv 2))) (fun _ _ _=>(fc (i:=0) (show(["room","house"]:List Str).Nodup by decide +kernel) rfl (Or.inl rfl))) (fun _ _ _=>uo) (fun _ _ _=>(ER.toD (dm d3 (hr.mono (by decide)) (by rfl) (eg_n (pv 1) (eg_n (pv 0) bu))))))) dg))))) (az (dh (EV.toR zq))) gr) (ao (qw (j7 (afo hr.units) (e2_v (ER.toD (aoa rfl (by rfl) T.z_len j8 (by rfl) T.z_set aou (ea_n (pv 2) dg))) (EV.toB (ER.toD (bw kj (by rfl) T.z_len j8 (ea_n (pv 2) dg))))) (jq _)) (az (dh (EV.toR zq))) gr) (az (dh (bw (af1 rfl) (by rfl) T.z_all af3 (ea_v (ER.toD (rm ["thing","last"] ["at","room","thing","last"] [none,none,some 2,some 1] rfl (atx (by rfl) T.z_enumerate (aa (aq (pv 2)) bf)) (fun _ _ _=>(aft rfl (km (fc (i:=0) (show(["at","room","thing","last"]:List Str).Nodup by decide +kernel) rfl (Or.inl rfl)) (km (fc (i:=1) (show(["at","room","thing","last"]:List Str).Nodup by decide +kernel) rfl (Or.inl rfl)) ac4)))) (fun _ _ _=>uo) (fun _ _ _=>(ER.toD (vg (yz hr.units) (e2_v (ER.toD (ie (e2_n (pv 3) (jg (pv 1))) (fun _ _=>by rfl))) (EV.toB (ER.toD (ie (e2_n (pv 2) (EV.toB (ER.toD (dq aae (e2_v (ER.toD (dq jr (e2_n (pv 0) (EV.toB ak)))) (EV.toB (ER.toD (bw kj (by rfl) T.z_len j8 (ea_n (pv 2) dg))))))))) (fun _ _=>by rfl))))) (jq _)))))) dg)))))))
theorem ab9(F:Fun K "refuse_no_state" "refuse_no_state" ou f fd)(T:Txt K mg)(d9:Dd9 P w K mg base)(d4:Dd4 P w K mg base):FnOk P w K mg base CX0 5 f fd ["house","arrows","room"] (spOf K 3 jn) :=
 g8 F ab4 rfl rfl fun cdv A outer s H E hr =>
  (ao (ud (dm d9 (hr.mono (by decide)) (by rfl) (eg_v (aq (pv 0)) (eg_v (aq (pv 1)) bu)))) (az (ud (dm d4 (hr.mono (by decide)) (by rfl) (eg_n (pv 0) (eg_v (aq (pv 2)) bu))))))
theorem yh(F:Fun K "refuse_no_shut_state" "refuse_no_shut_state" ju f fd)(T:Txt K mg)(d12:Dd12 P w K mg base)(d7:Dd7 P w K mg base):FnOk P w K mg base CX0 6 f fd ["house","arrows","room"] (spOf K 3 fj) :=
 g8 F xx rfl rfl fun cdv A outer s H E hr =>
  (ao (ud (dm d12 (hr.mono (by decide)) (by rfl) (eg_v (aq (pv 0)) (eg_v (aq (pv 1)) (eg_v (aq (pv 2)) bu))))) (az (ud (dm d7 (hr.mono (by decide)) (by rfl) (eg_v (aq (pv 0)) bu)))))
theorem ahr(F:Fun K "gone_from" "gone_from" abk f fd)(T:Txt K mg)(d5:Dd5 P w K mg base):FnOk P w K mg base CX0 6 f fd ["house","room"] (spOf K 2 um) :=
 g8 F ahh rfl rfl fun cdv A outer s H E hr =>
  (az (dh (rm ["room","house"] ["there","room","house"] [none,some 1,some 0] rfl (aaf (ER.toD (dm d5 (hr.mono (by decide)) (by rfl) (eg_n (pv 0) (eg_v (aq (pv 1)) bu))))) (fun _ _ _=>(fc (i:=0) (show(["there","room","house"]:List Str).Nodup by decide +kernel) rfl (Or.inl rfl))) (fun _ _ _=>(aod (j7 (wk hr.units) (e2_n (pv 1) (EV.toB (ER.toD (dm d5 (hr.mono (by decide)) (by rfl) (eg_n (pv 2) (eg_n (pv 0) bu)))))) (by with_unfolding_all rfl)))) (fun _ _ _=>(aq (pv 0))))))
theorem alk(F:Fun K "is_gone" "is_gone" aeb f fd)(T:Txt K mg)(d3:Dd3 P w K mg base)(d14:Dd14 P w K mg base):FnOk P w K mg base CX0 7 f fd ["house","room","thing"] (spOf K 3 uh) :=
 g8 F ala rfl rfl fun cdv A outer s H E hr =>
  (az (dh (EV.toR (zg (ER.toD (dm d3 (hr.mono (by decide)) (by rfl) (eg_n (pv 0) (eg_v (aq (pv 2)) bu)))) (abd (ER.toD (vg (aj9 hr.units) (e2_n (pv 2) (EV.toB (ER.toD (dm d14 (hr.mono (by decide)) (by rfl) (eg_n (pv 0) (eg_v (aq (pv 1)) bu)))))) (by with_unfolding_all rfl))))))))
theorem acd(F:Fun K "is_ring_without" "is_ring_without" qb f fd)(T:Txt K mg)(d10:Dd10 P w K mg base)(d11:Dd11 P w K mg base)(d5:Dd5 P w K mg base):FnOk P w K mg base CX0 6 f fd ["house","arrows","room","thing"] (spOf K 4 ik) :=
 g8 F ab7 rfl rfl fun cdv A outer s H E hr =>
  (ao (qw (rn (qt (ER.toD (dm d11 (hr.mono (by decide)) (by rfl) (eg_n (pv 0) (eg_v (ER.toD (dm d10 (hr.mono (by decide)) (by rfl) (eg_v (aq (pv 0)) (eg_v (aq (pv 1)) bu)))) (eg_v (aq (pv 3)) bu))))))) (az (dh (EV.toR zq))) gr) (az (dh (EV.toR (zg (ER.toD (vg (wk hr.units) (e2_n (pv 2) (jg (pv 3))) (by with_unfolding_all rfl))) (abd (ER.toD (vg (aj9 hr.units) (e2_v (ER.toD (ie (e2_n (pv 3) (EV.toB ak)) (fun _ _=>by rfl))) (EV.toB (ER.toD (dm d5 (hr.mono (by decide)) (by rfl) (eg_n (pv 0) (eg_v (aq (pv 2)) bu)))))) (by with_unfolding_all rfl)))))))))
theorem ok_why_not_holds(F:Fun K "why_not_holds" "why_not_holds" s_why_not_holds f fd)(T:Txt K mg)(d13:Dd13 P w K mg base)(d2:Dd2 P w K mg base)(d15:Dd15 P w K mg base)(d16:Dd16 P w K mg base):FnOk P w K mg base CX0 8 f fd ["house","arrows","room","thing"] (spOf K 4 f_why_not_holds) :=
 g8 F sc_why_not_holds rfl rfl fun cdv A outer s H E hr =>
  (ao (ud (dm d13 (hr.mono (by decide)) (by rfl) (eg_v (aq (pv 0)) (eg_v (aq (pv 1)) (eg_v (aq (pv 2)) bu))))) (ao (qw (rn (qt (ER.toD (dm d2 (hr.mono (by decide)) (by rfl) (eg_n (pv 3) (eg_v ak (eg_v ak bu))))))) (az (dh (EV.toR zq))) gr) (ao (qw (j7 (yz hr.units) (e2_v (ER.toD (ie (e2_n (pv 3) (EV.toB ak)) (fun _ _=>by rfl))) (EV.toB lu)) (jq _)) (az (dh (dm d15 (hr.mono (by decide)) (by rfl) (eg_n (pv 0) (eg_v (aq (pv 2)) (eg_v (ER.toD (ie (e2_n (pv 3) (EV.toB ak)) (fun _ _=>by rfl))) bu)))))) gr) (az (dh (EV.toR (zg (ER.toD (vg (yz hr.units) (e2_v (ER.toD (ie (e2_n (pv 3) (EV.toB ak)) (fun _ _=>by rfl))) (EV.toB lu)) (jq _))) (abd (ER.toD (dm d16 (hr.mono (by decide)) (by rfl) (eg_v (aq (pv 0)) (eg_v (aq (pv 1)) (eg_v (aq (pv 2)) (eg_v (ER.toD (ie (e2_n (pv 3) (EV.toB ak)) (fun _ _=>by rfl))) bu))))))))))))))
theorem ahv(F:Fun K "_law_cell" "_law_cell" abo f fd)(T:Txt K mg):FnOk P w K mg base CX0 1 f fd ["script","k"] (spOf K 2 f__law_cell) :=
 g8 F ahj rfl rfl fun cdv A outer s H E hr =>
  (ao (qw (j7 am0 (e2_n (pv 1) (EV.toB (ER.toD (bw kj (by rfl) T.z_len j8 (ea_n (pv 0) dg))))) (jq _)) (az (dh (ie (e2_n (pv 0) (jg (pv 1))) (fun _ _=>by rfl)))) gr) (az (dh (EV.toR ak))))
theorem ai9(F:Fun K "_law_pen" "_law_pen" acr f fd)(T:Txt K mg):FnOk P w K mg base CX0 1 f fd ["cell"] (spOf K 1 f__law_pen) :=
 g8 F ad7 rfl rfl fun cdv A outer s H E hr =>
  (ao (f9 (i:=1) ad7.nd rfl (Or.inl rfl) (bw (axe rfl) (by rfl) T.z_max axi (ea_n (pv 0) (ea_v (ER.toD (dq acx (e2_v ak (jg (pv 0))))) dg)))) (az (dh (j5 (aa (aq (pv 1)) (aa (ER.toD (ni axf (by rfl) T.z_int aox (ea_v (ER.toD (vg aho (e2_n (pv 1) (EV.toB (ER.toD (dq amz (e2_v ak (EV.toB ak)))))) (jq _))) dg))) bf))))))
theorem ahu(F:Fun K "_law_draw" "_law_draw" abn f fd)(T:Txt K mg):FnOk P w K mg base CX0 1 f fd ["pen","many"] (spOf K 2 f__law_draw) :=
 g8 F ql rfl rfl fun cdv A outer s H E hr =>
  (ao (qw (j7 (yz hr.units) (e2_v (ER.toD (ie (e2_n (pv 0) (EV.toB ak)) (fun _ _=>by rfl))) (EV.toB ak)) (jq _)) (ao (ark (ER.toD (bw aon (by rfl) T.z_divmod aoy (ea_v (ER.toD (ie (e2_n (pv 0) (EV.toB ak)) (fun _ _=>by rfl))) (ea_n (pv 1) dg)))) (aft rfl (km (fc (i:=2) ql.nd rfl (Or.inl rfl)) (km (fc (i:=3) ql.nd rfl (Or.inl rfl)) ac4)))) (ao (ame (aq (pv 2)) (pv 0) ak) (az (dh (an9 (pv 3)))))) gr) (ao (f9 (i:=4) ql.nd rfl (Or.inl rfl) (dq aae (e2_v (ER.toD (dq ai6 (e2_v (ER.toD (dq jr (e2_v (ER.toD (dq aae (e2_v (ER.toD (ie (e2_n (pv 0) (EV.toB ak)) (fun _ _=>by rfl))) (EV.toB ak)))) (EV.toB ak)))) (EV.toB ak)))) (EV.toB ak)))) (ao (f9 (i:=4) ql.nd rfl (Or.inl rfl) (dq aae (e2_v (ER.toD (dq jr (e2_v (ER.toD (dq ai6 (e2_n (pv 4) (jg (pv 4))))) (EV.toB ak)))) (EV.toB ak)))) (ao (ame (ER.toD (dq aae (e2_v (ER.toD (dq jr (e2_v (ER.toD (dq ai6 (e2_n (pv 4) (EV.toB ak)))) (EV.toB ak)))) (EV.toB ak)))) (pv 0) ak) (az (dh (dq aae (e2_v (ER.toD (dq atg (e2_v (ER.toD (ie (e2_n (pv 0) (EV.toB ak)) (fun _ _=>by rfl))) (EV.toB ak)))) (jg (pv 1))))))))))
theorem agl(F:Fun K "_law_whole" "_law_whole" zu f fd)(T:Txt K mg):FnOk P w K mg base CX0 1 f fd ["thing"] (spOf K 1 lr) :=
 g8 F agb rfl rfl fun cdv A outer s H E hr =>
  (az (dh (EV.toR (zg (abe (t:=.int) (afd (by rfl) T.z_int aox) (by rfl) T.z_isinstance gf (jg (pv 0))) (abd (ar4 (abe (t:=.bool) (afd (by rfl) T.z_bool aju) (by rfl) T.z_isinstance gf (jg (pv 0)))))))))
theorem aja(F:Fun K "_law_odd" "_law_odd" acs f fd)(T:Txt K mg)(d20:Dd20 P w K mg base):FnOk P w K mg base CX0 2 f fd ["pen"] (spOf K 1 f__law_odd) :=
 g8 F ad8 rfl rfl fun cdv A outer s H E hr =>
  (ao (f9 (i:=1) ad8.nd rfl (Or.inl rfl) (j5 (aa an8 (aa zq (aa zq (aa (adq ak) (aa lu (aa lu (aa (cz bf) (aa (ER.toD (j5 bf)) (aa (cz (aa ak bf)) (aa (ER.toD (j5 (aa ak bf))) (aa aq2 (aa (cz (aa ak (aa ak bf))) (aa (ER.toD (dq amz (e2_v ak (EV.toB ak)))) (aa (cz (aa (cz (aa ak bf)) bf)) (aa lu bf))))))))))))))))) (az (dh (ie (e2_v (ER.toD (dq jr (e2_n (pv 1) (EV.toB (ER.toD (j5 (aa (cz (aa (cz (aa (adq ak) bf)) (aa (cz (aa ak (aa ak bf))) bf))) bf))))))) (EV.toB (ER.toD (dm d20 (hr.mono (by decide)) (by rfl) (eg_n (pv 0) (eg_v ak bu)))))) (fun _ _=>by rfl)))))
theorem aeh(F:Fun K "_law_reached" "_law_reached" vp f fd)(T:Txt K mg):FnOk P w K mg base CX0 1 f fd ["house","room"] (spOf K 2 jt) :=
 g8 F j0 rfl rfl fun cdv A outer s H E hr =>
  (ao (f9 (i:=2) j0.nd rfl (Or.inr rfl) (j5 (aa (aq (pv 1)) bf))) (ao (f9 (i:=3) j0.nd rfl (Or.inl rfl) (EV.toR ak)) (ao (af5 fuel PassesOwn.never (j7 am0 (e2_n (pv 3) (EV.toB (ER.toD (bw kj (by rfl) T.z_len j8 (ea_n (pv 2) dg))))) (jq _)) (ao (qw (j7 aho (e2_v (ER.toD (ie (e2_n (pv 2) (jg (pv 3))) (fun _ _=>by rfl))) (EV.toB ak)) (jq _)) (az (f9 (i:=2) j0.nd rfl (Or.inr rfl) (dq jr (e2_n (pv 2) (EV.toB (ER.toD (rm ["found"] ["door","found"] [none,some 2] rfl (aaf (ER.toD (adt rfl (by rfl) T.z_sorted aas (by rfl) T.z_set aou (ea_v (ER.toD (ie (e2_n (pv 0) (EV.toB (ER.toD (ie (e2_n (pv 2) (jg (pv 3))) (fun _ _=>by rfl))))) (fun _ _=>by rfl))) dg)))) (fun _ _ _=>(fc (i:=0) (show(["door","found"]:List Str).Nodup by decide +kernel) rfl (Or.inl rfl))) (fun _ _ _=>(aod (j7 (wk hr.units) (e2_n (pv 0) (jg (pv 1))) (by with_unfolding_all rfl)))) (fun _ _ _=>(aq (pv 0)))))))))) gr) (az (f9 (i:=3) j0.nd rfl (Or.inl rfl) (dq jr (e2_n (pv 3) (EV.toB ak))))))) (az (dh (an9 (pv 2)))))))
theorem ahs(F:Fun K "_law_shut" "_law_shut" abl f fd)(T:Txt K mg)(d20:Dd20 P w K mg base):FnOk P w K mg base CX0 2 f fd ["pen","most","doors"] (spOf K 3 f__law_shut) :=
 g8 F lq rfl rfl fun cdv A outer s H E hr =>
  (ao (f9 (i:=3) lq.nd rfl (Or.inr rfl) (dq jr (e2_v ak (EV.toB (ER.toD (dm d20 (hr.mono (by decide)) (by rfl) (eg_n (pv 0) (eg_n (pv 1) bu)))))))) (ao (f9 (i:=4) lq.nd rfl (Or.inl rfl) (j5 bf)) (ao (ad2 PassesOwn.never rfl (aag (by rfl) T.z_range (aa (aq (pv 3)) bf)) (fc (i:=5) lq.nd rfl (Or.inl rfl)) (ao (f9 (i:=6) lq.nd rfl (Or.inl rfl) (dq jr (e2_v ak (EV.toB (ER.toD (dm d20 (hr.mono (by decide)) (by rfl) (eg_n (pv 0) (eg_n (pv 2) bu)))))))) (ao (asj (i:=7) ["pen","many"] ["door","pen","many"] [none,some 0,some 3] lq.nd rfl (Or.inl rfl) rfl (aag (by rfl) T.z_range (aa (aq (pv 6)) bf)) (fun _ _ _=>(fc (i:=0) (show(["door","pen","many"]:List Str).Nodup by decide +kernel) rfl (Or.inl rfl))) (fun _ _ _=>uo) (fun _ _ _=>(ER.toD (dm d20 (hr.mono (by decide)) (by rfl) (eg_n (pv 1) (eg_n (pv 2) bu)))))) (ao (qw (j7 (yz hr.units) (e2_v (ER.toD (dm d20 (hr.mono (by decide)) (by rfl) (eg_n (pv 0) (eg_v ak bu)))) (EV.toB ak)) (jq _)) (az (ame (ER.toD (dq aae (e2_v (ER.toD (dq jr (e2_n (pv 5) (EV.toB ak)))) (jg (pv 3))))) (pv 7) ak)) gr) (az (ud (EV.toR (aie wu PySem.F.slot_list_append PySem.F.type_list_append ww (pv 4) (aa (ER.toD (ni yt (by rfl) T.z_tuple nj (ea_n (pv 7) dg))) bf))))))))) (az (dh (ni yt (by rfl) T.z_tuple nj (ea_n (pv 4) dg)))))))
theorem afe(F:Fun K "_law_arrows" "_law_arrows" ye f fd)(T:Txt K mg)(d20:Dd20 P w K mg base):FnOk P w K mg base CX0 2 f fd ["pen","house"] (spOf K 2 f__law_arrows) :=
 g8 F afa rfl rfl fun cdv A outer s H E hr =>
  (az (dh (ni yt (by rfl) T.z_tuple nj (ea_v (ER.toD (rm ["pen"] ["doors","pen"] [none,some 0] rfl (aaf (aq (pv 1))) (fun _ _ _=>(fc (i:=0) (show(["doors","pen"]:List Str).Nodup by decide +kernel) rfl (Or.inl rfl))) (fun _ _ _=>uo) (fun _ _ _=>(ER.toD (dm d20 (hr.mono (by decide)) (by rfl) (eg_n (pv 1) (eg_v (ER.toD (bw kj (by rfl) T.z_len j8 (ea_n (pv 0) dg))) bu))))))) dg))))
theorem aht(F:Fun K "_law_last" "_law_last" abm f fd)(T:Txt K mg):FnOk P w K mg base CX0 1 f fd ["house","arrows"] (spOf K 2 qg) :=
 g8 F ahi rfl rfl fun cdv A outer s H E hr =>
  (az (dh (rm [] ["doors","arrow"] [none,none] rfl (ajh (by rfl) T.z_zip (aa (aq (pv 0)) (aa (aq (pv 1)) bf))) (fun _ _ _=>(aft rfl (km (fc (i:=0) (show(["doors","arrow"]:List Str).Nodup by decide +kernel) rfl (Or.inl rfl)) (km (fc (i:=1) (show(["doors","arrow"]:List Str).Nodup by decide +kernel) rfl (Or.inl rfl)) ac4)))) (fun _ _ _=>uo) (fun _ _ _=>(ER.toD (ie (e2_n (pv 0) (EV.toB (ER.toD (dq aae (e2_v (ER.toD (dq acx (e2_n (pv 1) (EV.toB ak)))) (EV.toB (ER.toD (bw kj (by rfl) T.z_len j8 (ea_n (pv 0) dg))))))))) (fun _ _=>by rfl)))))))
theorem agm(F:Fun K "_law_rings" "_law_rings" zx f fd)(T:Txt K mg)(d26:Dd26 P w K mg base):FnOk P w K mg base CX0 2 f fd ["house","arrows","rooms"] (spOf K 3 qp) :=
 g8 F lw rfl rfl fun cdv A outer s H E hr =>
  (ao (f9 (i:=3) lw.nd rfl (Or.inl rfl) (dm d26 (hr.mono (by decide)) (by rfl) (eg_v (aq (pv 0)) (eg_v (aq (pv 1)) bu)))) (ao (f9 (i:=4) lw.nd rfl (Or.inl rfl) (j5 bf)) (ao (ad2 PassesOwn.never rfl (aaf (aq (pv 2))) (fc (i:=5) lw.nd rfl (Or.inl rfl)) (ao (f9 (i:=6) lw.nd rfl (Or.inl rfl) (j5 (aa (aq (pv 5)) bf))) (ao (af5 fuel PassesOwn.never (EW.pt (an7 (j7 (wk hr.units) (e2_v (ER.toD (ie (e2_n (pv 3) (EV.toB (ER.toD (ie (e2_n (pv 6) (EV.toB (adq ak))) (fun _ _=>by rfl))))) (fun _ _=>by rfl))) (jg (pv 6))) (by with_unfolding_all rfl)) (ajs (j7 aho (e2_v (ER.toD (ie (e2_n (pv 3) (EV.toB (ER.toD (ie (e2_n (pv 6) (EV.toB (adq ak))) (fun _ _=>by rfl))))) (fun _ _=>by rfl))) (EV.toB ak)) (jq _))))) (az (ud (EV.toR (aie wu PySem.F.slot_list_append PySem.F.type_list_append ww (pv 6) (aa (ER.toD (ie (e2_n (pv 3) (EV.toB (ER.toD (ie (e2_n (pv 6) (EV.toB (adq ak))) (fun _ _=>by rfl))))) (fun _ _=>by rfl))) bf)))))) (az (qw (EW.pt (an7 (j7 (yz hr.units) (e2_v (ER.toD (ie (e2_n (pv 3) (EV.toB (ER.toD (ie (e2_n (pv 6) (EV.toB (adq ak))) (fun _ _=>by rfl))))) (fun _ _=>by rfl))) (jg (pv 5))) (jq _)) (ajs (j7 (yz hr.units) (e2_v (ER.toD (bw (aom rfl) (by rfl) T.z_min ar6 (ea_n (pv 6) dg))) (jg (pv 5))) (jq _))))) (az (ud (EV.toR (aie wu PySem.F.slot_list_append PySem.F.type_list_append ww (pv 4) (aa (ER.toD (ni yt (by rfl) T.z_tuple nj (ea_n (pv 6) dg))) bf))))) gr))))) (az (dh (bw aly (by rfl) T.z_sorted aas (ea_n (pv 4) dg)))))))
theorem ajb(F:Fun K "_law_due" "_law_due" acu f fd)(T:Txt K mg)(d23:Dd23 P w K mg base)(d21:Dd21 P w K mg base)(d26:Dd26 P w K mg base):FnOk P w K mg base CX0 2 f fd ["house","arrows","room","thing"] (spOf K 4 cg) :=
 g8 F abh rfl rfl fun cdv A outer s H E hr =>
  (ao (qw (EW.pt (alw (rn (qt (abe (t:=.tuple) (afd (by rfl) T.z_tuple nj) (by rfl) T.z_isinstance gf (jg (pv 3))))) (alw (j7 (afo hr.units) (e2_v (ER.toD (bw kj (by rfl) T.z_len j8 (ea_n (pv 3) dg))) (EV.toB ak)) (jq _)) (ako (rn (qt (abe (t:=.str) (afd (by rfl) T.z_str axh) (by rfl) T.z_isinstance gf (EV.toB (ER.toD (ie (e2_n (pv 3) (EV.toB ak)) (fun _ _=>by rfl))))))))))) (az (dh (EV.toR zq))) gr) (ao (f9 (i:=4) abh.nd rfl (Or.inr rfl) (dm d23 (hr.mono (by decide)) (by rfl) (eg_n (pv 0) (eg_v (aq (pv 2)) bu)))) (ao (qw (j7 (yz hr.units) (e2_v (ER.toD (ie (e2_n (pv 3) (EV.toB ak)) (fun _ _=>by rfl))) (EV.toB lu)) (jq _)) (az (dh (EV.toR (zg (ER.toD (dm d21 (hr.mono (by decide)) (by rfl) (eg_v (ER.toD (ie (e2_n (pv 3) (EV.toB ak)) (fun _ _=>by rfl))) bu))) (zg (ER.toD (vg (aj9 hr.units) (e2_v (ER.toD (ie (e2_n (pv 3) (EV.toB ak)) (fun _ _=>by rfl))) (jg (pv 4))) (by with_unfolding_all rfl))) (abd (ER.toD (vg (wk hr.units) (e2_n (pv 2) (EV.toB (ER.toD (dm d23 (hr.mono (by decide)) (by rfl) (eg_n (pv 0) (eg_v (ER.toD (ie (e2_n (pv 3) (EV.toB ak)) (fun _ _=>by rfl))) bu)))))) (by with_unfolding_all rfl))))))))) gr) (ao (qw (EW.pt (alw (j7 (afo hr.units) (e2_v (ER.toD (ie (e2_n (pv 3) (EV.toB ak)) (fun _ _=>by rfl))) (EV.toB lu)) (jq _)) (alw (rn (qt (abe (t:=.tuple) (afd (by rfl) T.z_tuple nj) (by rfl) T.z_isinstance gf (EV.toB (ER.toD (ie (e2_n (pv 3) (EV.toB ak)) (fun _ _=>by rfl))))))) (ako (j7 (yz hr.units) (e2_v (ER.toD (ie (e2_n (pv 3) (EV.toB ak)) (fun _ _=>by rfl))) (EV.toB (cz bf))) (jq _)))))) (az (dh (EV.toR zq))) gr) (ao (qw (rn (qt (ER.toD (bw (af1 rfl) (by rfl) T.z_all af3 (ea_v (ER.toD (rm ["rooms","room"] ["one","rooms","room"] [none,some 4,some 2] rfl (aaf (ER.toD (ie (e2_n (pv 3) (EV.toB ak)) (fun _ _=>by rfl)))) (fun _ _ _=>(fc (i:=0) (show(["one","rooms","room"]:List Str).Nodup by decide +kernel) rfl (Or.inl rfl))) (fun _ _ _=>uo) (fun _ _ _=>(zg (ER.toD (dm d21 (hr.mono (by decide)) (by rfl) (eg_n (pv 0) bu))) (zg (ER.toD (vg (aj9 hr.units) (e2_n (pv 0) (jg (pv 1))) (by with_unfolding_all rfl))) (abd (ER.toD (vg (afo hr.units) (e2_n (pv 0) (jg (pv 2))) (jq _))))))))) dg))))) (az (dh (EV.toR zq))) gr) (ao (f9 (i:=5) abh.nd rfl (Or.inr rfl) (dm d26 (hr.mono (by decide)) (by rfl) (eg_v (aq (pv 0)) (eg_v (aq (pv 1)) bu)))) (ao (qw (j7 (afo hr.units) (e2_v (ER.toD (adt rfl (by rfl) T.z_sorted aas (by rfl) T.z_set aou (ea_v (ER.toD (ie (e2_n (pv 3) (EV.toB ak)) (fun _ _=>by rfl))) dg))) (EV.toB (ER.toD (bw adc (by rfl) T.z_sorted aas (ea_v (ER.toD (ie (e2_n (pv 3) (EV.toB ak)) (fun _ _=>by rfl))) dg))))) (jq _)) (az (dh (EV.toR zq))) gr) (az (dh (bw (af1 rfl) (by rfl) T.z_all af3 (ea_v (ER.toD (rm ["thing","last"] ["at","thing","last"] [none,some 3,some 5] rfl (aag (by rfl) T.z_range (aa (ER.toD (bw kj (by rfl) T.z_len j8 (ea_v (ER.toD (ie (e2_n (pv 3) (EV.toB ak)) (fun _ _=>by rfl))) dg))) bf)) (fun _ _ _=>(fc (i:=0) (show(["at","thing","last"]:List Str).Nodup by decide +kernel) rfl (Or.inl rfl))) (fun _ _ _=>uo) (fun _ _ _=>(ER.toD (vg (yz hr.units) (e2_v (ER.toD (ie (e2_n (pv 2) (EV.toB (ER.toD (ie (e2_v (ER.toD (ie (e2_n (pv 1) (EV.toB ak)) (fun _ _=>by rfl))) (EV.toB (ER.toD (dq acx (e2_n (pv 0) (EV.toB ak)))))) (fun _ _=>by rfl))))) (fun _ _=>by rfl))) (EV.toB (ER.toD (ie (e2_v (ER.toD (ie (e2_n (pv 1) (EV.toB ak)) (fun _ _=>by rfl))) (jg (pv 0))) (fun _ _=>by rfl))))) (jq _)))))) dg)))))))))))
theorem ago(F:Fun K "_law_paper" "_law_paper" aaa f fd)(T:Txt K mg)(d27:Dd27 P w K mg base)(d20:Dd20 P w K mg base):FnOk P w K mg base CX0 3 f fd ["pen","house","arrows"] (spOf K 3 f__law_paper) :=
 g8 F j6 rfl rfl fun cdv A outer s H E hr =>
  (ao (f9 (i:=3) j6.nd rfl (Or.inr rfl) (bw kj (by rfl) T.z_len j8 (ea_n (pv 1) dg))) (ao (f9 (i:=4) j6.nd rfl (Or.inl rfl) (dm d27 (hr.mono (by decide)) (by rfl) (eg_v (aq (pv 1)) (eg_v (aq (pv 2)) (eg_v (ER.toD (aif rfl (by rfl) T.z_list (by rfl) T.z_range (aa (aq (pv 3)) bf))) bu))))) (ao (f9 (i:=5) j6.nd rfl (Or.inl rfl) (ie (e2_n (pv 4) (EV.toB (ER.toD (dm d20 (hr.mono (by decide)) (by rfl) (eg_n (pv 0) (eg_v (ER.toD (bw kj (by rfl) T.z_len j8 (ea_n (pv 4) dg))) bu)))))) (fun _ _=>by rfl))) (ao (f9 (i:=6) j6.nd rfl (Or.inl rfl) (dm d20 (hr.mono (by decide)) (by rfl) (eg_n (pv 0) (eg_v (ER.toD (bw kj (by rfl) T.z_len j8 (ea_n (pv 5) dg))) bu)))) (ao (f9 (i:=7) j6.nd rfl (Or.inl rfl) (j5 (aa (cz (aa lu (aa (ER.toD (dm d20 (hr.mono (by decide)) (by rfl) (eg_n (pv 0) (eg_n (pv 3) bu)))) bf))) (aa (cz (aa lu (aa (ER.toD (dq jr (e2_v (ER.toD (ac9 (pv 5) (abx (aq (pv 6))) aez)) (EV.toB (ER.toD (ac9 (pv 5) aez (abx (aq (pv 6))))))))) bf))) (aa (cz (aa lu (aa (aq (pv 5)) bf))) bf))))) (ao (ud (EV.toR (aie wu PySem.F.slot_list_append PySem.F.type_list_append ww (pv 7) (aa (cz (aa lu (aa (ER.toD (ni yt (by rfl) T.z_tuple nj (ea_v (ER.toD (rm ["pen","many"] ["turn","pen","many"] [none,some 0,some 3] rfl (aag (by rfl) T.z_range (aa (ER.toD (dq jr (e2_v ak (EV.toB (ER.toD (dm d20 (hr.mono (by decide)) (by rfl) (eg_n (pv 0) (eg_v ak bu)))))))) bf)) (fun _ _ _=>(fc (i:=0) (show(["turn","pen","many"]:List Str).Nodup by decide +kernel) rfl (Or.inl rfl))) (fun _ _ _=>uo) (fun _ _ _=>(ER.toD (dm d20 (hr.mono (by decide)) (by rfl) (eg_n (pv 1) (eg_n (pv 2) bu))))))) dg))) bf))) bf)))) (az (dh (ie (e2_n (pv 7) (EV.toB (ER.toD (dm d20 (hr.mono (by decide)) (by rfl) (eg_n (pv 0) (eg_v ak bu)))))) (fun _ _=>by rfl))))))))))
theorem ahw(F:Fun K "_law_bent" "_law_bent" abp f fd)(T:Txt K mg)(d20:Dd20 P w K mg base):FnOk P w K mg base CX0 2 f fd ["pen","house","thing"] (spOf K 3 f__law_bent) :=
 g8 F jo rfl rfl fun cdv A outer s H E hr =>
  (ao (ark (aq (pv 2)) (aft rfl (km (fc (i:=3) jo.nd rfl (Or.inl rfl)) (km (fc (i:=4) jo.nd rfl (Or.inl rfl)) ac4)))) (ao (f9 (i:=5) jo.nd rfl (Or.inl rfl) (ie (e2_v (ER.toD (j5 (aa (adq ak) (aa (ER.toD (bw kj (by rfl) T.z_len j8 (ea_n (pv 1) dg))) (aa zq (aa an8 (aa lu (aa (ER.toD (j5 (aa ak bf))) (aa (cz (aa ak bf)) (aa zq (aa ak (aa (cz bf) (aa (cz (aa (cz (aa ak bf)) bf)) bf))))))))))))) (EV.toB (ER.toD (dm d20 (hr.mono (by decide)) (by rfl) (eg_n (pv 0) (eg_v ak bu)))))) (fun _ _=>by rfl))) (ao (f9 (i:=6) jo.nd rfl (Or.inl rfl) (j5 (aa (cz (aa lu (aa (aq (pv 4)) bf))) (aa (cz (aa (aq (pv 3)) (aa (aq (pv 5)) bf))) (aa (ER.toD (j5 (aa (aq (pv 3)) (aa (aq (pv 4)) bf)))) (aa (cz (aa (aq (pv 3)) bf)) (aa (cz (aa (aq (pv 3)) (aa (aq (pv 4)) (aa ak bf)))) (aa (cz (aa (aq (pv 4)) (aa (aq (pv 3)) bf))) (aa (aq (pv 4)) (aa (cz (aa lu (aa (aq (pv 4)) bf))) bf)))))))))) (ao (f9 (i:=6) jo.nd rfl (Or.inl rfl) (dq jr (e2_n (pv 6) (EV.toB (ER.toD (j5 (aa (cz (aa lu (aa (aq (pv 4)) bf))) (aa (cz (aa (aq (pv 3)) (aa (cz (aa (aq (pv 4)) bf)) bf))) (aa (cz (aa (aq (pv 3)) (aa (ER.toD (j5 (aa (aq (pv 4)) bf))) bf))) bf))))))))) (ao (qw (qt (abe (t:=.tuple) (afd (by rfl) T.z_tuple nj) (by rfl) T.z_isinstance gf (jg (pv 4)))) (ao (f9 (i:=6) jo.nd rfl (Or.inl rfl) (dq jr (e2_n (pv 6) (EV.toB (ER.toD (j5 (aa (cz (aa (aq (pv 3)) (aa (ER.toD (ni aui (by rfl) T.z_list aow (ea_n (pv 4) dg))) bf))) (aa (cz (aa (aq (pv 3)) (aa (ER.toD (dq jr (e2_n (pv 4) (EV.toB (ER.toD (ac9 (pv 4) aez (abx ak))))))) bf))) (aa (cz (aa (aq (pv 3)) (aa (ER.toD (aub (aq (pv 4)) (adq ak))) bf))) (aa (cz (aa (aq (pv 3)) (aa (ER.toD (ac9 (pv 4) (abx ak) aez)) bf))) bf)))))))))) (az (f9 (i:=6) jo.nd rfl (Or.inl rfl) (dq jr (e2_n (pv 6) (EV.toB (ER.toD (j5 (aa (cz (aa (aq (pv 3)) (aa (ER.toD (dq jr (e2_n (pv 4) (EV.toB (cz (aa (aq (pv 5)) bf)))))) bf))) (aa (cz (aa (aq (pv 3)) (aa (ER.toD (dq jr (e2_v (cz (aa (aq (pv 5)) bf)) (EV.toB (ER.toD (ac9 (pv 4) (abx ak) aez)))))) bf))) bf)))))))))) gr) (az (dh (ie (e2_n (pv 6) (EV.toB (ER.toD (dm d20 (hr.mono (by decide)) (by rfl) (eg_n (pv 0) (eg_v (ER.toD (bw kj (by rfl) T.z_len j8 (ea_n (pv 6) dg))) bu)))))) (fun _ _=>by rfl)))))))))
theorem agn(F:Fun K "_law_right" "_law_right" zy f fd)(T:Txt K mg)(d17:Dd17 P w K mg base)(d28:Dd28 P w K mg base):FnOk P w K mg base CX0 9 f fd ["house","arrows","room","thing"] (spOf K 4 jf) :=
 g8 F yc rfl rfl fun cdv A outer s H E hr =>
  (ao (f9 (i:=4) yc.nd rfl (Or.inl rfl) (bw (aol hr.gd hr.units) (by rfl) T.z_repr aov (ea_n (pv 3) dg))) (ao (f9 (i:=5) yc.nd rfl (Or.inl rfl) (dm d17 (hr.mono (by decide)) (by rfl) (eg_v (aq (pv 0)) (eg_v (aq (pv 1)) (eg_v (aq (pv 2)) (eg_n (pv 3) bu)))))) (ao (qw (EW.pt (alw (rn (qt (abe (t:=.bool) (afd (by rfl) T.z_bool aju) (by rfl) T.z_isinstance gf (jg (pv 5))))) (ako (j7 (afo hr.units) (e2_n (pv 5) (EV.toB (ER.toD (dm d28 (hr.mono (by decide)) (by rfl) (eg_v (aq (pv 0)) (eg_v (aq (pv 1)) (eg_v (aq (pv 2)) (eg_n (pv 3) bu)))))))) (jq _))))) (az (dh (EV.toR zq))) gr) (az (dh (EV.toR (zg (ER.toD (vg (yz hr.units) (e2_v (ER.toD (dm d17 (hr.mono (by decide)) (by rfl) (eg_v (aq (pv 0)) (eg_v (aq (pv 1)) (eg_v (aq (pv 2)) (eg_n (pv 3) bu)))))) (jg (pv 5))) (jq _))) (abd (ER.toD (vg (yz hr.units) (e2_v (ER.toD (bw (aol hr.gd hr.units) (by rfl) T.z_repr aov (ea_n (pv 3) dg))) (jg (pv 4))) (jq _)))))))))))
theorem awa(F:Fun K "law" "law" agc f fd)(T:Txt K mg)(d31:Dd31 P w K mg base)(d18:Dd18 P w K mg base)(d19:Dd19 P w K mg base)(d20:Dd20 P w K mg base)(d24:Dd24 P w K mg base)(d25:Dd25 P w K mg base)(d29:Dd29 P w K mg base)(d30:Dd30 P w K mg base)(d22:Dd22 P w K mg base):FnOk P w K mg base CX0 10 f fd ["script"] (spOf K 1 an6) :=
 g8 F aa8 rfl rfl fun cdv A outer s H E hr =>
  (ao (ad2 PassesOwn.never rfl (aaf (ER.toD (j5 (aa (cz (aa lu (aa ak bf))) (aa (cz (aa lu (aa ak bf))) (aa (cz (aa lu (aa (cz (aa ak bf)) bf))) (aa (cz (aa lu (aa (cz (aa ak bf)) bf))) (aa (cz (aa lu (aa (cz bf) bf))) (aa an8 bf))))))))) (fc (i:=1) aa8.nd rfl (Or.inl rfl)) (az (qw (EW.pt (alw (rn (qt (ER.toD (dm d31 (hr.mono (by decide)) (by rfl) (eg_v (cz (aa (cz (aa ak (aa ak bf))) (aa (cz (aa ak bf)) bf))) (eg_v (cz (aa ak (aa ak bf))) (eg_v ak (eg_n (pv 1) bu)))))))) (ako (rn (qt (ER.toD (dm d31 (hr.mono (by decide)) (by rfl) (eg_v (cz (aa (cz (aa ak bf)) bf)) (eg_v (cz (aa ak bf)) (eg_v ak (eg_n (pv 1) bu))))))))))) (az (dh (EV.toR zq))) gr))) (ao (ad2 PassesOwn.never rfl (aaf (ER.toD (dq jr (e2_v (ER.toD (j5 (aa (ER.toD (dm d18 (hr.mono (by decide)) (by rfl) (eg_n (pv 0) (eg_v ak bu)))) bf))) (EV.toB (ER.toD (ac9 (pv 0) (abx ak) (abx ak)))))))) (fc (i:=2) aa8.nd rfl (Or.inl rfl)) (ao (f9 (i:=3) aa8.nd rfl (Or.inl rfl) (dm d19 (hr.mono (by decide)) (by rfl) (eg_n (pv 2) bu))) (ao (f9 (i:=4) aa8.nd rfl (Or.inl rfl) (dm d24 (hr.mono (by decide)) (by rfl) (eg_n (pv 3) (eg_v (ER.toD (ie (e2_v (ER.toD (j5 (aa ak (aa ak (aa ak bf))))) (EV.toB (ER.toD (dm d20 (hr.mono (by decide)) (by rfl) (eg_n (pv 3) (eg_v ak bu)))))) (fun _ _=>by rfl))) (eg_v ak bu))))) (ao (f9 (i:=5) aa8.nd rfl (Or.inl rfl) (dm d25 (hr.mono (by decide)) (by rfl) (eg_n (pv 3) (eg_v (aq (pv 4)) bu)))) (ao (f9 (i:=6) aa8.nd rfl (Or.inl rfl) (dm d20 (hr.mono (by decide)) (by rfl) (eg_n (pv 3) (eg_v (ER.toD (bw kj (by rfl) T.z_len j8 (ea_n (pv 4) dg))) bu)))) (az (ad2 PassesOwn.never rfl (aag (by rfl) T.z_range (aa ak bf)) (fc (i:=7) aa8.nd rfl (Or.inl rfl)) (ao (f9 (i:=1) aa8.nd rfl (Or.inl rfl) (dm d29 (hr.mono (by decide)) (by rfl) (eg_n (pv 3) (eg_v (aq (pv 4)) (eg_v (aq (pv 5)) bu))))) (az (ad2 PassesOwn.never rfl (aaf (ER.toD (j5 (aa (aq (pv 1)) (aa (ER.toD (dm d30 (hr.mono (by decide)) (by rfl) (eg_n (pv 3) (eg_n (pv 4) (eg_v (aq (pv 1)) bu))))) (aa (ER.toD (dm d22 (hr.mono (by decide)) (by rfl) (eg_n (pv 3) bu))) bf)))))) (fc (i:=8) aa8.nd rfl (Or.inl rfl)) (az (qw (rn (qt (ER.toD (dm d31 (hr.mono (by decide)) (by rfl) (eg_v (aq (pv 4)) (eg_v (aq (pv 5)) (eg_v (aq (pv 6)) (eg_n (pv 8) bu)))))))) (az (dh (EV.toR zq))) gr)))))))))))) (az (dh (EV.toR zq)))))
end
abbrev Q(K:Fg9)(x:Str)(st:Stmt)(f:Addr)(oc:Value)(od:Option Addr)(kV dc pm:Value)(an:Option Addr)(cd ct:Value)(sl:Array (Option Value)):Prop:=nsIn K mainGlobals x=some (some (.ref f))/\K.lookup f=some ⟨oc,od,.func (fnOf x x (jw st) (jj st) (au st) .none kV dc pm an cd ct),sl⟩/\codeIn K cd x=true/\keepIn K (.ref f)=true
section
variable{K:Fg9}{x:Str}{st:Stmt}{f:Addr}{oc:Value}{od:Option Addr}{kV dc pm:Value}{an:Option Addr}{cd ct:Value}{sl:Array (Option Value)}(q:Q K x st f oc od kV dc pm an cd ct sl){h:Heap}{mg:Str->Option Value}
include q
theorem Q.F:Fun K x x st f (fnOf x x (jw st) (jj st) (au st) .none kV dc pm an cd ct):=ar3 q.2.1 q.2.2.1 q.2.2.2
theorem Q.E{ps:List Str}(X:K.In h)(G:h.Ns mainGlobals mg)(b:∀(kV doc pm:Value) (an:Option Addr) (cdv ct:Value) (us:List Value),us.length=ps.length->bindArgs (fnOf x x (jw st) (jj st) (au st) .none kV doc pm an cdv ct) ⟨us,[]⟩=pure (ps.zip us)):mg x=some (.ref f)/\keepIn K (.ref f)=true/\Binds K (fnOf x x (jw st) (jj st) (au st) .none kV dc pm an cd ct) ps []:=⟨mg_of X G q.1,q.2.2.2,(Q.F q).binds b⟩
theorem Q.E1{p0:Str}(X:K.In h)(G:h.Ns mainGlobals mg)(b:∀(kV doc pm:Value) (an:Option Addr) (cdv ct u0:Value),bindArgs (fnOf x x (jw st) (jj st) (au st) .none kV doc pm an cdv ct) ⟨[u0],[]⟩=pure ([p0].zip [u0]):=by intros;rfl):mg x=some (.ref f)/\keepIn K (.ref f)=true/\Binds K (fnOf x x (jw st) (jj st) (au st) .none kV dc pm an cd ct) [p0] []:=q.E X G fun _ _ _ _ _ _ us hl=>by obtain⟨_,rfl⟩:=ln1 hl;apply b
theorem Q.E2{p0 p1:Str}(X:K.In h)(G:h.Ns mainGlobals mg)(b:∀(kV doc pm:Value) (an:Option Addr) (cdv ct u0 u1:Value),bindArgs (fnOf x x (jw st) (jj st) (au st) .none kV doc pm an cdv ct) ⟨[u0,u1],[]⟩=pure ([p0,p1].zip [u0,u1]):=by intros;rfl):mg x=some (.ref f)/\keepIn K (.ref f)=true/\Binds K (fnOf x x (jw st) (jj st) (au st) .none kV dc pm an cd ct) [p0,p1] []:=q.E X G fun _ _ _ _ _ _ us hl=>by obtain⟨_,_,rfl⟩:=ln2 hl;apply b
theorem Q.E3{p0 p1 p2:Str}(X:K.In h)(G:h.Ns mainGlobals mg)(b:∀(kV doc pm:Value) (an:Option Addr) (cdv ct u0 u1 u2:Value),bindArgs (fnOf x x (jw st) (jj st) (au st) .none kV doc pm an cdv ct) ⟨[u0,u1,u2],[]⟩=pure ([p0,p1,p2].zip [u0,u1,u2]):=by intros;rfl):mg x=some (.ref f)/\keepIn K (.ref f)=true/\Binds K (fnOf x x (jw st) (jj st) (au st) .none kV dc pm an cd ct) [p0,p1,p2] []:=q.E X G fun _ _ _ _ _ _ us hl=>by obtain⟨_,_,_,rfl⟩:=ln3 hl;apply b
theorem Q.E4{p0 p1 p2 p3:Str}(X:K.In h)(G:h.Ns mainGlobals mg)(b:∀(kV doc pm:Value) (an:Option Addr) (cdv ct u0 u1 u2 u3:Value),bindArgs (fnOf x x (jw st) (jj st) (au st) .none kV doc pm an cdv ct) ⟨[u0,u1,u2,u3],[]⟩=pure ([p0,p1,p2,p3].zip [u0,u1,u2,u3]):=by intros;rfl):mg x=some (.ref f)/\keepIn K (.ref f)=true/\Binds K (fnOf x x (jw st) (jj st) (au st) .none kV dc pm an cd ct) [p0,p1,p2,p3] []:=q.E X G fun _ _ _ _ _ _ us hl=>by obtain⟨_,_,_,_,rfl⟩:=ln4 hl;apply b
end
theorem axl{l:PySem.W.OpenLaw}{w:World}{K:Fg9}{h:Heap}{mg:Str->Option Value}(X:K.In h)(G:h.Ns mainGlobals mg)(hfa:mg "law" = some (.ref fa))
  (q0:Q K "is_whole" acq f0' o0 p0 v0 t0 m0 n0 c0 r0 z0)
  (q1:Q K "is_whole_within" ph f1' o1 p1 v1 t1 m1 n1 c1 r1 z1)
  (q2:Q K "is_tuple_within" pq f2' o2 p2 v2 t2 m2 n2 c2 r2 z2)
  (q3:Q K "is_room_number" qy f3' o3 p3 v3 t3 m3 n3 c3 r3 z3)
  (q4:Q K "refuse_no_room" qx f4' o4 p4 v4 t4 m4 n4 c4 r4 z4)
  (q5:Q K "come_to" aec f5' o5 p5 v5 t5 m5 n5 c5 r5 z5)
  (q6:Q K "is_shut" ad9 f6' o6 p6 v6 t6 m6 n6 c6 r6 z6)
  (q7:Q K "refuse_not_shut" oh f7' o7 p7 v7 t7 m7 n7 c7 r7 z7)
  (q8:Q K "is_arrows" abj f8' o8 p8 v8 t8 m8 n8 c8 r8 z8)
  (q9:Q K "refuse_no_arrows" mj f9' o9 p9 v9 t9 m9 n9 c9 r9 z9)
  (q10:Q K "last_ways" abi f10' o10 p10 v10 t10 m10 n10 c10 r10 z10)
  (q11:Q K "is_ring" aea f11' o11 p11 v11 t11 m11 n11 c11 r11 z11)
  (q12:Q K "refuse_no_state" ou f12' o12 p12 v12 t12 m12 n12 c12 r12 z12)
  (q13:Q K "refuse_no_shut_state" ju f13' o13 p13 v13 t13 m13 n13 c13 r13 z13)
  (q14:Q K "gone_from" abk f14' o14 p14 v14 t14 m14 n14 c14 r14 z14)
  (q15:Q K "is_gone" aeb f15' o15 p15 v15 t15 m15 n15 c15 r15 z15)
  (q16:Q K "is_ring_without" qb f16' o16 p16 v16 t16 m16 n16 c16 r16 z16)
  (q17:Q K "why_not_holds" s_why_not_holds f17' o17 p17 v17 t17 m17 n17 c17 r17 z17)
  (q18:Q K "_law_cell" abo f18' o18 p18 v18 t18 m18 n18 c18 r18 z18)
  (q19:Q K "_law_pen" acr f19' o19 p19 v19 t19 m19 n19 c19 r19 z19)
  (q20:Q K "_law_draw" abn f20' o20 p20 v20 t20 m20 n20 c20 r20 z20)
  (q21:Q K "_law_whole" zu f21' o21 p21 v21 t21 m21 n21 c21 r21 z21)
  (q22:Q K "_law_odd" acs f22' o22 p22 v22 t22 m22 n22 c22 r22 z22)
  (q23:Q K "_law_reached" vp f23' o23 p23 v23 t23 m23 n23 c23 r23 z23)
  (q24:Q K "_law_shut" abl f24' o24 p24 v24 t24 m24 n24 c24 r24 z24)
  (q25:Q K "_law_arrows" ye f25' o25 p25 v25 t25 m25 n25 c25 r25 z25)
  (q26:Q K "_law_last" abm f26' o26 p26 v26 t26 m26 n26 c26 r26 z26)
  (q27:Q K "_law_rings" zx f27' o27 p27 v27 t27 m27 n27 c27 r27 z27)
  (q28:Q K "_law_due" acu f28' o28 p28 v28 t28 m28 n28 c28 r28 z28)
  (q29:Q K "_law_paper" aaa f29' o29 p29 v29 t29 m29 n29 c29 r29 z29)
  (q30:Q K "_law_bent" abp f30' o30 p30 v30 t30 m30 n30 c30 r30 z30)
  (q31:Q K "_law_right" zy f31' o31 p31 v31 t31 m31 n31 c31 r31 z31)
  (a32:nsIn K mainGlobals "law" = some (some (.ref f32'))) (l32:K.lookup f32'=some ⟨oc32,od32,.func (fnOf "law" "law" (jw agc) (jj agc) (au agc) .none kV32 dc32 pm32 an32 cd32 ct32),sl32⟩) (c32:codeIn K cd32 "law" = true) (k32:keepIn K (.ref f32')=true)
  (y_all:nsIn K mainGlobals "all" = some none)
  (y_bool:nsIn K mainGlobals "bool" = some none)
  (y_divmod:nsIn K mainGlobals "divmod" = some none)
  (y_enumerate:nsIn K mainGlobals "enumerate" = some none)
  (y_int:nsIn K mainGlobals "int" = some none)
  (y_isinstance:nsIn K mainGlobals "isinstance" = some none)
  (y_len:nsIn K mainGlobals "len" = some none)
  (y_list:nsIn K mainGlobals "list" = some none)
  (y_max:nsIn K mainGlobals "max" = some none)
  (y_min:nsIn K mainGlobals "min" = some none)
  (y_range:nsIn K mainGlobals "range" = some none)
  (y_repr:nsIn K mainGlobals "repr" = some none)
  (y_set:nsIn K mainGlobals "set" = some none)
  (y_sorted:nsIn K mainGlobals "sorted" = some none)
  (y_str:nsIn K mainGlobals "str" = some none)
  (y_tuple:nsIn K mainGlobals "tuple" = some none)
  (y_zip:nsIn K mainGlobals "zip" = some none)
  : ∃fd:FuncData,(∀(s:Shared) (v:Value),BindsTo s fd ⟨[v],[]⟩ [("script", v)])/\∀base:Heap,K.In base->base.Ns mainGlobals mg->FnOk l.prog w K mg base CX0 10 fa fd ["script"] (spOf K 1 an6):=by
 have e:=hfa.symm.trans (mg_of X G a32);cases e;have T:Txt K mg:=⟨mg_none_of X G y_all,mg_none_of X G y_bool,mg_none_of X G y_divmod,mg_none_of X G y_enumerate,mg_none_of X G y_int,mg_none_of X G y_isinstance,mg_none_of X G y_len,mg_none_of X G y_list,mg_none_of X G y_max,mg_none_of X G y_min,mg_none_of X G y_range,mg_none_of X G y_repr,mg_none_of X G y_set,mg_none_of X G y_sorted,mg_none_of X G y_str,mg_none_of X G y_tuple,mg_none_of X G y_zip⟩;have F32:=ar3 (st:=agc) l32 c32 k32;refine⟨fnOf "law" "law" (jw agc) (jj agc) (au agc) .none kV32 dc32 pm32 an32 cd32 ct32,fun s v=>.of_eq rfl,fun base _ _ =>?_⟩
 have d0:Dd0 l.prog w K mg base:=⟨_,_,ai8 q0.F T,q0.E1 X G⟩;have d1:Dd1 l.prog w K mg base:=⟨_,_,aca q1.F T d0,q1.E3 X G⟩;have d2:Dd2 l.prog w K mg base:=⟨_,_,acb q2.F T,q2.E3 X G⟩;have d3:Dd3 l.prog w K mg base:=⟨_,_,acz q3.F T d1,q3.E2 X G⟩;have d4:Dd4 l.prog w K mg base:=⟨_,_,acy q4.F T d3,q4.E2 X G⟩;have d5:Dd5 l.prog w K mg base:=⟨_,_,alm q5.F T d4,q5.E2 X G⟩;have d6:Dd6 l.prog w K mg base:=⟨_,_,ali q6.F T,q6.E1 X G⟩;have d7:Dd7 l.prog w K mg base:=⟨_,_,ab8 q7.F T d6,q7.E1 X G⟩;have d8:Dd8 l.prog w K mg base:=⟨_,_,ahq q8.F T d2 d1,q8.E2 X G⟩;have d9:Dd9 l.prog w K mg base:=⟨_,_,abq q9.F T d8,q9.E2 X G⟩;have d10:Dd10 l.prog w K mg base:=⟨_,_,ahp q10.F T,q10.E2 X G⟩;have d11:Dd11 l.prog w K mg base:=⟨_,_,alj q11.F T d2 d3,q11.E3 X G⟩;have d12:Dd12 l.prog w K mg base:=⟨_,_,ab9 q12.F T d9 d4,q12.E3 X G⟩;have d13:Dd13 l.prog w K mg base:=⟨_,_,yh q13.F T d12 d7,q13.E3 X G⟩;have d14:Dd14 l.prog w K mg base:=⟨_,_,ahr q14.F T d5,q14.E2 X G⟩;have d15:Dd15 l.prog w K mg base:=⟨_,_,alk q15.F T d3 d14,q15.E3 X G⟩;have d16:Dd16 l.prog w K mg base:=⟨_,_,acd q16.F T d10 d11 d5,q16.E4 X G⟩;have d17:Dd17 l.prog w K mg base:=⟨_,_,ok_why_not_holds q17.F T d13 d2 d15 d16,q17.E4 X G⟩;have d18:Dd18 l.prog w K mg base:=⟨_,_,ahv q18.F T,q18.E2 X G⟩;have d19:Dd19 l.prog w K mg base:=⟨_,_,ai9 q19.F T,q19.E1 X G⟩;have d20:Dd20 l.prog w K mg base:=⟨_,_,ahu q20.F T,q20.E2 X G⟩;have d21:Dd21 l.prog w K mg base:=⟨_,_,agl q21.F T,q21.E1 X G⟩;have d22:Dd22 l.prog w K mg base:=⟨_,_,aja q22.F T d20,q22.E1 X G⟩;have d23:Dd23 l.prog w K mg base:=⟨_,_,aeh q23.F T,q23.E2 X G⟩;have d24:Dd24 l.prog w K mg base:=⟨_,_,ahs q24.F T d20,q24.E3 X G⟩;have d25:Dd25 l.prog w K mg base:=⟨_,_,afe q25.F T d20,q25.E2 X G⟩;have d26:Dd26 l.prog w K mg base:=⟨_,_,aht q26.F T,q26.E2 X G⟩;have d27:Dd27 l.prog w K mg base:=⟨_,_,agm q27.F T d26,q27.E3 X G⟩;have d28:Dd28 l.prog w K mg base:=⟨_,_,ajb q28.F T d23 d21 d26,q28.E4 X G⟩;have d29:Dd29 l.prog w K mg base:=⟨_,_,ago q29.F T d27 d20,q29.E3 X G⟩;have d30:Dd30 l.prog w K mg base:=⟨_,_,ahw q30.F T d20,q30.E3 X G⟩;have d31:Dd31 l.prog w K mg base:=⟨_,_,agn q31.F T d17 d28,q31.E4 X G⟩;exact awa F32 T d31 d18 d19 d20 d24 d25 d29 d30 d22
end My
set_option genInjectivity false in
structure PySem.W.Fast where(tw8258492660931849248 tw8931731558614109088 tw1534576053922930113 tw14866854107310406787 tw5406223375114782563 tw13806054426303244324 tw3915459546581858916 tw332955354460255972 tw10462987700381086022 tw15379524938514347687 tw11976408278719647623 tw5391209334763312201 tw16783425796445567401 tw6011264274262369737 tw2388028313859029865 tw14014057971888210637 tw18005897709211323086 tw13313907099252827054 tw7141400264075099407 tw2552268572842505103 tw13530243555514845074 tw9682916349800226675 tw6896688536894434612 tw12575016517078079157 tw10635896499748398070 tw10688287940222365719 tw5327914305676699575 tw11661293042413670584 tw6947529562842142520 tw3480752660478810072 tw2295276379281134233 tw17226392078871146233 tw1592358560469238649 tw11766981268758849146 tw17616611641593194170 tw13544398451830071290 tw15960855402389391803 tw4988999893623372283 tw2156878579897915259 tw4019069556196457020 tw9986250812360297020 tw13489303999500544636 tw3280569305448428508 tw10590373954054652958 tw3109720109661689055 tw15985284743403492821 tw2341312295415760814 tw16050928809294823866 tw12504979789213823693 tw11799050102622956873 tw12219889659740792784 tw4208720096667573248 tw17112511273595448708 tw80921152200908352 tw5828845090794254072 tw13133315508513237274 tw6092474969921373740 tw10440297939682411667 tw11600561805759983040 tw4717962560269394629 tw536182032239923697 tw8876053872103512383 tw11016051839608042585 tw12866574092602820005 tw6905176695782211972 tw9332327149655969462 tw12299216981910730530 tw5247992002253198062 tw649804719550609746 tw10968074290382318810 tw4163947525942455141 tw10654863208958895702 tw5831952990275647544 tw5792744950431724166 tw7665307968291302312 tw5014002586868856627 tw467460749955091380 tw15594063358125748773 tw1165036625814175406 tw12102023662442990012 tw11370906141030713184 tw17239626481338213895 tw18171055159341481066 tw17499478879769586039 tw1984766289725664427 tw1845082571219586644 tw2372997710221931700 tw2477841546310963190 tw14714035354704837391 tw6509079974897896753 tw18389688161240682516 tw16530963847420981922 tw727176001303981538 tw11496596107424399380 tw8123319771810748983 tw16677227028161324885 tw15122747569661253196 tw17260797740307296147 tw12120226131616320375 tw8934611025838529322 tw17777637846086310896 tw8225797262292045181 tw6763585938711053032 tw6547110167034858087 tw16439537596970919627 tw12289369884203040911 tw12653695775996897523 tw4377942418701401910 tw2667686811309527314 tw9025146043462891152 tw6934388960595604606 tw7183224747257645696 tw16873036064839857984 tw6754227567407383207:Unit)
open PySem PySem.W PyProof.Rows
set_option maxRecDepth 100000 in
set_option maxHeartbeats 0 in
theorem PySem.Challenge.cw_turnarrows_k29_papers_of_no_round_holds : PySem.Challenge.rw_turnarrows_k29_papers_of_no_round.Holds := by
 w_on;o_law;k_head;(case hw=>w_witness2)
 k_fill
 refine Dn.walk (l:=PySem.Challenge.rw_turnarrows_k29_papers_of_no_round) (f:=My.an6) (k:=10) My.aqe rfl rfl ⟨rfl,by decide,by decide,rfl⟩ (fun w h Y=>PySem.W.kIn_of Y) ?F
 case F =>
  intro w mg fa h KX G hmg;refine' My.axl KX G hmg ?_ ?_ ?_ ?_ ?_ ?_ ?_ ?_ ?_ ?_ ?_ ?_ ?_ ?_ ?_ ?_ ?_ ?_ ?_ ?_ ?_ ?_ ?_ ?_ ?_ ?_ ?_ ?_ ?_ ?_ ?_ ?_ ?_ ?_ ?_ ?_ ?_ ?_ ?_ ?_ ?_ ?_ ?_ ?_ ?_ ?_ ?_ ?_ ?_ ?_ ?_ ?_ ?_
  all_goals try refine' And.intro ?_ (And.intro ?_ (And.intro ?_ ?_))
  any_goals k_is
  all_goals kernel_rfl
