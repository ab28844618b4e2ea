import PyProof.Rows.All
import Wide.All
import OpenK.AllK
import Wide.FinOn
import Lean
import PyProof.EqAt
import PyProof.EqKinds
import PyProof.TupleCall
import PySem.Challenge.RW_turnarrows_k66_what_is_a_tour
set_option Elab.async false
set_option linter.all false
set_option maxRecDepth 100000
noncomputable section
open PySem.W (nsIn mg_of keepIn fnOf codeIn findIn mg_none_of)
abbrev Fg9:=PySem.W.Frag
abbrev LL9:=List (List Int)
section
open PySem PySem.Spec PyProof.Rows
namespace L2
abbrev Key:=Sum Int Str
def asa:Key->Value->Bool
 | .inl k,v=>Value.isInt k v
 | .inr x,v=>Value.isStrOf x v
def keyH(w:World):Key->Int
 | .inl k=>hashInt k
 | .inr x=>hashStr w x
theorem jz:∀{k:Key} {v:Value},asa k v=true->(∃i t,k=Sum.inl i/\v=Value.int i t)∨(∃x t,k=Sum.inr x/\v=Value.str x t)
 | .inl i,v,h=>by
  obtain⟨t,e⟩:=Value.isInt_shape (k:=i) (v:=v) h;exact .inl ⟨i,t,rfl,e⟩
 | .inr x,v,h=>by
  obtain⟨t,e⟩:=Value.isStrOf_shape (x:=x) (v:=v) h;exact .inr ⟨x,t,rfl,e⟩
theorem ao8(x:Str)(t:Tok):asa (.inr x) (.str x t)=true:=by simp[asa,Value.isStrOf]
theorem azw(a b:Int):decide ((Sum.inl a:Key)=Sum.inl b)=(a==b):=by
 by_cases e:a=b
 ·subst e;simp
 ·have h:¬(Sum.inl a:Key)=Sum.inl b:=fun q=>e (Sum.inl.inj q)
  rw[decide_eq_false h];exact(beq_eq_false_iff_ne.mpr e).symm
theorem azt(a b:Str):decide ((Sum.inr a:Key)=Sum.inr b)=decide (a=b):=by
 by_cases e:a=b
 ·subst e;simp
 ·have h:¬(Sum.inr a:Key)=Sum.inr b:=fun q=>e (Sum.inr.inj q)
  rw[decide_eq_false h,decide_eq_false e]
theorem azv(a:Int)(b:Str):decide ((Sum.inl a:Key)=Sum.inr b)=false:=decide_eq_false (fun q=>nomatch q)
theorem azu(a:Str)(b:Int):decide ((Sum.inr a:Key)=Sum.inl b)=false:=decide_eq_false (fun q=>nomatch q)
def ahj(prog:Program)(w:World):PySem.KeyKind prog w Key where
 is:=asa
 hash:=keyH w
 inj:=fun v a b ha hb=>by
  rcases jz ha with⟨i,t,rfl,rfl⟩ | ⟨x,t,rfl,rfl⟩
  ·rcases jz hb with⟨j,u,rfl,e⟩ | ⟨y,u,rfl,e⟩
   ·injection e with e1 _;rw[e1]
   ·exact nomatch e
  ·rcases jz hb with⟨j,u,rfl,e⟩ | ⟨y,u,rfl,e⟩
   ·exact nomatch e
   ·injection e with e1 _;rw[e1]
 byValue:=fun k v h=>by
  rcases jz h with⟨i,t,rfl,rfl⟩ | ⟨x,t,rfl,rfl⟩ <;> rfl
 pyHash:=fun hv h=>by
  rcases jz hv with⟨i,t,rfl,rfl⟩ | ⟨x,t,rfl,rfl⟩
  ·exact wpAny_pyHash_int h
  ·exact wpAny_pyHash_str h
 eqBool:=fun hu hv h=>by
  rcases jz hu with⟨i,t,rfl,rfl⟩ | ⟨x,t,rfl,rfl⟩
  ·rcases jz hv with⟨j,u,rfl,rfl⟩ | ⟨y,u,rfl,rfl⟩
   ·rw[azw] at h;exact wpAny_eqBool_int h
   ·rw[azv] at h;exact SeqAt.EqAt.int_str i t y u _ _ _ _ h
  ·rcases jz hv with⟨j,u,rfl,rfl⟩ | ⟨y,u,rfl,rfl⟩
   ·rw[azu] at h;exact SeqAt.EqAt.str_int x t j u _ _ _ _ h
   ·rw[azt] at h;exact wpAny_eqBool_str h
 «strs» := fun k x t v h=>by
  rcases jz h with⟨i,u,rfl,e⟩ | ⟨y,u,rfl,e⟩
  ·exact nomatch e
  ·injection e with e1 _
   subst e1;cases v <;> rfl
theorem ake(prog:Program)(w:World)(x:Str)(t:Tok):(ahj prog w).is (.inr x) (.str x t)=true:=ao8 x t
def IsTp(h:Heap)(a:Addr)(items:Array Value):Prop:=∃o,h.get? a=some o/\o.cls=.type "tuple" /\ o.dict=none/\∃n,o.data=.seq items n
theorem IsTp.tup{h:Heap}{a:Addr}{items:Array Value}(x:IsTp h a items):IsTup h a items:=let ⟨o,e,c,_,n,d⟩:=x;⟨o,e,c,n,d⟩
theorem IsTp.new(h:Heap)(items:Array Value):IsTp (h.push { cls:=.type "tuple", data:=.seq items }) h.objs.size items:=⟨_,Heap.get?_push_size _ rfl,rfl,rfl,_,rfl⟩
inductive V where
 | non | bl (b:Bool) | int (i:Int) | str (x:Str) | byt (b:Array UInt8) | flt (b:UInt64) | ref (a:Addr) | ty (n:String)
 deriving DecidableEq
def RelV:V->Value->Prop
 | .non,u=>u=Value.none
 | .bl b,u=>u=Value.bool b
 | .int i,u=>∃t,u=Value.int i t
 | .str x,u=>∃t,u=Value.str x t
 | .byt b,u=>∃t,u=Value.bytes b t
 | .flt b,u=>∃t,u=Value.float b t
 | .ref a,u=>u=Value.ref a
 | .ty n,u=>u=Value.type n
abbrev Vals:List V->List Value->Prop:=Paired RelV
theorem Vals.length{xs:List V}{us:List Value}(r:Vals xs us):xs.length=us.length:=Paired.length r
theorem Vals.get:∀{xs:List V} {us:List Value} {i:Nat} {x:V},Vals xs us->xs[i]? = some x->∃u,us[i]? = some u/\RelV x u
 | _,_,_,_,.nil,e=>by simp at e
 | _,_,0,_,.cons r _,e=>by simp at e;subst e;exact⟨_,rfl,r⟩
 | _,_,i+1,x,.cons _ t,e=>by
  obtain⟨u,h1,h2⟩:=Vals.get (i:=i) (x:=x) t (by simpa using e)
  exact⟨u,by simpa using h1,h2⟩
theorem Vals.set{x:V}{u:Value}(r:RelV x u):∀{xs:List V} {us:List Value} (i:Nat),Vals xs us->Vals (xs.set i x) (us.set i u)
 | _,_,_,.nil=>.nil
 | _,_,0,.cons _ t=>.cons r t
 | _,_,i+1,.cons q t=>.cons q (Vals.set r i t)
theorem Vals.append:∀{xs ys:List V} {us ws:List Value},Vals xs us->Vals ys ws->Vals (xs++ys) (us++ws)
 | _,_,_,_,.nil,s=>s
 | _,_,_,_,.cons r t,s=>.cons r (Vals.append t s)
theorem Vals.take:∀{xs:List V} {us:List Value} (n:Nat),Vals xs us->Vals (xs.take n) (us.take n)
 | _,_,0,_=>.nil
 | _,_,_+1,.nil=>.nil
 | _,_,n+1,.cons r t=>.cons r (Vals.take n t)
theorem Vals.drop:∀{xs:List V} {us:List Value} (n:Nat),Vals xs us->Vals (xs.drop n) (us.drop n)
 | _,_,0,r=>r
 | _,_,_+1,.nil=>.nil
 | _,_,n+1,.cons _ t=>Vals.drop n t
def RelO:Option V->Option Value->Prop
 | some v,some u=>RelV v u
 | none,none=>True
 | _,_=>False
def KV{κ:Type}:List (κ×V)->List (κ×Value)->Prop:=Paired fun(p:κ×V) (q:κ×Value)=>p.1=q.1/\RelV p.2 q.2
def kV:Key->V
 | .inl i=>.int i
 | .inr x=>.str x
inductive HO where
 | lst (xs:List V)
 | tup (xs:List V)
 | dK (kvs:List (Key×V)) | dT (kvs:List (List Key×V))
 | set (S:Int->Bool) (n:Nat)
 | ins (C dx:Addr) (fs:List (Str×V))
 | own (x:Addr)
 | xd (fs:List (Str×V))
 | met (f x:Addr)
 | rng (lo hi:Int)
 | frz (o:Obj) (u:HO)
 | tbl (ps:Array Value)
 | ext (φ:Heap->Prop)
abbrev Hp:=Addr->Option HO
def upd(H:Hp)(a:Addr)(o:HO):Hp:=fun b=>if b=a then some o else H b
theorem f9{H:Hp}{a:Addr}{o:HO}:upd H a o a=some o:=by unfold upd;rw[if_pos rfl]
theorem b8{H:Hp}{a b:Addr}{o:HO}(h:b≠a):upd H a o b=H b:=by unfold upd;rw[if_neg h]
theorem ig{H:Hp}{a b:Addr}{o:HO}(h:H a=some o)(h':H b=none):a≠b:=by
 intro e;subst e;rw[h] at h';cases h'
section
variable(P:Program)(w:World)
def ue(H:Hp)(h:Heap)(a:Addr):HO->Prop
 | .lst xs=>xs.length<=sizeLine/\∃(its:List Value) (n:Nat),Vals xs its/\h.get? a=some { cls:=.type "list", data:=.seq its.toArray n }
 | .tup xs=>xs.length<=sizeLine/\∃its:List Value,Vals xs its/\IsTp h a its.toArray
 | .dK kvs=>kvs.length<=sizeLine/\(a==sysModules)=false/\∃vs,KV kvs vs/\h.DictOf (ahj P w) a vs
 | .dT kvs=>kvs.length<=sizeLine/\(a==sysModules)=false/\∃xs:List (List Key×Addr×Value),
   Paired (fun(p:List Key×V) (q:List Key×Addr×Value)=>p.1=q.1/\H q.2.1=some (.tup (p.1.map kV))/\RelV p.2 q.2.2) kvs xs /\
   ∃o es ep,h.get? a=some o/\o.ExactDict/\o.data=.dict es ep/\es.toList=xs.map (entryOfKey (tupleKind (ahj P w)))/\(xs.map (·.1)).Nodup
 | .set S n=>h.SetOf (intKind P w) a S n
 | .ins C dx fs=>H dx=some (.own a)/\fs.length<=1000/\dx≠a/\h.get? a=some (PySem.W.instObj C dx) /\
   ∃mA,h.Ns1 dx mA/\(∀f,RelO (fs.lookup f) (mA f))/\PySem.Within mA (fs.map (·.1))
 | .own _=>∃o,h.get? a=some o
 | .xd fs=>∃mA,h.Ns1 a mA/\∀f,RelO (fs.lookup f) (mA f)
 | .rng lo hi=>∃t u v,h.get? a=some { cls:=.type "range", data:=.fields #[.int lo t,.int hi u,.int 1 v] }
 | .frz o u=>h.get? a=some o/\ue H h a u
 | .tbl ps=>h.get? a=some { cls:=.none,data:=.fields ps }
 | .met f x=>h.get? a=some (PySem.W.methodObj (.ref f) (.ref x))
 | .ext φ=>φ h/\(∃o,h.get? a=some o)/\∀h1 h2:Heap,φ h1->(∀o,h1.get? a=some o->h2.get? a=some o)->φ h2
def HOk(H:Hp)(h:Heap):Prop:=∀a o,H a=some o->ue P w H h a o
end
section
variable{P:Program}{w:World}{H H':Hp}{h h':Heap}{a:Addr}{o:HO}
theorem ue.lt(x:ue P w H h a o):a < h.objs.size:=by
 cases o with
 | lst xs=>obtain⟨_,_,_,_,e⟩:=x;exact Heap.lt_size e
 | tup xs=>obtain⟨_,_,_,p⟩:=x;exact p.tup.lt
 | dK kvs=>obtain⟨_,_,_,_,o,_,_,e,_⟩:=x;exact Heap.lt_size e
 | dT kvs=>obtain⟨_,_,_,_,o,_,_,e,_⟩:=x;exact Heap.lt_size e
 | set S n=>obtain⟨o,_,_,_,e,_⟩:=x;exact Heap.lt_size e
 | ins C dx fs=>obtain⟨_,_,_,e,_⟩:=x;exact Heap.lt_size e
 | own y=>obtain⟨_,e⟩:=x;exact Heap.lt_size e
 | xd fs=>obtain⟨_,⟨_,_,_,e,_⟩,_⟩:=x;exact Heap.lt_size e
 | rng lo hi=>obtain⟨_,_,_,e⟩:=x;exact Heap.lt_size e
 | frz ob u=>obtain⟨e,_⟩:=x;exact Heap.lt_size e
 | tbl ps=>exact Heap.lt_size (show h.get? a=some _ from x)
 | met f y=>exact Heap.lt_size (show h.get? a=some _ from x)
 | ext φ=>obtain⟨_,⟨_,e⟩,_⟩:=x;exact Heap.lt_size e
theorem Paired.mapP{α β:Type}{F G:α->β->Prop}:∀{l₁:List α} {l₂:List β},Paired F l₁ l₂->(∀a b,F a b->G a b)->Paired G l₁ l₂
 | _,_,.nil,_=>.nil
 | _,_,.cons r t,f=>.cons (f _ _ r) (Paired.mapP t f)
theorem ue.stay(x:ue P w H h a o)(k:∀b u,(b=a∨H b=some (.own a))->h.get? b=some u->h'.get? b=some u)
  (ho:∀b,H b=some (.own a)->H' b=some (.own a)) (ht:∀b xs,H b=some (.tup xs)->H' b=some (.tup xs)):ue P w H' h' a o:=by
 induction o with
 | lst xs=>obtain⟨z,its,n,r,e⟩:=x;exact⟨z,its,n,r,k _ _ (.inl rfl) e⟩
 | tup xs=>obtain⟨z,its,r,ob,e,c⟩:=x;exact⟨z,its,r,ob,k _ _ (.inl rfl) e,c⟩
 | dK kvs=>obtain⟨z,y,vs,r,ob,es,ep,e,c⟩:=x;exact⟨z,y,vs,r,ob,es,ep,k _ _ (.inl rfl) e,c⟩
 | dT kvs =>
  obtain⟨z,y,xs,r,ob,es,ep,e,c⟩:=x;exact⟨z,y,xs,Paired.mapP r fun p q z=>⟨z.1,ht _ _ z.2.1,z.2.2⟩,ob,es,ep,k _ _ (.inl rfl) e,c⟩
 | set S n=>obtain⟨ob,es,ep,t,e,c⟩:=x;exact⟨ob,es,ep,t,k _ _ (.inl rfl) e,c⟩
 | ins C dx fs =>
  obtain⟨d,z,ne,e,mA,⟨od,es,ep,e2,c⟩,r⟩:=x;exact⟨ho _ d,z,ne,k _ _ (.inl rfl) e,mA,⟨od,es,ep,k _ _ (.inr d) e2,c⟩,r⟩
 | own y=>obtain⟨ob,e⟩:=x;exact⟨ob,k _ _ (.inl rfl) e⟩
 | xd fs=>obtain⟨mA,⟨od,es,ep,e,c⟩,r⟩:=x;exact⟨mA,⟨od,es,ep,k _ _ (.inl rfl) e,c⟩,r⟩
 | rng lo hi=>obtain⟨t,u,v,e⟩:=x;exact⟨t,u,v,k _ _ (.inl rfl) e⟩
 | frz ob u ih=>obtain⟨e,q⟩:=x;exact⟨k _ _ (.inl rfl) e,ih q⟩
 | tbl ps =>
  have e:h.get? a=some { cls:=.none,data:=.fields ps }:=x;show h'.get? a=some { cls:=.none,data:=.fields ps };exact k a _ (.inl rfl) e
 | met f y =>
  have e:h.get? a=some (PySem.W.methodObj (.ref f) (.ref y)):=x;show h'.get? a=some (PySem.W.methodObj (.ref f) (.ref y));exact k a _ (.inl rfl) e
 | ext φ=>obtain⟨p,⟨o,e⟩,st⟩:=x;exact⟨st _ _ p fun o q=>k _ _ (.inl rfl) q,⟨o,k _ _ (.inl rfl) e⟩,st⟩
theorem HOk.lt(x:HOk P w H h)(e:H a=some o):a < h.objs.size:=(x a o e).lt
theorem HOk.fresh(x:HOk P w H h)(e:h.objs.size<=a):H a=none:=by
 cases q:H a with
 | none=>rfl
 | some u=>exact absurd (Nat.lt_of_lt_of_le (x.lt q) e) (Nat.lt_irrefl _)
theorem HOk.kept(x:HOk P w H h)(k:∀b u,h.get? b=some u->h'.get? b=some u):HOk P w H h':=fun a o e =>
 (x a o e).stay (fun b u _ q=>k b u q) (fun _ q=>q) fun _ _ q=>q
theorem HOk.laid(x:HOk P w H h)(k:∀b u,h.get? b=some u->h'.get? b=some u)(hp:h.objs.size<=a)(new:ue P w (upd H a o) h' a o):HOk P w (upd H a o) h':=fun b u e=>by
 have hn:=x.fresh hp
 by_cases hb:b=a
 ·subst hb;rw[f9] at e;cases e;exact new
 ·rw[b8 hb] at e;exact(x b u e).stay (fun c v _ q=>k c v q) (fun c q=>by rw[b8 (ig q hn)];exact q) fun c xs q=>by rw[b8 (ig q hn)];exact q
end
def Rd(H:Hp)(a:Addr)(u:HO):Prop:=H a=some u∨∃o,H a=some (.frz o u)
theorem Rd.ok{P:Program}{w:World}{H:Hp}{h:Heap}{a:Addr}{u:HO}(r:Rd H a u)(x:HOk P w H h):ue P w H h a u:=by
 rcases r with r | ⟨o,r⟩
 ·exact x a u r
 ·obtain⟨_,q⟩:=x a _ r;exact q
def Mut:Option HO->Prop
 | some (.lst _)=>True
 | some (.dK _)=>True
 | some (.dT _)=>True
 | some (.set _ _)=>True
 | some (.ins _ _ _)=>True
 | some (.ext _)=>True
 | _=>False
section
variable{P:Program}{w:World}{H:Hp}{h h':Heap}{x e:Addr}{o':HO}
theorem HOk.write(ok:HOk P w H h)(mu:Mut (H x))(he:e=x∨H e=some (.own x))(k:∀b u,b≠e->h.get? b=some u->h'.get? b=some u)(heo:∃u,h'.get? e=some u)
  (new:ue P w (upd H x o') h' x o'):HOk P w (upd H x o') h':=fun b u q=>by
 have nown:∀c y,H c=some (.own y)->c≠x:=fun c y r z=>by subst z;rw[r] at mu;exact mu
 have ntup:∀c xs,H c=some (.tup xs)->c≠x:=fun c xs r z=>by subst z;rw[r] at mu;exact mu
 by_cases hb:b=x
 ·subst hb;rw[f9] at q;cases q;exact new
 ·rw[b8 hb] at q
  by_cases hbe:b=e
  ·have q':H b=some (.own x):=by
    rcases he with z | z
    ·exact absurd (hbe.trans z) hb
    ·rw[hbe];exact z
   rw[q] at q';cases q';obtain⟨v,hv⟩:=heo;exact⟨v,by rw[hbe];exact hv⟩
  ·refine(ok b u q).stay (fun c v hc r=>k c v ?_ r) (fun c r=>by rw[b8 (nown c b r)];exact r) fun c xs r=>by rw[b8 (ntup c xs r)];exact r
   rcases hc with rfl | hc
   ·exact hbe
   ·rintro rfl
    rcases he with z | z
    ·exact nown c b hc z
    ·rw[hc] at z;cases z;exact hb rfl
end
structure Un (fs ex:List Addr) (H H':Hp) (h h':Heap):Prop where
 keep:∀b o,h.get? b=some o->H b=none->b∉fs->b∉ex->h'.get? b=some o
 slot:∀b o,h.get? b=some o->H b=none->b∈fs->b∉ex->∃sl,h'.get? b=some { o with slots:=sl }
 free:∀b o,h.get? b=some o->H b=none->b∉ex->H' b=none
 there:∀b o,h.get? b=some o->b∉ex->∃o',h'.get? b=some o'
 tups:∀b xs,H b=some (.tup xs)->H' b=some (.tup xs)
 frzs:∀b o u,H b=some (.frz o u)->H' b=some (.frz o u)
 tbls:∀b ps,H b=some (.tbl ps)->∃more,H' b=some (.tbl (ps++more))
section
variable{fs fs' ex ex':List Addr}{H H1 H2:Hp}{h h1 h2 h':Heap}{a x e:Addr}{o:HO}
theorem Un.any(u:Un fs ex H H1 h h1){b:Addr}{ob:Obj}(q:h.get? b=some ob)(n:H b=none)(hx:b∉ex):∃sl,h1.get? b=some { ob with slots:=sl }:=by
 by_cases hb:b∈fs
 ·exact u.slot b ob q n hb hx
 ·exact⟨ob.slots,u.keep b ob q n hb hx⟩
theorem Un.kept(k:∀b u,h.get? b=some u->h'.get? b=some u):Un fs ex H H h h' :=
 ⟨fun b ob q _ _ _=>k b ob q,fun b ob q _ _ _=>⟨ob.slots,k b ob q⟩,fun _ _ _ n _=>n,fun b ob q _=>⟨ob,k b ob q⟩,fun _ _ q=>q,fun _ _ _ q=>q,fun _ ps q=>⟨#[],by rw[q];simp⟩⟩
theorem Un.refl:Un fs ex H H h h:=Un.kept fun _ _ q=>q
theorem Un.laid(k:∀b u,h.get? b=some u->h'.get? b=some u)(hp:h.objs.size<=a)(hn:H a=none):Un fs ex H (upd H a o) h h' where
 keep:=fun b u q _ _ _=>k b u q
 slot:=fun b u q _ _ _=>⟨u.slots,k b u q⟩
 free:=fun b u q n _=>by rw[b8 (Nat.ne_of_lt (Nat.lt_of_lt_of_le (Heap.lt_size q) hp))];exact n
 there:=fun b u q _=>⟨u,k b u q⟩
 tups:=fun b xs q=>by rw[b8 (ig q hn)];exact q
 frzs:=fun b u xs q=>by rw[b8 (ig q hn)];exact q
 tbls:=fun b ps q=>⟨#[],by rw[b8 (ig q hn),q];simp⟩
theorem Un.write(mu:Mut (H x))(he:e=x∨H e=some (.own x))(k:∀b u,b≠e->h.get? b=some u->h'.get? b=some u)(heo:∃u,h'.get? e=some u):Un fs ex H (upd H x o) h h':=by
 have hx:∀b,H b=none->b≠x:=fun b n z=>by subst z;rw[n] at mu;exact mu
 have hb:∀b,H b=none->b≠e:=fun b n z=>by
  subst z;rcases he with r | r
  ·exact hx b n r
  ·rw[n] at r;cases r
 have hm:∀b u,H b=some u->¬Mut (some u)->b≠x:=fun b u q nm z=>by subst z;rw[q] at mu;exact nm mu
 refine⟨fun b u q n _ _=>k b u (hb b n) q,fun b u q n _ _=>⟨u.slots,k b u (hb b n) q⟩,fun b u q n _=>by rw[b8 (hx b n)];exact n,fun b u q _ =>?_,
  fun b xs q=>by rw[b8 (hm b _ q fun z=>z)];exact q,fun b u xs q=>by rw[b8 (hm b _ q fun z=>z)];exact q,fun b ps q=>⟨#[],by rw[b8 (hm b _ q fun z=>z),q];simp⟩⟩
 by_cases hbe:b=e
 ·subst hbe;exact heo
 ·exact⟨u,k b u hbe q⟩
end
def trk(h:Heap)(H:Hp):List Addr:=(List.range h.objs.size).filter fun a=>(H a).isSome
def hidT(h:Heap)(H:Hp):Heap:=PySem.W.hideAll h (trk h H)
theorem apf(h:Heap)(H:Hp):(hidT h H).objs.size=h.objs.size:=PySem.W.hideAll_size _ _
theorem asi{h:Heap}{H:Hp}{b:Addr}{o:Obj}(e:h.get? b=some o)(n:H b=none):(hidT h H).get? b=some o :=
 PySem.W.hideAll_get _ e fun hm=>by
  have q:(H b).isSome=true:=(List.mem_filter.mp hm).2;rw[n] at q;simp at q
theorem av1{h:Heap}{H:Hp}{b:Addr}{o:Obj}(e:(hidT h H).get? b=some o):h.get? b=some o/\H b=none:=by
 have e':h.get? b=some o:=PySem.W.of_hideAll (trk h H) e;refine⟨e',?_⟩;cases q:H b with
 | none=>rfl
 | some x =>
  have hm:b∈trk h H:=List.mem_filter.mpr ⟨List.mem_range.mpr (Heap.lt_size e'),by simp[q]⟩
  have z:(hidT h H).get? b=none:=PySem.W.hideAll_none (trk h H) hm;rw[z] at e;cases e
def axe(g h:Heap)(L:Addr):List (Addr×Obj):=(List.range h.objs.size).filterMap fun a=>if a=L∨(g.get? a).isSome=true then none else (h.get? a).map fun o=>(a,o)
def rest(g h:Heap)(L d:Addr):List (Addr×Obj):=(axe g h L).filter fun p=>decide (p.1≠d)
structure Mod (K:Fg9) (mg:Str->Option Value) (base:Heap):Prop where
 kin:K.In base
 glob:base.Ns mainGlobals mg
 blt:∃mb,base.Ns builtinsNs mb/\∀x:Str,x ≠ "__name__" -> mb x=bootBuiltins x
 nolimit:base.NoLimit
structure Cx where
 prog:Program
 w:World
 K:Fg9
 mg:Str->Option Value
 base:Heap
 A:Around
 N:List Str
 s₀:Shared
 H₀:Hp
 env:Env
 outer:List Env
 stack:List Env
 ex:List Addr
 fn:Str->Bool
 calm:Bool
 pn:List (Addr×Obj)
 xe:Value->Shared->Prop
def frs(l:List Env):List Addr:=l.filterMap (·.frame)
abbrev Cx.fs(X:Cx):List Addr:=frs X.outer
def Vis(sc:Scope)(x:Str):Prop:=sc.names.lookup x=some .local∨sc.names.lookup x=some .cell∨sc.names.lookup x=some .free
def Loc(sc:Scope)(x:Str):Prop:=sc.names.lookup x=some .local∨sc.names.lookup x=some .cell
def Look(env:Env)(h:Heap)(m:Str->Option Value)(x:Str)(u:Value):Prop :=
 (env.kindOf x=some .local/\m x=some u)∨((env.kindOf x=some .cell∨env.kindOf x=some .free)/\∃c,env.cells.lookup x=some c/\h.IsCell c (some u))
structure Cx.Ok (X:Cx):Prop where
 mod:Mod X.K X.mg X.base
 kind:X.env.scope.kind=.function
 glob:X.env.globals=mainGlobals
 blt:X.env.builtins=builtinsNs
 above:X.s₀.heap.objs.size<=X.env.locals
 inj:∀x y c,X.env.cells.lookup x=some c->X.env.cells.lookup y=some c->x=y
 has:∀x,(X.env.kindOf x=some .cell∨X.env.kindOf x=some .free)->∃c,X.env.cells.lookup x=some c
 cab:∀x c,X.fn x=true->X.env.cells.lookup x=some c->X.s₀.heap.objs.size<=c
 hd:X.calm=true->X.A.handled=none
 frames:X.A.frames=some X.stack
 stk:X.stack=X.outer∨(X.stack=X.env::X.outer/\X.env.frame=some X.env.locals)
 exf:∀b∈X.ex,b≠X.env.locals/\∀x c,X.env.cells.lookup x=some c->c≠b
 bs:∀b o,X.base.get? b=some o->X.s₀.heap.get? b=some o/\X.H₀ b=none
 bsz:X.base.objs.size<=X.s₀.heap.objs.size
 noex:∀b o,X.base.get? b=some o->b∉X.ex
 exfs:∀b∈X.ex,b∉X.fs
 funs:X.s₀.heap.FunFrames X.base X.outer
 frf:∀b∈X.fs,X.H₀ b=none
structure Inv (X:Cx) (jv:List (Addr×Obj)) (σ:List (Option V)) (H:Hp) (s:Shared):Prop where
 ok:X.Ok
 os:s.os=X.s₀.os
 bare:AllBare s.gens
 base:Un X.fs X.ex X.H₀ H X.s₀.heap s.heap
 loc:∃m,s.heap.Ns X.env.locals m/\∀(i:Nat) (x:Str) (v:V),X.N[i]? = some x->σ[i]? = some (some v)->Vis X.env.scope x->∃u,RelV v u/\Look X.env s.heap m x u
 cell:∀x c,X.env.cells.lookup x=some c->∃v,s.heap.IsCell c v
 free:H X.env.locals=none
 freeC:∀x c,X.env.cells.lookup x=some c->H c=none
 pin:∀p∈X.pn++jv,s.heap.get? p.1=some p.2/\H p.1=none/\p.1≠X.env.locals/\p.1∉X.fs/\∀v,p.2.data≠.cell v
 hok:HOk X.prog X.w H s.heap
 len:σ.length=X.N.length
section
variable{X:Cx}{jv:List (Addr×Obj)}{σ:List (Option V)}{H H':Hp}{s:Shared}{h':Heap}
theorem Cx.Ok.nofr(ok:X.Ok){b:Addr}{o:Obj}(e:X.base.get? b=some o):b∉X.fs:=fun hb=>by
 have:=(ok.funs.mem hb).1;rw[e] at this;cases this
theorem Inv.bs(I:Inv X jv σ H s):∀b o,X.base.get? b=some o->s.heap.get? b=some o/\H b=none:=fun b o e =>
 ⟨I.base.keep b o (I.ok.bs b o e).1 (I.ok.bs b o e).2 (I.ok.nofr e) (I.ok.noex b o e),I.base.free b o (I.ok.bs b o e).1 (I.ok.bs b o e).2 (I.ok.noex b o e)⟩
theorem Inv.bk(I:Inv X jv σ H s):∀b o,X.base.get? b=some o->s.heap.get? b=some o:=fun b o e=>(I.bs b o e).1
theorem Inv.mod(I:Inv X jv σ H s):Mod X.K X.mg X.base:=I.ok.mod
theorem Inv.kIn(I:Inv X jv σ H s):X.K.In s.heap:=I.ok.mod.kin.keeps I.bk
theorem Inv.lt(I:Inv X jv σ H s):X.env.locals < s.heap.objs.size:=let ⟨_,hn,_⟩:=I.loc;hn.lt
theorem Inv.sz(I:Inv X jv σ H s):X.s₀.heap.objs.size<=s.heap.objs.size:=Nat.le_trans I.ok.above (Nat.le_of_lt I.lt)
theorem Inv.nofs(I:Inv X jv σ H s){a:Addr}(h:s.heap.objs.size<=a):a∉X.fs:=fun hb=>by
 obtain⟨_,o,ho,_⟩:=I.ok.funs.mem hb;exact absurd (Nat.lt_of_lt_of_le (Heap.lt_size ho) (Nat.le_trans I.sz h)) (Nat.lt_irrefl _)
theorem Inv.cne(I:Inv X jv σ H s):∀x c,X.env.cells.lookup x=some c->c≠X.env.locals:=fun x c e z=>by
 obtain⟨v,o,ho,hd⟩:=I.cell x c e;obtain⟨m,⟨o',es,ep,ho',hd',_⟩,_⟩:=I.loc;rw[z,ho'] at ho;cases ho;rw[hd'] at hd;cases hd
theorem Inv.funs(I:Inv X jv σ H s):s.heap.FunFrames X.base X.outer:=by
 have all:∀(l:List Env),(∀b∈frs l,b∈X.fs)->X.s₀.heap.FunFrames X.base l->s.heap.FunFrames X.base l:=by
  intro l
  induction l with
  | nil=>intro _ _;trivial
  | cons env r ih =>
   intro hs hl;obtain⟨hk,⟨L,o,hf,hn,ho,hd⟩,hr⟩:=hl;have hL:L∈X.fs:=hs L (by unfold frs;rw[List.filterMap_cons,hf];exact List.mem_cons_self)
   obtain⟨sl,e⟩:=I.base.slot L o ho (I.ok.frf L hL) hL fun z=>I.ok.exfs L z hL
   exact⟨hk,⟨L,_,hf,hn,e,hd⟩,ih (fun b hb=>hs b (by unfold frs;rw[List.filterMap_cons,hf];exact List.mem_cons_of_mem _ hb)) hr⟩
 exact all X.outer (fun _ hb=>hb) I.ok.funs
theorem Inv.stack(I:Inv X jv σ H s):s.heap.FunFrames X.base X.stack:=by
 rcases I.ok.stk with e | ⟨e,hf⟩
 ·rw[e];exact I.funs
 ·rw[e];obtain⟨m,hn,_⟩:=I.loc;refine .cons (by rw[I.ok.kind];decide) hf hn ?_ I.funs
  exact Heap.get?_none_of_le (Nat.le_trans I.ok.bsz I.ok.above)
theorem Inv.stkSub(I:Inv X jv σ H s):∀b∈frs X.stack,b∈X.env.locals::X.fs:=fun b hb=>by
 rcases I.ok.stk with e | ⟨e,hf⟩
 ·rw[e] at hb;exact List.mem_cons_of_mem _ hb
 ·rw[e] at hb;unfold frs at hb;rw[List.filterMap_cons,hf] at hb;exact hb
theorem Inv.stkFree(I:Inv X jv σ H s):∀b∈frs X.stack,H b=none:=fun b hb=>by
 rcases List.mem_cons.mp (I.stkSub b hb) with e | hb
 ·rw[e];exact I.free
 ·obtain⟨_,o,ho,_⟩:=I.ok.funs.mem hb;exact I.base.free b o ho (I.ok.frf b hb) fun z=>I.ok.exfs b z hb
theorem Inv.step{g':Array GenState}{t':Nat}{d':Drawn}{ch:List Addr}(I:Inv X jv σ H s)
  (hch:∀b∈ch,(b∈X.ex∨X.s₀.heap.objs.size<=b)/\b≠X.env.locals/\(∀x c,X.env.cells.lookup x=some c->c≠b)/\∀p∈X.pn++jv,p.1≠b)
  (keep:∀b o,b≠X.env.locals->b∉X.fs->b∉ch->s.heap.get? b=some o->H b=none->h'.get? b=some o)
  (slot:∀b o,b≠X.env.locals->b∈X.fs->b∉ch->s.heap.get? b=some o->H b=none->∃sl,h'.get? b=some { o with slots:=sl }) (free:∀b o,b∉ch->s.heap.get? b=some o->H b=none->H' b=none)
  (there:∀b o,b∉ch->s.heap.get? b=some o->∃o',h'.get? b=some o')
  (tups:∀b xs,H b=some (.tup xs)->H' b=some (.tup xs)) (frzs:∀b o u,H b=some (.frz o u)->H' b=some (.frz o u)) (tbls:∀b ps,H b=some (.tbl ps)->∃more,H' b=some (.tbl (ps++more)))
  (ns:∀m,s.heap.Ns X.env.locals m->h'.Ns X.env.locals m) (hok:HOk X.prog X.w H' h') (hg:AllBare g') :
  Inv X jv σ H' { s with heap:=h',gens:=g',drawn:=d',toks:=t' }:=by
 have neL:∀b o,X.s₀.heap.get? b=some o->b≠X.env.locals:=fun b o e=>Nat.ne_of_lt (Nat.lt_of_lt_of_le (Heap.lt_size e) I.ok.above)
 have neC:∀b o,X.s₀.heap.get? b=some o->b∉X.ex->b∉ch:=fun b o e hx hb=>by
  rcases(hch b hb).1 with z | z
  ·exact hx z
  ·exact absurd (Nat.lt_of_lt_of_le (Heap.lt_size e) z) (Nat.lt_irrefl _)
 have cellK:∀x c,X.env.cells.lookup x=some c->∀v,s.heap.IsCell c v->h'.IsCell c v:=fun x c e v hq0=>by
  obtain⟨o,ho,hd⟩:=hq0;have nch:c∉ch:=fun z=>(hch c z).2.2.1 x c e rfl
  by_cases hc:c∈X.fs
  ·obtain⟨sl,q⟩:=slot c o (I.cne x c e) hc nch ho (I.freeC x c e);exact⟨_,q,hd⟩
  ·exact⟨o,keep c o (I.cne x c e) hc nch ho (I.freeC x c e),hd⟩
 refine⟨I.ok,I.os,hg,⟨fun b o e n hb hx =>?_,fun b o e n hb hx =>?_,fun b o e n hx =>?_,fun b o e hx =>?_,fun b xs e=>tups b xs (I.base.tups b xs e),fun b o xs e=>frzs b o xs (I.base.frzs b o xs e),fun b ps e =>?_⟩,?_,fun x c e =>?_,?_,fun x c e =>?_,fun p hp =>?_,hok,I.len⟩
 ·exact keep b o (neL b o e) hb (neC b o e hx) (I.base.keep b o e n hb hx) (I.base.free b o e n hx)
 ·obtain⟨sl,e1⟩:=I.base.slot b o e n hb hx;obtain⟨sl',e2⟩:=slot b _ (neL b o e) hb (neC b o e hx) e1 (I.base.free b o e n hx);exact⟨sl',e2⟩
 ·obtain⟨o',e1⟩:=I.base.there b o e hx;exact free b o' (neC b o e hx) e1 (I.base.free b o e n hx)
 ·obtain⟨o',e1⟩:=I.base.there b o e hx;exact there b o' (neC b o e hx) e1
 ·obtain⟨m1,e1⟩:=I.base.tbls b ps e;obtain⟨m2,e2⟩:=tbls b _ e1;exact⟨m1++m2,by rw[e2,Array.append_assoc]⟩
 ·obtain⟨m,hn,hl⟩:=I.loc;refine⟨m,ns m hn,fun i x v e1 e2 e3 =>?_⟩
  obtain⟨u,r,l⟩:=hl i x v e1 e2 e3;refine⟨u,r,?_⟩;rcases l with l | ⟨k,c,e,z⟩
  ·exact .inl l
  ·exact .inr ⟨k,c,e,cellK x c e _ z⟩
 ·obtain⟨v,z⟩:=I.cell x c e;exact⟨v,cellK x c e v z⟩
 ·obtain⟨m,⟨o,_,_,ho,_⟩,_⟩:=I.loc;exact free _ o (fun z=>(hch _ z).2.1 rfl) ho I.free
 ·obtain⟨v,o,ho,hd⟩:=I.cell x c e;exact free c o (fun z=>(hch c z).2.2.1 x c e rfl) ho (I.freeC x c e)
 ·obtain⟨e,n,ne,nf,d⟩:=I.pin p hp;have nch:p.1∉ch:=fun z=>(hch p.1 z).2.2.2 p hp rfl
  exact⟨keep p.1 p.2 ne nf nch e n,free p.1 p.2 nch e n,ne,nf,d⟩
theorem Inv.un{t':Nat}(I:Inv X jv σ H s)(u:Un X.fs [] H H' s.heap h')(hok:HOk X.prog X.w H' h'):Inv X jv σ H' { s with heap:=h',toks:=t' }:=by
 obtain⟨m,⟨o,es,ep,ho,r⟩,_⟩:=id I.loc;obtain⟨sl,hL⟩:=u.any ho I.free (by simp)
 exact I.step (g':=s.gens) (d':=s.drawn) (ch:=[]) (fun _ z=>nomatch z) (fun b o _ hb _ e n=>u.keep b o e n hb (by simp)) (fun b o _ hb _ e n=>u.slot b o e n hb (by simp)) (fun b o _ e n=>u.free b o e n (by simp)) (fun b o _ e=>u.there b o e (by simp)) u.tups u.frzs u.tbls (fun m' hm=>by
  obtain⟨o',es',ep',ho',r'⟩:=hm;rw[ho] at ho';cases ho';exact⟨_,es',ep',hL,r'⟩) hok I.bare
theorem Inv.call{g':Array GenState}{t':Nat}{d':Drawn}{ch:List Addr}(I:Inv X jv σ H s)(u:Un (frs X.stack) ch H H' s.heap h')(hok:HOk X.prog X.w H' h')(hg:AllBare g')
  (hch:∀b∈ch,(b∈X.ex∨X.s₀.heap.objs.size<=b)/\b≠X.env.locals/\(∀x c,X.env.cells.lookup x=some c->c≠b)/\∀p∈X.pn++jv,p.1≠b) :
  Inv X jv σ H' { s with heap:=h',gens:=g',drawn:=d',toks:=t' }:=by
 obtain⟨m,⟨o,es,ep,ho,r⟩,_⟩:=id I.loc;obtain⟨sl,hL⟩:=u.any ho I.free fun z=>(hch _ z).2.1 rfl
 exact I.step (ch:=ch) hch (fun b o hL hb hc e n=>u.keep b o e n (fun z=>(List.mem_cons.mp (I.stkSub b z)).elim hL hb) hc) (fun b o _ _ hc e n=>u.any e n hc) (fun b o hc e n=>u.free b o e n hc) (fun b o hc e=>u.there b o e hc) u.tups u.frzs u.tbls (fun m' hm=>by
  obtain⟨o',es',ep',ho',r'⟩:=hm;rw[ho] at ho';cases ho';exact⟨_,es',ep',hL,r'⟩) hok hg
theorem Inv.turned{t':Nat}{it:Addr}(I:Inv X jv σ H s)(k:∀b o,b≠it->s.heap.get? b=some o->h'.get? b=some o)(hn:H it=none)(hL:it≠X.env.locals)
  (h1:it∈X.ex∨X.s₀.heap.objs.size<=it) (h2:∀x c,X.env.cells.lookup x=some c->c≠it) (h3:∀p∈X.pn++jv,p.1≠it):Inv X jv σ H { s with heap:=h',toks:=t' }:=by
 have nit:∀b u,H b=some u->b≠it:=fun b u e z=>by rw[z,hn] at e;cases e
 refine I.step (g':=s.gens) (d':=s.drawn) (ch:=[it]) (fun b hb =>?_) (fun b o _ _ hc e _=>k b o (fun z=>hc (by simp[z])) e) (fun b o _ _ hc e _=>⟨o.slots,k b o (fun z=>hc (by simp[z])) e⟩) (fun _ _ _ _ n=>n)
  (fun b o hc e=>⟨o,k b o (fun z=>hc (by simp[z])) e⟩) (fun _ _ e=>e) (fun _ _ _ e=>e) (fun b ps e=>⟨#[],by rw[e];simp⟩) (fun m hm =>?_) (fun b u e =>?_) I.bare
 ·have e:b=it:=by simpa using hb
  subst e;exact⟨h1,hL,h2,h3⟩
 ·obtain⟨o,es,ep,ho,r⟩:=hm;exact⟨o,es,ep,k _ o (Ne.symm hL) ho,r⟩
 ·refine(I.hok b u e).stay (fun c v hc q=>k c v ?_ q) (fun _ q=>q) fun _ _ q=>q
  rcases hc with z | z
  ·rw[z];exact nit b u e
  ·exact nit c _ z
theorem Inv.tok(I:Inv X jv σ H s)(t:Nat):Inv X jv σ H { s with toks:=t }:=I.un (h':=s.heap) (t':=t) Un.refl I.hok
theorem Inv.kept{t':Nat}(I:Inv X jv σ H s)(k:∀b u,s.heap.get? b=some u->h'.get? b=some u):Inv X jv σ H { s with heap:=h',toks:=t' }:=I.un (Un.kept k) (I.hok.kept k)
theorem Inv.laid{a:Addr}{o:HO}{t':Nat}(I:Inv X jv σ H s)(k:∀b u,s.heap.get? b=some u->h'.get? b=some u)(hp:s.heap.objs.size<=a)(new:ue X.prog X.w (upd H a o) h' a o) :
  Inv X jv σ (upd H a o) { s with heap:=h',toks:=t' }:=I.un (Un.laid k hp (I.hok.fresh hp)) (I.hok.laid k hp new)
theorem Inv.write{x e:Addr}{o:HO}{t':Nat}(I:Inv X jv σ H s)(mu:Mut (H x))(he:e=x∨H e=some (.own x))(k:∀b u,b≠e->s.heap.get? b=some u->h'.get? b=some u)(heo:∃u,h'.get? e=some u)
  (new:ue X.prog X.w (upd H x o) h' x o):Inv X jv σ (upd H x o) { s with heap:=h',toks:=t' }:=I.un (Un.write mu he k heo) (I.hok.write mu he k heo new)
theorem Inv.pins_of{pins':List (Addr×Obj)}(I:Inv X jv σ H s)(h:∀p∈pins',s.heap.get? p.1=some p.2/\H p.1=none/\p.1≠X.env.locals/\p.1∉X.fs/\∀v,p.2.data≠.cell v):Inv X pins' σ H s :=
 ⟨I.ok,I.os,I.bare,I.base,I.loc,I.cell,I.free,I.freeC,fun p hp=>(List.mem_append.mp hp).elim (fun z=>I.pin p (List.mem_append_left _ z)) (h p),I.hok,I.len⟩
theorem ahh{N:List Str}(hN:N.Nodup){i j:Nat}{x:Str}(a:N[i]? = some x)(b:N[j]? = some x):i=j:=by
 obtain⟨h1,e1⟩:=List.getElem?_eq_some_iff.mp a;obtain⟨h2,e2⟩:=List.getElem?_eq_some_iff.mp b;exact(List.getElem_inj hN).mp (e1.trans e2.symm)
theorem aie{M:Model}{A:Around}{E:Value->Shared->Prop}{i:Nat}{x:Str}{v:V}{u:Value}{Q:Unit->Shared->Prop}(I:Inv X jv σ H s)(hN:X.N.Nodup)(hi:X.N[i]? = some x)(hx:Loc X.env.scope x)(r:RelV v u)
  (h:∀s',Inv X jv (σ.set i (some v)) H s'->(∃a,Heap.SameBut a s.heap s'.heap/\(a=X.env.locals∨X.env.cells.lookup x=some a))->Q () s') (hf:X.fn x=true∨X.env.scope.names.lookup x=some .local:=by first | exact .inl rfl | exact .inr rfl | assumption):wpAny M A (storeName X.env x u) Q E s:=by
 obtain⟨m,hn,hl⟩:=id I.loc;have hcls:(X.env.scope.kind==.class||(X.env.scope.kind==.module&&X.env.locals != X.env.globals))=false:=by rw[I.ok.kind];rfl
 have hiσ:i < σ.length:=by rw[I.len];exact(List.getElem?_eq_some_iff.mp hi).1
 have cne:=I.cne;have tracked:∀{a:Addr} {h':Heap},(∃o,s.heap.get? a=some o/\H a=none)->Heap.SameBut a s.heap h'->HOk X.prog X.w H h':=fun{a h'} ha hs b ob e=>by
  obtain⟨_,_,hfree⟩:=ha;refine(I.hok b ob e).stay (fun c w' hc q=>(hs.2 c ?_).trans q) (fun _ q=>q) fun _ _ q=>q
  rintro rfl
  rcases hc with rfl | hc
  ·rw[hfree] at e;cases e
  ·rw[hfree] at hc;cases hc
 rcases hx with hk | hk
 ·refine wpAny_storeName_local hk hn (fun h' hn' hs =>?_) hcls
  obtain⟨oL,_,_,hoL,_⟩:=id hn;refine h _ ⟨I.ok,I.os,I.bare,⟨fun b o e n hb hx =>?_,fun b o e n hb hx =>?_,I.base.free,fun b o e hx =>?_,I.base.tups,I.base.frzs,I.base.tbls⟩,⟨_,hn',fun j y v' e1 e2 e3 =>?_⟩,fun y c e =>?_,I.free,I.freeC,fun p hp =>?_,tracked ⟨oL,hoL,I.free⟩ hs,by simpa using I.len⟩ ⟨_,hs,.inl rfl⟩
  ·exact(hs.2 b (Nat.ne_of_lt (Nat.lt_of_lt_of_le (Heap.lt_size e) I.ok.above))).trans (I.base.keep b o e n hb hx)
  ·obtain⟨sl,e1⟩:=I.base.slot b o e n hb hx;exact⟨sl,(hs.2 b (Nat.ne_of_lt (Nat.lt_of_lt_of_le (Heap.lt_size e) I.ok.above))).trans e1⟩
  ·obtain⟨o',e1⟩:=I.base.there b o e hx;exact⟨o',(hs.2 b (Nat.ne_of_lt (Nat.lt_of_lt_of_le (Heap.lt_size e) I.ok.above))).trans e1⟩
  ·by_cases hj:j=i
   ·subst hj;rw[hi] at e1;cases e1;rw[List.getElem?_set_self hiσ] at e2;cases e2;exact⟨u,r,.inl ⟨hk,by simp⟩⟩
   ·rw[List.getElem?_set_ne (Ne.symm hj)] at e2;obtain⟨u',r',q⟩:=hl j y v' e1 e2 e3;refine⟨u',r',?_⟩;rcases q with⟨k,e⟩ | ⟨k,c,e,z⟩
    ·refine .inl ⟨k,?_⟩;have:y≠x:=fun e=>hj (ahh hN e1 (e▸hi))
     simp[this,e]
    ·exact .inr ⟨k,c,e,z.sameBut hs (cne y c e)⟩
  ·obtain⟨w',z⟩:=I.cell y c e;exact⟨w',z.sameBut hs (cne y c e)⟩
  ·obtain⟨e,n,ne,nf,d⟩:=I.pin p hp;exact⟨(hs.2 p.1 ne).trans e,n,ne,nf,d⟩
 ·have hfn:X.fn x=true:=by
   rcases hf with z | z
   ·exact z
   ·rw[z] at hk;cases hk
  obtain⟨c,hc⟩:=I.ok.has x (.inl hk);obtain⟨w',z⟩:=I.cell x c hc;refine wpAny_storeName_cell I.ok.kind hk hc z (fun h' hc' hs =>?_)
  obtain⟨oc,hoc,hocd⟩:=id z;refine h { s with heap:=h' } ⟨I.ok,I.os,I.bare,⟨fun b o e n hb hx =>?_,fun b o e n hb hx =>?_,I.base.free,fun b o e hx =>?_,I.base.tups,I.base.frzs,I.base.tbls⟩,⟨m,hn.sameBut hs (Ne.symm (cne x c hc)),fun j y v' e1 e2 e3 =>?_⟩,fun y c' e =>?_,I.free,I.freeC,fun p hp =>?_,tracked ⟨oc,hoc,I.freeC x c hc⟩ hs,by simpa using I.len⟩ ⟨c,hs,.inr hc⟩
  ·exact(hs.2 b (Nat.ne_of_lt (Nat.lt_of_lt_of_le (Heap.lt_size e) (I.ok.cab x c hfn hc)))).trans (I.base.keep b o e n hb hx)
  ·obtain⟨sl,e1⟩:=I.base.slot b o e n hb hx;exact⟨sl,(hs.2 b (Nat.ne_of_lt (Nat.lt_of_lt_of_le (Heap.lt_size e) (I.ok.cab x c hfn hc)))).trans e1⟩
  ·obtain⟨o',e1⟩:=I.base.there b o e hx;exact⟨o',(hs.2 b (Nat.ne_of_lt (Nat.lt_of_lt_of_le (Heap.lt_size e) (I.ok.cab x c hfn hc)))).trans e1⟩
  ·by_cases hj:j=i
   ·subst hj;rw[hi] at e1;cases e1;rw[List.getElem?_set_self hiσ] at e2;cases e2;exact⟨u,r,.inr ⟨.inl hk,c,hc,hc'⟩⟩
   ·rw[List.getElem?_set_ne (Ne.symm hj)] at e2;obtain⟨u',r',q⟩:=hl j y v' e1 e2 e3;refine⟨u',r',?_⟩;rcases q with q | ⟨k,c',e,z'⟩
    ·exact .inl q
    ·refine .inr ⟨k,c',e,z'.sameBut hs ?_⟩
     rintro rfl
     exact hj (ahh hN e1 (I.ok.inj _ _ _ e hc▸hi))
  ·by_cases hcc:c'=c
   ·subst hcc;exact⟨_,hc'⟩
   ·obtain⟨w2,z2⟩:=I.cell y c' e;exact⟨w2,z2.sameBut hs hcc⟩
  ·obtain⟨e,n,ne,nf,d⟩:=I.pin p hp;refine⟨(hs.2 p.1 ?_).trans e,n,ne,nf,d⟩;intro q;rw[q,hoc] at e;have q':oc=p.2:=Option.some.inj e;exact d w' (by rw[<-q'];exact hocd)
theorem ach{M:Model}{A:Around}{E:Value->Shared->Prop}{i:Nat}{x:Str}{v:V}{u:Value}{Q:Unit->Shared->Prop}(I:Inv X jv σ H s)(hN:X.N.Nodup)(hi:X.N[i]? = some x)(hx:Loc X.env.scope x)(r:RelV v u)
  (h:∀s',Inv X jv (σ.set i (some v)) H s'->Q () s') (hf:X.fn x=true∨X.env.scope.names.lookup x=some .local:=by first | exact .inl rfl | exact .inr rfl | assumption):wpAny M A (storeName X.env x u) Q E s :=
 aie I hN hi hx r (fun s' I' _=>h s' I') hf
theorem Inv.call'{s':Shared}{ch:List Addr}(I:Inv X jv σ H s)(ho:s'.os=s.os)(u:Un (frs X.stack) ch H H' s.heap s'.heap)(hok:HOk X.prog X.w H' s'.heap)(hg:AllBare s'.gens)
  (hch:∀b∈ch,(b∈X.ex∨X.s₀.heap.objs.size<=b)/\b≠X.env.locals/\(∀x c,X.env.cells.lookup x=some c->c≠b)/\∀p∈X.pn++jv,p.1≠b):Inv X jv σ H' s':=by
 obtain⟨h',g',d',t',o'⟩:=s';have e:o'=s.os:=ho;subst e;exact I.call (g':=g') (t':=t') (d':=d') u hok hg hch
end
abbrev XK:=Value->Option Addr->Hp->Prop
abbrev St:=List (Option V)
abbrev VK:=V->Hp->Prop
abbrev TE:=St->Hp->VK->Prop
abbrev TT:=St->Hp->(Bool->Hp->Prop)->Prop
abbrev TA:=St->Hp->(List V->Hp->Prop)->Prop
structure Ends where
 nx:St->Hp->Prop
 rt:VK
 bk:St->Hp->Prop:=fun _ _=>False
 ct:St->Hp->Prop:=fun _ _=>False
abbrev TS:=Ends->St->Hp->Prop
def EP(X:Cx)(jv:List (Addr×Obj))(σ:St)(Q:VK)(u:Value)(s':Shared):Prop:=∃v H',Inv X jv σ H' s'/\RelV v u/\Q v H'
def TP(X:Cx)(jv:List (Addr×Obj))(σ:St)(Q:Bool->Hp->Prop)(b:Bool)(s':Shared):Prop:=∃H',Inv X jv σ H' s'/\Q b H'
def AP(X:Cx)(jv:List (Addr×Obj))(σ:St)(Q:List V->Hp->Prop)(us:List Value)(s':Shared):Prop:=∃vs H',Inv X jv σ H' s'/\Vals vs us/\Q vs H'
def SP(X:Cx)(jv:List (Addr×Obj))(D:Ends)(f:Flow)(s':Shared):Prop :=
 match f with
 | .next=>∃σ' H',Inv X jv σ' H' s'/\D.nx σ' H'
 | .brk=>∃σ' H',Inv X jv σ' H' s'/\D.bk σ' H'
 | .cont=>∃σ' H',Inv X jv σ' H' s'/\D.ct σ' H'
 | .ret u=>∃v σ' H',Inv X jv σ' H' s'/\RelV v u/\D.rt v H'
def PE(X:Cx)(e:Expr)(t:TE):Prop :=
 ∀(jv:List (Addr×Obj)) (s:Shared) (σ:St) (H:Hp) (Q:VK),Inv X jv σ H s->t σ H Q->wpAny (model X.prog X.w) X.A (eval e X.env) (EP X jv σ Q) X.xe s
def PT(X:Cx)(e:Expr)(t:TT):Prop :=
 ∀(jv:List (Addr×Obj)) (s:Shared) (σ:St) (H:Hp) (Q:Bool->Hp->Prop),Inv X jv σ H s->t σ H Q->wpAny (model X.prog X.w) X.A (isTrue e X.env (eval e X.env)) (TP X jv σ Q) X.xe s
def PW(X:Cx)(e:Expr)(t:TT):Prop :=
 ∀(whole:Sem Value) (jv:List (Addr×Obj)) (s:Shared) (σ:St) (H:Hp) (Q:Bool->Hp->Prop),Inv X jv σ H s->t σ H Q->wpAny (model X.prog X.w) X.A (isTrue e X.env whole) (TP X jv σ Q) X.xe s
theorem PW.pt{X:Cx}{e:Expr}{t:TT}(h:PW X e t):PT X e t:=h _
def PA(X:Cx)(es:List Expr)(t:TA):Prop :=
 ∀(pos:Pos) (jv:List (Addr×Obj)) (s:Shared) (σ:St) (H:Hp) (Q:List V->Hp->Prop),Inv X jv σ H s->t σ H Q->wpAny (model X.prog X.w) X.A (spliced (backTo pos (starEach es X.env))) (AP X jv σ Q) X.xe s
def PS(X:Cx)(st:Stmt)(t:TS):Prop :=
 ∀(jv:List (Addr×Obj)) (s:Shared) (σ:St) (H:Hp) (D:Ends),Inv X jv σ H s->t D σ H->wpAny (model X.prog X.w) X.A (exec st X.env) (SP X jv D) X.xe s
def PSs(X:Cx)(st:List Stmt)(t:TS):Prop :=
 ∀(jv:List (Addr×Obj)) (s:Shared) (σ:St) (H:Hp) (D:Ends),Inv X jv σ H s->t D σ H->wpAny (model X.prog X.w) X.A (execs st X.env) (SP X jv D) X.xe s
theorem thn{α:Type}{t:Sem α}{Q Q':α->Shared->Prop}{M:Model}{A:Around}{E:Value->Shared->Prop}{s:Shared}(h:wpAny M A t Q E s)(hQ:∀a s,Q a s->Q' a s):wpAny M A t Q' E s:=wpAny_mono h hQ fun _ _ x=>x
section
variable{X:Cx}
def tVar(i:Nat):TE:=fun σ H Q=>∃v,σ[i]? = some (some v)/\Q v H
def tC(v:V):TE:=fun _ H Q=>Q v H
theorem ayj{i:Nat}{x:Str}{pos:Pos}(hN:X.N[i]? = some x)(hv:Vis X.env.scope x)(hd:(x==("__debug__" : Str))=false:=by decide)(hcd:(x==("__classdict__" : Str))=false:=by decide):PE X (.Name x pos) (tVar i):=by
 intro jv s σ H Q I h;obtain⟨v,e,h⟩:=h;obtain⟨m,hn,hl⟩:=I.loc;obtain⟨u,r,l⟩:=hl i x v hN e hv;have fin:EP X jv σ Q u s:=⟨v,H,I,r,h⟩;rcases l with⟨hk,hm⟩ | ⟨hk,c,hc,hcell⟩
 ·exact wpAny_Name (wpAny_loadName_local I.ok.kind hk hn hm fin) hd
 ·rcases hk with hk | hk
  ·exact wpAny_Name (wpAny_loadName_cell I.ok.kind hk hc hcell fin) hd
  ·exact wpAny_Name (wpAny_loadName_free I.ok.kind hk hc hcell fin hcd) hd
theorem ays{i j pos}:PE X (.Constant (.int i) j pos) (tC (.int i)):=fun _ _ _ H _ I h=>wpAny_Constant_int ⟨.int i,H,I.tok _,⟨_,rfl⟩,h⟩
theorem a2s{b j pos}:PE X (.Constant (.bool b) j pos) (tC (.bl b)):=fun _ _ _ H _ I h=>Constant_bool ⟨.bl b,H,I,rfl,h⟩
theorem ayp{j pos}:PE X (.Constant .none j pos) (tC .non):=fun _ _ _ H _ I h=>Constant_none ⟨.non,H,I,rfl,h⟩
theorem ayl{x j pos}:PE X (.Constant (.str x) j pos) (tC (.str x)):=fun _ _ _ H _ I h=>Calls.Constant_str ⟨.str x,H,I.tok _,⟨_,rfl⟩,h⟩
def Gl(X:Cx)(x:Str):Prop:=X.env.kindOf x=some .globalImplicit
theorem adu{E:Value->Shared->Prop}{jv:List (Addr×Obj)}{s:Shared}{σ:St}{H:Hp}{x:Str}{u:Value}{pos:Pos}{Q:Value->Shared->Prop}(I:Inv X jv σ H s)(hg:Gl X x)(hm:X.mg x=some u)(h:Q u s)
  (hd:(x==("__debug__" : Str))=false:=by decide):wpAny (model X.prog X.w) X.A (eval (.Name x pos) X.env) Q E s :=
 Calls.Name_function_global I.ok.kind hg (Calls.loadGlobal_global (by rw[I.ok.glob];exact I.mod.glob.keeps I.bk) hm h) hd
theorem agb{E:Value->Shared->Prop}{jv:List (Addr×Obj)}{s:Shared}{σ:St}{H:Hp}{x:Str}{u:Value}{pos:Pos}{Q:Value->Shared->Prop}(I:Inv X jv σ H s)(hg:Gl X x)(hm:X.mg x=none)(hv:bootBuiltins x=some u)(h:Q u s)
  (hn:x ≠ "__name__" := by decide) (hd:(x==("__debug__" : Str))=false:=by decide):wpAny (model X.prog X.w) X.A (eval (.Name x pos) X.env) Q E s:=by
 obtain⟨mb,h1,h2⟩:=I.mod.blt;exact Calls.Name_function_global I.ok.kind hg (Calls.loadGlobal_builtin (by rw[I.ok.glob];exact I.mod.glob.keeps I.bk) hm (by rw[I.ok.blt];exact h1.keeps I.bk) ((h2 x hn).trans hv) h) hd
theorem avr{x:Str}{v:V}{u:Value}{pos:Pos}(hg:Gl X x)(hm:X.mg x=some u)(r:RelV v u)(hd:(x==("__debug__" : Str))=false:=by decide):PE X (.Name x pos) (tC v) :=
 fun _ _ _ H _ I h=>adu I hg hm ⟨v,H,I,r,h⟩ hd
theorem avv{x:Str}{v:V}{u:Value}{pos:Pos}(hg:Gl X x)(hm:X.mg x=none)(hv:bootBuiltins x=some u)(r:RelV v u)(hn:x ≠ "__name__" := by decide)(hd:(x==("__debug__" : Str))=false:=by decide):PE X (.Name x pos) (tC v) :=
 fun _ _ _ H _ I h=>agb I hg hm hv ⟨v,H,I,r,h⟩ hn hd
variable{a b:Expr}{ta tb:TE}{pos:Pos}
def tB(t:TE):TT:=fun σ H Q=>t σ H fun x H1=>∃c,x=.bl c/\Q c H1
theorem aya{e:Expr}{t:TE}(h:PE X e t)(he:∀whole,isTrue e X.env whole=(do let v <-whole;standAt e.pos;holding [v] (truthy v)):=by intro _;rfl):PT X e (tB t):=by
 intro jv s σ H Q I hw;refine isTrue_plain (thn (h jv s σ H _ I hw) fun v s1 ⟨x,H1,I1,r1,q1⟩ =>?_) (he _)
 obtain⟨d,rfl,q⟩:=q1;cases r1;exact wpAny_truthy_bool ⟨H1,I1,q⟩
variable{tA tB':TT}{rest:List Expr}
def tAnd(t u:TT):TT:=fun σ H Q=>t σ H fun c H1=>if c=true then u σ H1 Q else Q false H1
def tOr(t u:TT):TT:=fun σ H Q=>t σ H fun c H1=>if c=true then Q true H1 else u σ H1 Q
def tNot(t:TT):TT:=fun σ H Q=>t σ H fun c H1=>Q (!c) H1
theorem au9(ha:PT X a tA):PW X (.BoolOp .And [a] pos) tA:=by
 intro wh jv s σ H Q I h;refine isTrue_and (thn (ha jv s σ H Q I h) fun c s1 e =>?_)
 cases c with
 | true=>exact isTrue_and_nil e
 | false=>exact e
theorem ax6(ha:PT X a tA):PW X (.BoolOp .Or [a] pos) tA:=by
 intro wh jv s σ H Q I h;refine isTrue_or (thn (ha jv s σ H Q I h) fun c s1 e =>?_)
 cases c with
 | false=>exact isTrue_or_nil e
 | true=>exact e
theorem ax7(ha:PT X a tA)(hb:PW X (.BoolOp .And (b::rest) pos) tB'):PW X (.BoolOp .And (a::b::rest) pos) (tAnd tA tB'):=by
 intro wh jv s σ H Q I h;refine isTrue_and (thn (ha jv s σ H _ I h) fun c s1 ⟨H1,I1,q1⟩ =>?_)
 cases c with
 | true=>exact hb wh jv s1 σ H1 Q I1 q1
 | false=>exact⟨H1,I1,q1⟩
theorem a2j(ha:PT X a tA)(hb:PW X (.BoolOp .Or (b::rest) pos) tB'):PW X (.BoolOp .Or (a::b::rest) pos) (tOr tA tB'):=by
 intro wh jv s σ H Q I h;refine isTrue_or (thn (ha jv s σ H _ I h) fun c s1 ⟨H1,I1,q1⟩ =>?_)
 cases c with
 | true=>exact⟨H1,I1,q1⟩
 | false=>exact hb wh jv s1 σ H1 Q I1 q1
theorem ayb(ha:PT X a tA):PT X (.UnaryOp .Not a pos) (tNot tA):=by
 intro jv s σ H Q I h;exact isTrue_not (ha jv s σ H (fun c H1=>Q (!c) H1) I h)
def a2f(ta tb:TE):TE:=fun σ H Q=>ta σ H fun x H1=>∃c,x=.bl c/\if c=true then tb σ H1 Q else Q (.bl false) H1
def a2b(ta:TE):TE:=fun σ H Q=>ta σ H fun x H1=>∃c,x=.bl c/\Q (.bl (!c)) H1
theorem ayn{op}{t:TE}(h:PE X a t):PE X (.BoolOp op [a] pos) t:=fun jv s σ H Q I hw=>BoolOp_one (h jv s σ H Q I hw)
theorem ayu(ha:PE X a ta)(hb:PE X (.BoolOp .And (b::rest) pos) tb):PE X (.BoolOp .And (a::b::rest) pos) (a2f ta tb):=by
 intro jv s σ H Q I h;refine BoolOp_and (thn (ha jv s σ H _ I h) fun v s1 ⟨x,H1,I1,r1,q1⟩ =>?_)
 obtain⟨c,rfl,q1⟩:=q1;cases r1;refine wpAny_truthy_bool ?_;cases c with
 | true=>exact hb jv s1 σ H1 Q I1 q1
 | false=>exact⟨.bl false,H1,I1,rfl,q1⟩
theorem ayo(ha:PE X a ta):PE X (.UnaryOp .Not a pos) (a2b ta):=by
 intro jv s σ H Q I h;refine UnaryOp_ (thn (ha jv s σ H _ I h) fun v s1 ⟨x,H1,I1,r1,q1⟩ =>?_)
 obtain⟨c,rfl,q1⟩:=q1;cases r1;exact not_of (wpAny_truthy_bool ⟨.bl (!c),H1,I1,rfl,q1⟩)
end
def SqL(K:Fg9)(H:Hp)(a:Addr)(xs:List V):Prop :=
 Rd H a (.lst xs) ∨
  ∃(o:Obj) (its:Array Value) (n:Nat),K.lookup a=some o/\o.cls=.type "list" /\ o.dict=none/\o.data=.seq its n/\its.size<=sizeLine/\Vals xs its.toList
def SqT(K:Fg9)(H:Hp)(a:Addr)(xs:List V):Prop :=
 Rd H a (.tup xs) ∨
  ∃(o:Obj) (its:Array Value) (n:Nat),K.lookup a=some o/\o.cls=.type "tuple" /\ o.data=.seq its n/\its.size<=sizeLine/\Vals xs its.toList
def absV:Value->Option V
 | .none=>some .non
 | .bool b=>some (.bl b)
 | .int i _=>some (.int i)
 | .str x _=>some (.str x)
 | .bytes b _=>some (.byt b)
 | .float b _=>some (.flt b)
 | .ref a=>some (.ref a)
 | .type n=>some (.ty n)
 | _=>none
theorem RelV.abs{x:V}{u:Value}(r:RelV x u):absV u=some x:=by
 cases x with
 | non=>cases r;rfl
 | bl _=>cases r;rfl
 | int _=>obtain⟨t,rfl⟩:=r;rfl
 | str _=>obtain⟨t,rfl⟩:=r;rfl
 | byt _=>obtain⟨t,rfl⟩:=r;rfl
 | flt _=>obtain⟨t,rfl⟩:=r;rfl
 | ref _=>cases r;rfl
 | ty _=>cases r;rfl
theorem RelV.inj{x y:V}{u:Value}(r:RelV x u)(q:RelV y u):x=y:=Option.some.inj (r.abs.symm.trans q.abs)
theorem Vals.inj:∀{xs ys:List V} {us:List Value},Vals xs us->Vals ys us->xs=ys
 | _,_,_,.nil,.nil=>rfl
 | _,_,_,.cons r t,.cons r' t'=>by rw[r.inj r',Vals.inj t t']
section
variable{X:Cx}{jv:List (Addr×Obj)}{σ:St}{H:Hp}{s:Shared}{a:Addr}{xs ys:List V}
theorem SqL.of{K:Fg9}(h:H a=some (.lst xs)):SqL K H a xs:=.inl (.inl h)
theorem SqT.of{K:Fg9}(h:H a=some (.tup xs)):SqT K H a xs:=.inl (.inl h)
theorem Inv.list(I:Inv X jv σ H s)(h:SqL X.K H a xs):∃its:List Value,Vals xs its/\PlainL s.heap a its.toArray/\xs.length<=sizeLine:=by
 rcases h with h | ⟨o,its,n,hk,hc,hd,hs,hz,r⟩
 ·obtain⟨z,its,n,r,e⟩:=h.ok I.hok;exact⟨its,r,⟨_,n,e,rfl,rfl,rfl⟩,z⟩
 ·refine⟨its.toList,r,⟨o,n,I.kIn a o hk,hc,hd,by simpa using hs⟩,?_⟩
  have e:=r.length;simp only[Array.length_toList] at e;omega
theorem Inv.tuple(I:Inv X jv σ H s)(h:SqT X.K H a xs):∃its:List Value,Vals xs its/\IsTup s.heap a its.toArray/\xs.length<=sizeLine:=by
 rcases h with h | ⟨o,its,n,hk,hc,hs,hz,r⟩
 ·obtain⟨z,its,r,p⟩:=h.ok I.hok;exact⟨its,r,p.tup,z⟩
 ·refine⟨its.toList,r,⟨o,I.kIn a o hk,hc,n,by simpa using hs⟩,?_⟩
  have e:=r.length;simp only[Array.length_toList] at e;omega
theorem Inv.list_inj(I:Inv X jv σ H s)(h:SqL X.K H a xs)(h':SqL X.K H a ys):xs=ys:=by
 obtain⟨its,r,⟨o,n,e,_,_,d⟩,_⟩:=I.list h;obtain⟨its',r',⟨o',n',e',_,_,d'⟩,_⟩:=I.list h';rw[e] at e';cases e';rw[d] at d'
 injection d' with d1 _
 have:its=its':=by simpa using congrArg Array.toList d1
 subst this;exact r.inj r'
theorem Inv.tuple_inj(I:Inv X jv σ H s)(h:SqT X.K H a xs)(h':SqT X.K H a ys):xs=ys:=by
 obtain⟨its,r,⟨o,e,_,n,d⟩,_⟩:=I.tuple h;obtain⟨its',r',⟨o',e',_,n',d'⟩,_⟩:=I.tuple h';rw[e] at e';cases e';rw[d] at d'
 injection d' with d1 _
 have:its=its':=by simpa using congrArg Array.toList d1
 subst this;exact r.inj r'
end
abbrev Cx.wish(X:Cx)(E:Value->Shared->Prop):Cx:={ X with xe:=E }
abbrev Cx.nox(X:Cx):Cx:=X.wish fun _ _=>False
theorem Cx.Ok.wish{X:Cx}(ok:X.Ok)(E:Value->Shared->Prop):(X.wish E).Ok :=
 ⟨ok.mod,ok.kind,ok.glob,ok.blt,ok.above,ok.inj,ok.has,ok.cab,ok.hd,ok.frames,ok.stk,ok.exf,ok.bs,ok.bsz,ok.noex,ok.exfs,ok.funs,ok.frf⟩
theorem Cx.Ok.unwish{X:Cx}{E:Value->Shared->Prop}(ok:(X.wish E).Ok):X.Ok :=
 ⟨ok.mod,ok.kind,ok.glob,ok.blt,ok.above,ok.inj,ok.has,ok.cab,ok.hd,ok.frames,ok.stk,ok.exf,ok.bs,ok.bsz,ok.noex,ok.exfs,ok.funs,ok.frf⟩
section
variable{X:Cx}{jv:List (Addr×Obj)}{σ:St}{H:Hp}{s:Shared}{E:Value->Shared->Prop}
theorem Inv.wish(I:Inv X jv σ H s)(E:Value->Shared->Prop):Inv (X.wish E) jv σ H s:=⟨I.ok.wish E,I.os,I.bare,I.base,I.loc,I.cell,I.free,I.freeC,I.pin,I.hok,I.len⟩
theorem Inv.unwish(I:Inv (X.wish E) jv σ H s):Inv X jv σ H s:=⟨I.ok.unwish,I.os,I.bare,I.base,I.loc,I.cell,I.free,I.freeC,I.pin,I.hok,I.len⟩
theorem SP.unwish{D:Ends}{f:Flow}{s':Shared}(h:SP (X.wish E) jv D f s'):SP X jv D f s':=by
 cases f with
 | next=>obtain⟨σ',H',I,q⟩:=h;exact⟨σ',H',I.unwish,q⟩
 | brk=>obtain⟨σ',H',I,q⟩:=h;exact⟨σ',H',I.unwish,q⟩
 | cont=>obtain⟨σ',H',I,q⟩:=h;exact⟨σ',H',I.unwish,q⟩
 | ret u=>obtain⟨v,σ',H',I,r,q⟩:=h;exact⟨v,σ',H',I.unwish,r,q⟩
theorem PSs.nox{st:List Stmt}{t:TS}(h:PSs X.nox st t):PSs X st t:=fun jv s σ H D I hw =>
 wpAny_mono (h jv s σ H D (I.wish _) hw) (fun _ _ q=>q.unwish) fun _ _ z=>False.elim z
end
section
variable{X:Cx}{st:Stmt}{rest:List Stmt}{t u:TS}{e:Expr}{te:TE}{pos:Pos}
def a2c:TS:=fun D σ H=>D.nx σ H
def tSeq(t u:TS):TS:=fun D σ H=>t { D with nx:=u D } σ H
theorem ave:PSs X [] a2c:=fun _ _ σ H _ I h=>wpAny_execs_nil ⟨σ,H,I,h⟩
theorem ald(h1:PS X st t)(h2:PSs X rest u):PSs X (st::rest) (tSeq t u):=by
 intro jv s σ H D I h;refine wpAny_execs_cons (thn (h1 jv s σ H { D with nx:=u D } I h) fun f s1 q =>?_)
 cases f with
 | next =>
  obtain⟨σ',H',I',q⟩:=q;exact h2 jv s1 σ' H' D I' q
 | ret v=>exact q
 | brk=>exact q
 | cont=>exact q
theorem avd(h1:PS X st t):PSs X [st] t:=by
 intro jv s σ H D I h;refine wpAny_execs_cons (thn (h1 jv s σ H D I h) fun f s1 q =>?_)
 cases f with
 | next=>exact wpAny_execs_nil q
 | ret v=>exact q
 | brk=>exact q
 | cont=>exact q
theorem Inv.quiet{jv:List (Addr×Obj)}{σ:St}{H:Hp}{s:Shared}(I:Inv X jv σ H s):interactive X.env=false:=by simp[interactive,I.ok.kind]
def a2d(te:TE):TS:=fun D σ H=>te σ H fun _ H1=>D.nx σ H1
theorem avf(he:PE X e te)(hs:swapsWith e none pos.line X.env=pure false:=by rfl):PS X (.Expr e pos) (a2d te):=by
 intro jv s σ H D I h;exact wpAny_Expr_any (thn (he jv s σ H _ I h) fun v s1 ⟨x,H1,I1,r1,q1⟩=>⟨σ,H1,I1,q1⟩) I.quiet hs
def tRet(te:TE):TS:=fun D σ H=>te σ H D.rt
theorem aye(he:PE X e te):PS X (.Return (some e) pos) (tRet te):=by
 intro jv s σ H D I h;exact wpAny_Return_some (thn (he jv s σ H _ I h) fun v s1 ⟨x,H1,I1,r1,q1⟩=>⟨x,σ,H1,I1,r1,q1⟩)
def tIfS(c:TT)(t u:TS):TS:=fun D σ H=>c σ H fun b H1=>if b=true then t D σ H1 else u D σ H1
theorem a2m{c:Expr}{a b:List Stmt}{tc:TT}(hc:PT X c tc)(ha:PSs X a t)(hb:PSs X b u):PS X (.If c a b pos) (tIfS tc t u):=by
 intro jv s σ H D I h;refine wpAny_If (thn (hc jv s σ H _ I h) fun d s1 ⟨H1,I1,q1⟩ =>?_)
 cases d with
 | true=>exact ha jv s1 σ H1 D I1 q1
 | false=>exact hb jv s1 σ H1 D I1 q1
def axs:TS:=fun _ _ _=>False
theorem ard:PS X st axs:=fun _ _ _ _ _ _ h=>h.elim
end
abbrev TG:=V->St->Hp->(St->Hp->Prop)->Prop
abbrev TGs:=List V->St->Hp->(St->Hp->Prop)->Prop
def PG(X:Cx)(target:Expr)(t:TG):Prop :=
 ∀(jv:List (Addr×Obj)) (s:Shared) (σ:St) (H:Hp) (v:V) (u:Value) (Q:St->Hp->Prop),Inv X jv σ H s->RelV v u->t v σ H Q ->
  wpAny (model X.prog X.w) X.A (assign target X.env u) (fun _ s'=>∃σ' H',Inv X jv σ' H' s'/\Q σ' H') X.xe s
def PGs(X:Cx)(ts:List Expr)(t:TGs):Prop :=
 ∀(jv:List (Addr×Obj)) (s:Shared) (σ:St) (H:Hp) (vs:List V) (us:List Value) (Q:St->Hp->Prop),Inv X jv σ H s->Vals vs us->t vs σ H Q ->
  wpAny (model X.prog X.w) X.A (assignInOrder ((assignEach ts X.env).map (·.2)) us) (fun _ s'=>∃σ' H',Inv X jv σ' H' s'/\Q σ' H') X.xe s
abbrev TSet:=V->V->V->Hp->(Hp->Prop)->Prop
def PSet(X:Cx)(t:TSet):Prop :=
 ∀(jv:List (Addr×Obj)) (s:Shared) (σ:St) (H:Hp) (o i v:V) (ov iv u:Value) (Q:Hp->Prop),Inv X jv σ H s->RelV o ov->RelV i iv->RelV v u->t o i v H Q ->
  wpAny (model X.prog X.w) X.A (setItem ov iv u) (fun _ s'=>∃H',Inv X jv σ H' s'/\Q H') X.xe s
abbrev TIp:=V->V->Hp->VK->Prop
def PIp(X:Cx)(op:Operator)(t:TIp):Prop :=
 ∀(jv:List (Addr×Obj)) (s:Shared) (σ:St) (H:Hp) (x y:V) (v u:Value) (Q:VK),Inv X jv σ H s->RelV x v->RelV y u->t x y H Q ->
  wpAny (model X.prog X.w) X.A (inplaceOp op v u) (EP X jv σ Q) X.xe s
section
variable{X:Cx}{pos:Pos}
def awl(i:Nat):TG:=fun v σ H Q=>Q (σ.set i (some v)) H
theorem avp{i:Nat}{x:Str}(hN:X.N.Nodup)(hi:X.N[i]? = some x)(hx:Loc X.env.scope x)(hf:X.fn x=true∨X.env.scope.names.lookup x=some .local:=by first | exact .inl rfl | exact .inr rfl | assumption):PG X (.Name x pos) (awl i):=by
 intro jv s σ H v u Q I r h;exact wpAny_assign_Name (ach I hN hi hx r (fun s' I'=>⟨_,H,I',h⟩) hf)
def gNil:TGs:=fun vs σ H Q=>vs=[]/\Q σ H
def a4b(t:TG)(u:TGs):TGs:=fun vs σ H Q=>∃v r,vs=v::r/\t v σ H fun σ' H'=>u r σ' H' Q
theorem avo:PGs X [] gNil:=by
 intro jv s σ H vs us Q I r h;obtain⟨e,h⟩:=h;subst e;cases r;exact assignInOrder_nil ⟨σ,H,I,h⟩
theorem arj{e:Expr}{es:List Expr}{t:TG}{u:TGs}(h1:PG X e t)(h2:PGs X es u)
  (hs:(assignEach (e::es) X.env).map (·.2)=assign e X.env::(assignEach es X.env).map (·.2):=by rfl):PGs X (e::es) (a4b t u):=by
 intro jv s σ H vs us Q I r h;obtain⟨v,vr,e1,h⟩:=h;subst e1;cases r with
 | cons r rr =>
  rw[hs];refine assignInOrder_cons (thn (h1 jv s σ H _ _ _ I r h) fun _ s1 ⟨σ1,H1,I1,q1⟩ =>?_)
  exact h2 jv s1 σ1 H1 _ _ Q I1 rr q1
def gTup(K:Fg9)(n:Nat)(t:TGs):TG:=fun v σ H Q=>∃a xs,v=.ref a/\SqT K H a xs/\xs.length=n/\t xs σ H Q
theorem ayi{es:List Expr}{k:Nat}{t:TGs}{n:Nat}(hc:X.calm=true)(h:PGs X es t)
  (hn:(assignEach es X.env).length=n:=by rfl) (hst:(assignEach es X.env).findIdx? (·.1)=none:=by rfl):PG X (.Tuple es k pos) (gTup X.K n t):=by
 intro jv s σ H v u Q I r hw;obtain⟨a,xs,e1,hq,hl,hw⟩:=hw;subst e1;cases r;obtain⟨its,rv,ht,hz⟩:=I.tuple hq;refine assign_Tuple_tuple (I.ok.hd hc) ht (by simp[hn,<-hl,rv.length]) hst fun h' hx =>?_
 have I1:Inv X jv σ H { s with heap:=h' }:=I.kept (t':=s.toks) fun b o e=>hx b o (Nat.ne_of_lt (Heap.lt_size e)) e
 exact h jv _ σ H xs _ Q I1 (by simpa using rv) hw
def gSub(to ti:TE)(t:TSet):TG:=fun v σ H Q=>to σ H fun o H1=>ti σ H1 fun i H2=>t o i v H2 fun H3=>Q σ H3
theorem atv{o i:Expr}{to ti:TE}{t:TSet}(ho:PE X o to)(hi:PE X i ti)(hs:PSet X t)
  (ha:∀v,assign (.Subscript o i pos) X.env v=(do
   let ov <-holding [v] (eval o X.env)
   let iv <-holding [v,ov] (eval i X.env)
   standAt pos
   holding [v,ov,iv] (setItem ov iv v)
   release [v,ov,iv] []):=by intro _;rfl):PG X (.Subscript o i pos) (gSub to ti t):=by
 intro jv s σ H v u Q I r h;rw[ha];refine wpAny_bind (wpAny_holding (thn (ho jv s σ H _ I h) fun ov s1 ⟨x,H1,I1,r1,q1⟩ =>?_))
 refine wpAny_bind (wpAny_holding (thn (hi jv s1 σ H1 _ I1 q1) fun iv s2 ⟨y,H2,I2,r2,q2⟩ =>?_))
 refine wpAny_bind (wpAny_standAt (wpAny_bind (wpAny_holding (thn (hs jv s2 σ H2 x y v ov iv u _ I2 r1 r2 r q2) fun _ s3 ⟨H3,I3,q3⟩ =>?_))))
 exact wpAny_release ⟨σ,H3,I3,q3⟩
def tAsg(te:TE)(g:TG):TS:=fun D σ H=>te σ H fun x H1=>g x σ H1 D.nx
theorem atr{tg e:Expr}{te:TE}{g:TG}(he:PE X e te)(hg:PG X tg g)(hs:swapsWithSole [tg] e pos.line X.env=pure false:=by rfl)(hw:swappedStores [tg] e X.env=pure none:=by rfl)
  (h1:(assignEach [tg] X.env).map (·.2)=[assign tg X.env]:=by rfl):PS X (.Assign [tg] e pos) (tAsg te g):=by
 intro jv s σ H D I h;refine wpAny_Assign_stores (thn (he jv s σ H _ I h) fun v s1 ⟨x,H1,I1,r1,q1⟩ =>?_) hs hw
 rw[h1];exact thn (hg jv s1 σ H1 x v _ I1 r1 q1) fun _ s2 q=>q
theorem ayd{i:Nat}{x:Str}{e:Expr}{te:TE}{pos':Pos}(hN:X.N.Nodup)(hi:X.N[i]? = some x)(hx:Loc X.env.scope x)(he:PE X e te)(hs:swapsWith e (some (.Name x pos')) pos.line X.env=pure false:=by rfl)(hf:X.fn x=true∨X.env.scope.names.lookup x=some .local:=by first | exact .inl rfl | exact .inr rfl | assumption) :
  PS X (.Assign [.Name x pos'] e pos) (tAsg te (awl i)):=by
 intro jv s σ H D I h;refine wpAny_Assign_Name (thn (he jv s σ H _ I h) fun v s1 ⟨y,H1,I1,r1,q1⟩ =>?_) hs
 exact ach I1 hN hi hx r1 (fun s2 I2=>⟨_,H1,I2,q1⟩) hf
def tAug(i:Nat)(te:TE)(ti:TIp):TS:=fun D σ H=>∃x,σ[i]? = some (some x)/\te σ H fun y H1=>ti x y H1 fun z H2=>D.nx (σ.set i (some z)) H2
theorem ayg{i:Nat}{x:Str}{e:Expr}{te:TE}{op:Operator}{ti:TIp}{pos':Pos}(hN:X.N.Nodup)(hi:X.N[i]? = some x)(hx:Loc X.env.scope x)(he:PE X e te)(ho:PIp X op ti)(hf:X.fn x=true∨X.env.scope.names.lookup x=some .local:=by first | exact .inl rfl | exact .inr rfl | assumption) :
  PS X (.AugAssign (.Name x pos') op e pos) (tAug i te ti):=by
 intro jv s σ H D I h;obtain⟨v,e1,h⟩:=h;obtain⟨m,hn,hl⟩:=I.loc;have vis:Vis X.env.scope x:=by rcases hx with k | k;exact .inl k;exact .inr (.inl k)
 obtain⟨u,r,l⟩:=hl i x v hi e1 vis;refine wpAny_AugAssign_Name ?_;have go:wpAny (model X.prog X.w) X.A (eval e X.env) (fun w s₂=>wpAny (model X.prog X.w) X.A (inplaceOp op u w) (fun r s₃=>wpAny (model X.prog X.w) X.A (storeName X.env x r) (fun _=>SP X jv D .next) X.xe s₃) X.xe s₂) X.xe s:=by
  refine thn (he jv s σ H _ I h) fun w s1 ⟨y,H1,I1,r1,q1⟩ =>?_
  refine thn (ho jv s1 σ H1 v y u w _ I1 r r1 q1) fun z s2 ⟨zv,H2,I2,r2,q2⟩ =>?_
  exact ach I2 hN hi hx r2 (fun s3 I3=>⟨_,H2,I3,q2⟩) hf
 rcases l with⟨hk,hm⟩ | ⟨hk,c,hc,hcell⟩
 ·exact wpAny_loadName_local I.ok.kind hk hn hm go
 ·rcases hk with hk | hk
  ·exact wpAny_loadName_cell I.ok.kind hk hc hcell go
  ·rcases hx with k | k
   ·have:X.env.scope.names.lookup x=some .free:=hk;rw[k] at this;cases this
   ·have:X.env.scope.names.lookup x=some .free:=hk;rw[k] at this;cases this
def ipI(f:Int->Int->Int):TIp:=fun x y H Q=>∃i j,x=.int i/\y=.int j/\Q (.int (f i j)) H
theorem az1:PIp X .Add (ipI fun i j=>i+j):=by
 intro jv s σ H x y v u Q I r1 r2 h;obtain⟨i,j,e1,e2,q⟩:=h;subst e1;subst e2;obtain⟨t,rfl⟩:=r1;obtain⟨t',rfl⟩:=r2;exact iadd_int ⟨.int _,H,I.tok _,⟨_,rfl⟩,q⟩
end
section
variable{X:Cx}{pos:Pos}
def axr(c:TT)(tb:TS):TS:=fun D σ H=>∃W:Nat->St->Hp->Prop,(∃m,W m σ H)/\∀m σ H,W m σ H ->
 c σ H fun b H1=>if b=true then ∃N:St->Hp->Prop,(∀σ' H',N σ' H'->∃m',m' < m/\W m' σ' H')/\tb { D with nx:=N,ct:=N,bk:=D.nx } σ H1 else D.nx σ H1
theorem arc{c:Expr}{body:List Stmt}{tc:TT}{tb:TS}(hp:PassesOwn (model X.prog X.w) X.A X.env X.xe)(hc:PT X c tc)(hb:PSs X body tb):PS X (.While c body [] pos) (axr tc tb):=by
 intro jv s σ H D I h;obtain⟨W,⟨m0,w0⟩,turn⟩:=h;refine wpAny_While (codeAny_whileLoop (fun n s'=>∃σ' H',Inv X jv σ' H' s'/\W n σ' H') ?_ m0 ⟨σ,H,I,w0⟩)
 rintro n s1 ⟨σ1,H1,I1,w1⟩
 refine wpAny_passesOwn hp (thn (hc jv s1 σ1 H1 _ I1 (turn n σ1 H1 w1)) fun b s2 ⟨H2,I2,q2⟩ =>?_)
 cases b with
 | true =>
  obtain⟨N,hN,q2⟩:=q2;rw[if_pos rfl];refine wpAny_passesOwn hp (thn (hb jv s2 σ1 H2 _ I2 q2) fun f s3 q3 =>?_)
  cases f with
  | next =>
   obtain⟨σ3,H3,I3,n3⟩:=q3;obtain⟨m',hm,w3⟩:=hN σ3 H3 n3;exact⟨m',hm,σ3,H3,I3,w3⟩
  | cont =>
   obtain⟨σ3,H3,I3,n3⟩:=q3;obtain⟨m',hm,w3⟩:=hN σ3 H3 n3;exact⟨m',hm,σ3,H3,I3,w3⟩
  | brk=>exact q3
  | ret v=>exact q3
 | false =>
  rw[if_neg Bool.false_ne_true];exact wpAny_execs_nil ⟨σ1,H2,I2,q2⟩
end
structure It where
 go:Nat->Hp->Prop
 yld:Nat->Hp->V->Hp->Prop
 stop:Nat->Hp->Prop
def FpOk(X:Cx)(jv:List (Addr×Obj))(H:Hp)(b:Addr):Prop :=
 H b=none/\b≠X.env.locals/\b∉X.fs/\(b∈X.ex∨X.s₀.heap.objs.size<=b)/\(∀x c,X.env.cells.lookup x=some c->c≠b)/\∀p∈X.pn++jv,p.1≠b
theorem Inv.fpOk{X:Cx}{jv:List (Addr×Obj)}{σ:St}{H H':Hp}{s:Shared}{b:Addr}(I:Inv X jv σ H s)(hb:s.heap.objs.size<=b)(hn:H' b=none):FpOk X jv H' b:=by
 refine⟨hn,Nat.ne_of_gt (Nat.lt_of_lt_of_le I.lt hb),I.nofs hb,.inr (Nat.le_trans I.sz hb),fun x c e z =>?_,fun p hp z =>?_⟩
 ·obtain⟨v,q⟩:=I.cell x c e;exact absurd (Nat.lt_of_lt_of_le q.lt (by rw[z];exact hb)) (Nat.lt_irrefl _)
 ·exact absurd (Nat.lt_of_lt_of_le (Heap.lt_size (I.pin p hp).1) (by rw[z];exact hb)) (Nat.lt_irrefl _)
structure Turn (P:Program) (w:World) (K:Fg9) (tg:Expr) (J:It) (fp:List Addr) (it:Addr) (tn:Nat->Heap->Prop):Prop where
 mem:it∈fp
 obj:∀i h,tn i h->∀b∈fp,∃o,h.get? b=some o/\∀v,o.data≠.cell v
 keep:∀i h h',tn i h->(∀b∈fp,∀o,h.get? b=some o->h'.get? b=some o)->tn i h'
 item:∀(X:Cx),X.prog=P->X.w=w->X.K=K->X.calm=true->∀(i:Nat) (jv:List (Addr×Obj)) (s:Shared) (σ:St) (H:Hp) (E:Value->Shared->Prop),Inv X jv σ H s->(∀b∈fp,FpOk X jv H b)->tn i s.heap->J.go i H ->
  wpAny (model P w) X.A (pyNext (.ref it)) (fun r s1=>∃u,r=some u /\
   wpAny (model P w) X.A (letOwnedTupleGo tg (.ref it) u) (fun _ s2=>∃x H',Inv X jv σ H' s2/\RelV x u/\J.yld i H x H'/\tn (i+1) s2.heap/\∀b∈fp,H' b=none) E s1) E s
 done:∀(X:Cx),X.prog=P->X.w=w->X.K=K->X.calm=true->∀(i:Nat) (jv:List (Addr×Obj)) (s:Shared) (σ:St) (H:Hp) (E:Value->Shared->Prop),Inv X jv σ H s->(∀b∈fp,FpOk X jv H b)->tn i s.heap->J.stop i H ->
  wpAny (model P w) X.A (pyNext (.ref it)) (fun r s1=>r=none/\Inv X jv σ H s1) E s
 self:∀(A:Around) (i:Nat) (s:Shared) (Q:Value->Shared->Prop) (E:Value->Shared->Prop),tn i s.heap->Q (.ref it) s->wpAny (model P w) A (pyIter (.ref it)) Q E s
abbrev TI:=St->Hp->(It->Hp->Prop)->Prop
def PIE(X:Cx)(jv:List (Addr×Obj))(σ:St)(tg:Expr)(R:It->Hp->Prop)(itv:Value)(s2:Shared):Prop :=
 ∃(it:Addr) (fp:List Addr) (tn:Nat->Heap->Prop) (J:It) (H':Hp),itv=.ref it/\Inv X jv σ H' s2/\Turn X.prog X.w X.K tg J fp it tn/\tn 0 s2.heap/\(∀b∈fp,FpOk X jv H' b)/\R J H'
def PI(X:Cx)(tg iter:Expr)(wi:TI):Prop :=
 ∀(jv:List (Addr×Obj)) (s:Shared) (σ:St) (H:Hp) (R:It->Hp->Prop),Inv X jv σ H s->wi σ H R ->
  wpAny (model X.prog X.w) X.A (eval iter X.env) (fun v s1=>wpAny (model X.prog X.w) X.A (pyIter v) (PIE X jv σ tg R) X.xe s1) X.xe s
theorem awi{M:Model}{A:Around}{E:Value->Shared->Prop}{s:Shared}{tg:Expr}{it:Addr}{u:Value}{o:Obj}{n:String}{vs:Array Value}{Q:Unit->Shared->Prop}(ho:s.heap.get? it=some o)(hc:o.cls=.type n)(hd:o.data=.fields vs)
  (hn:["enumerate","zip","dict_itemiterator","dict_reverseitemiterator","odict_iterator","itertools.zip_longest","itertools.pairwise"].contains n=false) (hQ:Q () s):wpAny M A (letOwnedTupleGo tg (.ref it) u) Q E s:=by
 unfold letOwnedTupleGo;cases tg <;> first
  | exact wpAny_pure hQ
  | (cases u <;> first
    | exact wpAny_pure hQ
    | (refine wpAny_bind (wpAny_load ho ?_)
       rw[hc,hd];show wpAny M A (if (["enumerate","zip","dict_itemiterator","dict_reverseitemiterator","odict_iterator","itertools.zip_longest","itertools.pairwise"].contains n&&vs[0]? == some (rawInt _))=true then _ else _) Q E s
       rw[if_neg (by intro h;rw[hn,Bool.false_and] at h;cases h)]
       exact wpAny_pure hQ))
def Itl(K:Fg9)(a:Addr):It :=
 ⟨fun i H=>∃xs x,SqL K H a xs/\xs[i]? = some x,fun i H x H'=>H'=H/\∀xs,SqL K H a xs->xs[i]? = some x,fun i H=>∃xs,SqL K H a xs/\xs.length<=i⟩
def Itt(K:Fg9)(a:Addr):It :=
 ⟨fun i H=>∃xs x,SqT K H a xs/\xs[i]? = some x,fun i H x H'=>H'=H/\∀xs,SqT K H a xs->xs[i]? = some x,fun i H=>∃xs,SqT K H a xs/\xs.length<=i⟩
def Itr(lo:Int)(n:Nat):It:=⟨fun i _=>i < n,fun i H x H'=>H'=H/\x=.int (lo+i),fun i _=>n<=i⟩
theorem anw{P:Program}{w:World}{K:Fg9}{tg:Expr}(a it:Addr):Turn P w K tg (Itl K a) [it] it (fun i h=>h.IsListIter it a i) where
 mem:=by simp
 obj:=fun i h st b hb=>by
  have e:b=it:=by simpa using hb
  subst e;obtain⟨o,e,c,d⟩:=st;exact⟨o,e,fun v z=>by rw[d] at z;cases z⟩
 keep:=fun i h h' st k=>st.at fun o e=>k it (by simp) o e
 item:=by
  intro X hP hw hK hc i jv s σ H E I hf st hg;subst hP hw hK;obtain⟨xs,x,hq,hx⟩:=hg;obtain⟨its,rv,p,hz⟩:=I.list hq;obtain⟨u,hu,ru⟩:=rv.get hx;obtain⟨f0,f1,f2,f3,f4,f5⟩:=hf it (by simp)
  refine wpAny_pyNext_list_item st p.isList (x:=u) (by simpa using hu) fun h' st' sb =>?_
  have I1:Inv X jv σ H { s with heap:=h' }:=I.turned (t':=s.toks) (fun b o hb e=>(sb.2 b hb).trans e) f0 f1 f3 f4 f5
  obtain⟨o,e,c,d⟩:=id st';exact⟨u,rfl,awi (s:={ s with heap:=h' }) e c d (by decide) ⟨x,H,I1,ru,⟨rfl,fun ys hy=>by rw[I.list_inj hy hq];exact hx⟩,st',fun b hb=>(hf b hb).1⟩⟩
 done:=by
  intro X hP hw hK hc i jv s σ H E I hf st hg;subst hP hw hK;obtain⟨xs,hq,hx⟩:=hg;obtain⟨its,rv,p,hz⟩:=I.list hq;obtain⟨f0,f1,f2,f3,f4,f5⟩:=hf it (by simp)
  have hl:=rv.length;exact wpAny_pyNext_list_end (I.ok.hd hc) st p.isList (by simp;omega) fun h' eb=>⟨rfl,I.turned (t':=s.toks) (fun b o hb e=>eb b o hb e) f0 f1 f3 f4 f5⟩
 self:=fun _ _ _ _ _ st h=>wpAny_pyIter_listiter st h
theorem amk{P:Program}{w:World}{K:Fg9}{tg:Expr}(a it:Addr):Turn P w K tg (Itt K a) [it] it (fun i h=>h.IsTupleIter it a i) where
 mem:=by simp
 obj:=fun i h st b hb=>by
  have e:b=it:=by simpa using hb
  subst e;obtain⟨o,e,c,d⟩:=st;exact⟨o,e,fun v z=>by rw[d] at z;cases z⟩
 keep:=fun i h h' st k=>st.at fun o e=>k it (by simp) o e
 item:=by
  intro X hP hw hK hc i jv s σ H E I hf st hg;subst hP hw hK;obtain⟨xs,x,hq,hx⟩:=hg;obtain⟨its,rv,p,hz⟩:=I.tuple hq;obtain⟨u,hu,ru⟩:=rv.get hx;obtain⟨f0,f1,f2,f3,f4,f5⟩:=hf it (by simp)
  refine wpAny_pyNext_tuple_item st (show s.heap.IsTuple a its.toArray from p) (x:=u) (by simpa using hu) fun h' st' sb =>?_
  have I1:Inv X jv σ H { s with heap:=h' }:=I.turned (t':=s.toks) (fun b o hb e=>(sb.2 b hb).trans e) f0 f1 f3 f4 f5
  obtain⟨o,e,c,d⟩:=id st';exact⟨u,rfl,awi (s:={ s with heap:=h' }) e c d (by decide) ⟨x,H,I1,ru,⟨rfl,fun ys hy=>by rw[I.tuple_inj hy hq];exact hx⟩,st',fun b hb=>(hf b hb).1⟩⟩
 done:=by
  intro X hP hw hK hc i jv s σ H E I hf st hg;subst hP hw hK;obtain⟨xs,hq,hx⟩:=hg;obtain⟨its,rv,p,hz⟩:=I.tuple hq;obtain⟨f0,f1,f2,f3,f4,f5⟩:=hf it (by simp)
  have hl:=rv.length;exact wpAny_pyNext_tuple_end (I.ok.hd hc) st (show s.heap.IsTuple a its.toArray from p) (by simp;omega) fun h' eb=>⟨rfl,I.turned (t':=s.toks) (fun b o hb e=>eb b o hb e) f0 f1 f3 f4 f5⟩
 self:=fun _ _ _ _ _ st h=>wpAny_pyIter_tupleiter st h
theorem aml{P:Program}{w:World}{K:Fg9}{tg:Expr}(it:Addr)(lo:Int)(n:Nat):Turn P w K tg (Itr lo n) [it] it (fun i h=>IsRangeIter h it (lo+(i:Nat)*1) ((n:Int) - (i:Nat)) 1) where
 mem:=by simp
 obj:=fun i h st b hb=>by
  have e:b=it:=by simpa using hb
  subst e;exact⟨_,st,fun v z=>by
   have z':Data.fields _=Data.cell v:=z;cases z'⟩
 keep:=fun i h h' st k=>k it (by simp) _ st
 item:=by
  intro X hP hw hK hc i jv s σ H E I hf st hg;subst hP hw hK;obtain⟨f0,f1,f2,f3,f4,f5⟩:=hf it (by simp)
  have W:=Walks.range (prog:=X.prog) (w:=X.w) (I.ok.hd hc) it lo 1 n;refine W.item i s _ _ hg st fun v h' tk hv st' kk =>?_
  obtain⟨t,rfl⟩:=hv;have I1:Inv X jv σ H { s with heap:=h',toks:=tk }:=I.turned (fun b o hb e=>kk b o (by simpa using hb) e) f0 f1 f3 f4 f5
  refine⟨_,rfl,awi (s:={ s with heap:=h',toks:=tk }) (n := "range_iterator") st' rfl rfl (by decide) ⟨.int (lo+i),H,I1,⟨t,?_⟩,⟨rfl,rfl⟩,st',fun b hb=>(hf b hb).1⟩⟩
  rw[Int.mul_one]
 done:=by
  intro X hP hw hK hc i jv s σ H E I hf st hg;subst hP hw hK;obtain⟨f0,f1,f2,f3,f4,f5⟩:=hf it (by simp)
  exact wpAny_pyNext_range_end (I.ok.hd hc) st (by have:n<=i:=hg;omega) fun h' eb=>⟨rfl,I.turned (t':=s.toks) (fun b o hb e=>eb b o hb e) f0 f1 f3 f4 f5⟩
 self:=fun _ _ _ _ _ st h=>wpAny_pyIter_rangeiter st h
section
variable{X:Cx}{tg:Expr}
def a3q(K:Fg9)(tl:TE):TI:=fun σ H R=>tl σ H fun x H1=>∃a,x=.ref a/\(∃xs,SqL K H1 a xs)/\R (Itl K a) H1
def iTup(K:Fg9)(tl:TE):TI:=fun σ H R=>tl σ H fun x H1=>∃a,x=.ref a/\(∃xs,SqT K H1 a xs)/\R (Itt K a) H1
theorem aok{l:Expr}{tl:TE}(hl:PE X l tl):PI X tg l (a3q X.K tl):=by
 intro jv s σ H R I h;refine thn (hl jv s σ H _ I h) fun v s1 ⟨x,H1,I1,r1,q1⟩ =>?_
 obtain⟨a,e,⟨xs,hq⟩,q⟩:=q1;subst e;cases r1;obtain⟨its,rv,p,hz⟩:=I1.list hq;refine wpAny_pyIter_list p.isList ?_;refine⟨s1.heap.objs.size,[s1.heap.objs.size],_,_,H1,rfl,I1.kept (t':=s1.toks) fun b o e=>Heap.get?_push_of_some _ e,anw a _,⟨_,Heap.get?_push_size _ rfl,rfl,rfl⟩,fun b hb =>?_,q⟩
 have e:b=s1.heap.objs.size:=by simpa using hb
 subst e;exact I1.fpOk (Nat.le_refl _) (I1.hok.fresh (Nat.le_refl _))
theorem ayh{l:Expr}{tl:TE}(hl:PE X l tl):PI X tg l (iTup X.K tl):=by
 intro jv s σ H R I h;refine thn (hl jv s σ H _ I h) fun v s1 ⟨x,H1,I1,r1,q1⟩ =>?_
 obtain⟨a,e,⟨xs,hq⟩,q⟩:=q1;subst e;cases r1;obtain⟨its,rv,p,hz⟩:=I1.tuple hq;refine wpAny_pyIter_tuple (show s1.heap.IsTuple a its.toArray from p) ?_
 refine⟨s1.heap.objs.size,[s1.heap.objs.size],_,_,H1,rfl,I1.kept (t':=s1.toks) fun b o e=>Heap.get?_push_of_some _ e,amk a _,⟨_,Heap.get?_push_size _ rfl,rfl,rfl⟩,fun b hb =>?_,q⟩
 have e:b=s1.heap.objs.size:=by simpa using hb
 subst e;exact I1.fpOk (Nat.le_refl _) (I1.hok.fresh (Nat.le_refl _))
theorem ara{jv:List (Addr×Obj)}{σ:St}{H:Hp}{s:Shared}{R:It->Hp->Prop}{E:Value->Shared->Prop}{lo hi:Int}{t u v:Tok}{tk:Nat}(I:Inv X jv σ H s)(h1 : -(2 ^ 62)<=lo)(h2:lo < 2 ^ 62)(h3 : -(2 ^ 62)<=hi)(h4:hi < 2 ^ 62)
  (q:R (Itr lo (hi - lo).toNat) H):wpAny (model X.prog X.w) X.A (pyIter (.ref s.heap.objs.size)) (PIE X jv σ tg R) E { s with heap:=s.heap.push { cls:=.type "range", data:=.fields #[.int lo t,.int hi u,.int 1 v] },toks:=tk }:=by
 refine wpAny_pyIter_range (IsRange.new ..) (small_one h1 h2 h3 h4) ?_;have I1:Inv X jv σ H { s with heap:=s.heap.push { cls:=.type "range", data:=.fields #[.int lo t,.int hi u,.int 1 v] },toks:=tk }:=I.kept fun b o e=>Heap.get?_push_of_some _ e
 refine⟨(s.heap.push { cls:=.type "range", data:=.fields #[.int lo t,.int hi u,.int 1 v] }).objs.size,[(s.heap.push { cls:=.type "range", data:=.fields #[.int lo t,.int hi u,.int 1 v] }).objs.size],_,_,H,rfl,
  I1.kept (t':=tk) fun b o e=>Heap.get?_push_of_some _ e,aml _ lo (hi - lo).toNat,?_,fun b hb =>?_,q⟩
 ·have e1:lo+((0:Nat):Int)*1=lo:=by simp
  have e2:(((hi - lo).toNat:Nat):Int) - ((0:Nat):Int)=Builtin.Range.rangeSize lo hi 1:=by rw[rangeSize_one];split <;> omega
  show IsRangeIter _ _ (lo+((0:Nat):Int)*1) ((((hi - lo).toNat:Nat):Int) - ((0:Nat):Int)) 1;rw[e1,e2];exact Heap.get?_push_size _ rfl
 ·have e:b=(s.heap.push { cls:=.type "range", data:=.fields #[.int lo t,.int hi u,.int 1 v] }).objs.size:=by simpa using hb
  subst e;exact I1.fpOk (Nat.le_refl _) (I1.hok.fresh (Nat.le_refl _))
def a3p(ta:TA):TI:=fun σ H R=>ta σ H fun vs H1=>∃j:Int,vs=[.int j] /\ -(2 ^ 62)<=j/\j < 2 ^ 62/\R (Itr 0 j.toNat) H1
theorem aoj{a:Expr}{ta:TA}{p pos:Pos}(hg:Gl X "range")(hm:X.mg "range" = none)(ha:PA X [a] ta)(hs:starEach [a] X.env=[(false,eval a X.env)]:=by rfl):PI X tg (.Call (.Name "range" p) [a] [] pos) (a3p ta):=by
 intro jv s σ H R I h;refine Call_ (agb I hg hm boot_range (PyProof.Rows.callWith_type1 (thn (ha pos jv s σ H _ I h) fun us s1 ⟨vs,H1,I1,r1,q1⟩ =>?_) hs rfl))
 obtain⟨j,e,q1,q2,q⟩:=q1;subst e;cases r1 with
 | cons r rr =>
  cases rr;obtain⟨t,rfl⟩:=r;exact call_range_1 (ara I1 (by omega) (by omega) q1 q2 (by simpa using q))
def tFor(wi:TI)(g:TG)(tb:TS):TS:=fun D σ H=>wi σ H fun J H1=>∃W:Nat->Nat->St->Hp->Prop,(∃m,W 0 m σ H1)/\∀i m σ H,W i m σ H ->
 (J.stop i H/\D.nx σ H)∨(J.go i H/\∃N:St->Hp->Prop,(∀σ' H',N σ' H'->∃m',m' < m/\W (i+1) m' σ' H')/\∀x H',J.yld i H x H'->g x σ H' fun σ2 H2=>tb { D with nx:=N,ct:=N,bk:=D.nx } σ2 H2)
def ain(fp:List Addr)(h:Heap):List (Addr×Obj):=fp.filterMap fun b=>(h.get? b).map fun o=>(b,o)
theorem abg{fp:List Addr}{h:Heap}{b:Addr}{o:Obj}(hb:b∈fp)(e:h.get? b=some o):(b,o)∈ain fp h:=List.mem_filterMap.mpr ⟨b,hb,by rw[e];rfl⟩
theorem aos{fp:List Addr}{h:Heap}{p:Addr×Obj}(hp:p∈ain fp h):p.1∈fp/\h.get? p.1=some p.2:=by
 obtain⟨b,hb,e⟩:=List.mem_filterMap.mp hp;cases q:h.get? b with
 | none=>rw[q] at e;cases e
 | some o =>
  rw[q] at e;have e':(b,o)=p:=Option.some.inj e;subst e';exact⟨hb,q⟩
theorem Inv.pinned{jv:List (Addr×Obj)}{σ:St}{H:Hp}{s:Shared}{fp:List Addr}(I:Inv X jv σ H s)(hf:∀b∈fp,FpOk X jv H b)(ho:∀b∈fp,∃o,s.heap.get? b=some o/\∀v,o.data≠.cell v):Inv X (jv++ain fp s.heap) σ H s :=
 I.pins_of fun p hp=>(List.mem_append.mp hp).elim (fun z=>I.pin p (List.mem_append_right _ z)) fun z=>by
  obtain⟨hb,e⟩:=aos z;obtain⟨f0,f1,f2,_⟩:=hf p.1 hb;obtain⟨o,e',d⟩:=ho p.1 hb;rw[e] at e';cases e';exact⟨e,f0,f1,f2,d⟩
theorem Inv.unpinned{jv pl:List (Addr×Obj)}{σ:St}{H:Hp}{s:Shared}(I:Inv X (jv++pl) σ H s):Inv X jv σ H s:=I.pins_of fun p hp=>I.pin p (List.mem_append_right _ (List.mem_append_left _ hp))
theorem ayf{iter:Expr}{body:List Stmt}{wi:TI}{g:TG}{tb:TS}{pos:Pos}(hp:PassesOwn (model X.prog X.w) X.A X.env X.xe)(hc:X.calm=true)(hi:PI X tg iter wi)(hg:PG X tg g)(hb:PSs X body tb)
  (hs:∀x,foldedSetIterable iter X.env x=pure x:=by intro _;rfl):PS X (.For tg iter body [] pos) (tFor wi g tb):=by
 intro jv s σ H D I h;refine wpAny_For (thn (hi jv s σ H _ I h) fun v s1 h1=>thn h1 fun itv s2 h2 =>?_) hs
 obtain⟨it,fp,tn,J,H2,e,I2,T,st2,f2,W,⟨m0,w0⟩,turn⟩:=h2;subst e;have stat:∀{H':Hp},(∀b∈fp,H' b=none)->∀b∈fp,FpOk X jv H' b:=fun hn b hb=>⟨hn b hb,(f2 b hb).2⟩
 refine codeAny_forLoop_any (fun n s'=>∃i σ' H',Inv X jv σ' H' s'/\tn i s'.heap/\(∀b∈fp,H' b=none)/\W i n σ' H') ?_ m0 ⟨0,σ,H2,I2,st2,fun b hb=>(f2 b hb).1,w0⟩
 rintro n s3 ⟨i,σ3,H3,I3,st3,fr3,w3⟩
 rcases turn i n σ3 H3 w3 with⟨stop,qn⟩ | ⟨go,N,hN,step⟩
 ·refine wpAny_passesOwn hp (thn (T.done X rfl rfl rfl hc i jv s3 σ3 H3 X.xe I3 (stat fr3) st3 stop) fun r s4 ⟨hr,I4⟩ =>?_)
  subst hr;exact wpAny_execs_nil ⟨σ3,H3,I4,qn⟩
 ·refine wpAny_passesOwn hp (thn (T.item X rfl rfl rfl hc i jv s3 σ3 H3 X.xe I3 (stat fr3) st3 go) fun r s4 ⟨u,hr,h4⟩ =>?_)
  subst hr;refine wpAny_passesOwn hp (thn h4 fun _ s5 ⟨x,H5,I5,r5,y5,st5,fr5⟩ =>?_)
  have I5':=I5.pinned (stat fr5) (T.obj _ _ st5);refine wpAny_passesOwn hp (thn (hg _ s5 σ3 H5 x u _ I5' r5 (step x H5 y5)) fun _ s6 ⟨σ6,H6,I6,q6⟩ =>?_)
  refine wpAny_passesOwn hp (thn (hb _ s6 σ6 H6 _ I6 q6) fun f s7 q7 =>?_)
  have again:∀{σ7:St} {H7:Hp},Inv X (jv++ain fp s5.heap) σ7 H7 s7->N σ7 H7->∃m,m < n/\∃i σ' H',Inv X jv σ' H' s7/\tn i s7.heap/\(∀b∈fp,H' b=none)/\W i m σ' H':=fun{σ7 H7} I7 n7=>by
   obtain⟨m',hm,w7⟩:=hN σ7 H7 n7;refine⟨m',hm,i+1,σ7,H7,I7.unpinned,T.keep _ _ _ st5 fun b hb o e=>(I7.pin (b,o) (List.mem_append_right _ (List.mem_append_right _ (abg hb e)))).1,fun b hb =>?_,w7⟩
   obtain⟨o,e,d⟩:=T.obj _ _ st5 b hb;exact(I7.pin (b,o) (List.mem_append_right _ (List.mem_append_right _ (abg hb e)))).2.1
  cases f with
  | next=>obtain⟨σ7,H7,I7,n7⟩:=q7;exact again I7 n7
  | cont=>obtain⟨σ7,H7,I7,n7⟩:=q7;exact again I7 n7
  | brk=>obtain⟨σ7,H7,I7,q7⟩:=q7;exact⟨σ7,H7,I7.unpinned,q7⟩
  | ret v=>obtain⟨x7,σ7,H7,I7,r7,q7⟩:=q7;exact⟨x7,σ7,H7,I7.unpinned,r7,q7⟩
end
abbrev R2:=V->V->Hp->VK->Prop
def OpR(X:Cx)(f:Value->Value->Sem Value)(r:R2):Prop :=
 ∀(jv:List (Addr×Obj)) (s:Shared) (σ:St) (H:Hp) (x y:V) (v u:Value) (Q:VK),Inv X jv σ H s->RelV x v->RelV y u->r x y H Q ->
  wpAny (model X.prog X.w) X.A (f v u) (EP X jv σ Q) X.xe s
def UnR(X:Cx)(f:Value->Sem Value)(r:V->Hp->VK->Prop):Prop :=
 ∀(jv:List (Addr×Obj)) (s:Shared) (σ:St) (H:Hp) (x:V) (v:Value) (Q:VK),Inv X jv σ H s->RelV x v->r x H Q ->
  wpAny (model X.prog X.w) X.A (f v) (EP X jv σ Q) X.xe s
def acg(X:Cx)(f:Value)(r:List V->Hp->VK->Prop):Prop :=
 ∀(jv:List (Addr×Obj)) (s:Shared) (σ:St) (H:Hp) (xs:List V) (us:List Value) (Q:VK),Inv X jv σ H s->Vals xs us->r xs H Q ->
  wpAny (model X.prog X.w) X.A (call f us) (EP X jv σ Q) X.xe s
def tOp(r:R2)(ta tb:TE):TE:=fun σ H Q=>ta σ H fun x H1=>tb σ H1 fun y H2=>r x y H2 Q
def tUn(r:V->Hp->VK->Prop)(ta:TE):TE:=fun σ H Q=>ta σ H fun x H1=>r x H1 Q
def rI(C:Int->Int->Prop)(g:Int->Int->V):R2:=fun x y H Q=>∃i j,x=.int i/\y=.int j/\C i j/\Q (g i j) H
def rI0(g:Int->Int->V):R2:=fun x y H Q=>∃i j,x=.int i/\y=.int j/\Q (g i j) H
def rU(g:Int->V):V->Hp->VK->Prop:=fun x H Q=>∃i,x=.int i/\Q (g i) H
section
variable{X:Cx}{a b c:Expr}{ta tb tc:TE}{pos:Pos}
theorem binT(ha:PE X a ta)(hb:PE X b tb){jv:List (Addr×Obj)}{s:Shared}{σ:St}{H:Hp}{R:V->V->Hp->Prop}(I:Inv X jv σ H s)
  (h:ta σ H fun x H1=>tb σ H1 fun y H2=>R x y H2) {Q:Value->Shared->Prop} {f:Value->Value->Sem Value}
  (hf:∀v u s2 x y H2,Inv X jv σ H2 s2->RelV x v->RelV y u->R x y H2->wpAny (model X.prog X.w) X.A (f v u) Q X.xe s2) :
  wpAny (model X.prog X.w) X.A (eval a X.env) (fun v s₁=>wpAny (model X.prog X.w) X.A (eval b X.env) (fun u s₂=>wpAny (model X.prog X.w) X.A (f v u) Q X.xe s₂) X.xe s₁) X.xe s:=by
 refine thn (ha jv s σ H _ I h) fun v s1 ⟨x,H1,I1,r1,q1⟩ =>?_
 refine thn (hb jv s1 σ H1 _ I1 q1) fun u s2 ⟨y,H2,I2,r2,q2⟩ =>?_
 exact hf v u s2 x y H2 I2 r1 r2 q2
theorem a2q{op:Operator}{r:R2}(ho:OpR X (binaryOp op) r)(ha:PE X a ta)(hb:PE X b tb):PE X (.BinOp a op b pos) (tOp r ta tb):=by
 intro jv s σ H Q I h;exact wpAny_BinOp (binT ha hb I h fun v u s2 x y H2 I2 rx ry q=>ho jv s2 σ H2 x y v u Q I2 rx ry q)
theorem a2p{op:UnaryOp}{r:V->Hp->VK->Prop}(ho:UnR X (unaryOp op) r)(ha:PE X a ta):PE X (.UnaryOp op a pos) (tUn r ta):=by
 intro jv s σ H Q I h;exact UnaryOp_ (thn (ha jv s σ H _ I h) fun v s1 ⟨x,H1,I1,r1,q1⟩=>ho jv s1 σ H1 x v Q I1 r1 q1)
theorem opI{f:Value->Value->Sem Value}{C:Int->Int->Prop}{g:Int->Int->Int}
  (rule:∀(i j:Int) (t u:Tok) (s:Shared) (Q:Value->Shared->Prop) (E:Value->Shared->Prop),C i j->Q (.int (g i j) s.toks) { s with toks:=s.toks+1 }->wpAny (model X.prog X.w) X.A (f (.int i t) (.int j u)) Q E s) :
  OpR X f (rI C fun i j=>.int (g i j)):=by
 intro jv s σ H x y v u Q I rx ry h;obtain⟨i,j,rfl,rfl,hc,q⟩:=h;obtain⟨t,rfl⟩:=rx;obtain⟨t',rfl⟩:=ry;exact rule i j t t' s _ _ hc ⟨.int (g i j),H,I.tok _,⟨_,rfl⟩,q⟩
theorem opI0{f:Value->Value->Sem Value}{g:Int->Int->Int}
  (rule:∀(i j:Int) (t u:Tok) (s:Shared) (Q:Value->Shared->Prop) (E:Value->Shared->Prop),Q (.int (g i j) s.toks) { s with toks:=s.toks+1 }->wpAny (model X.prog X.w) X.A (f (.int i t) (.int j u)) Q E s) :
  OpR X f (rI0 fun i j=>.int (g i j)):=by
 intro jv s σ H x y v u Q I rx ry h;obtain⟨i,j,rfl,rfl,q⟩:=h;obtain⟨t,rfl⟩:=rx;obtain⟨t',rfl⟩:=ry;exact rule i j t t' s _ _ ⟨.int (g i j),H,I.tok _,⟨_,rfl⟩,q⟩
theorem opB0{f:Value->Value->Sem Value}{g:Int->Int->Bool}
  (rule:∀(i j:Int) (t u:Tok) (s:Shared) (Q:Value->Shared->Prop) (E:Value->Shared->Prop),Q (.bool (g i j)) s->wpAny (model X.prog X.w) X.A (f (.int i t) (.int j u)) Q E s) :
  OpR X f (rI0 fun i j=>.bl (g i j)):=by
 intro jv s σ H x y v u Q I rx ry h;obtain⟨i,j,rfl,rfl,q⟩:=h;obtain⟨t,rfl⟩:=rx;obtain⟨t',rfl⟩:=ry;exact rule i j t t' s _ _ ⟨.bl (g i j),H,I,rfl,q⟩
def CPow(i j:Int):Prop:=0<=j/\j<=1000000/\i.natAbs < 2 ^ 64
def CMul(i j:Int):Prop:=(-(2 ^ 64) < i/\i < 2 ^ 64)∨(-(2 ^ 64) < j/\j < 2 ^ 64)
theorem CMul.ok{i j:Int}(h:CMul i j):IntMulOk i j:=by
 rcases h with⟨h1,h2⟩ | ⟨h1,h2⟩
 ·exact .of_left (intBits_le_64 h1 h2)
 ·exact .of_right (intBits_le_64 h1 h2)
theorem ay1:OpR X (binaryOp .Add) (rI0 fun i j=>.int (i+j)):=opI0 fun _ _ _ _ _ _ _ q=>add_int q
theorem ayv:OpR X (binaryOp .Sub) (rI0 fun i j=>.int (i - j)):=opI0 fun _ _ _ _ _ _ _ q=>sub_int q
theorem ayy:OpR X (binaryOp .Mult) (rI CMul fun i j=>.int (i*j)):=opI fun _ _ _ _ _ _ _ hc q=>mul_int q hc.ok
theorem ayz:OpR X (binaryOp .Mod) (rI (fun _ j=>0 < j) fun i j=>.int (i % j)):=opI fun i j _ _ _ _ _ hc q=>by
 have h1:(0:Int) < j:=hc;exact mod_int' (by omega) (by rw[Int.fmod_eq_emod_of_nonneg i (by omega)];exact q)
theorem ayx:OpR X (binaryOp .Pow) (rI CPow fun i j=>.int (i ^ j.toNat)):=opI fun _ _ _ _ _ _ _ hc q=>pow_int_small hc.1 hc.2.1 hc.2.2 q
theorem unI{f:Value->Sem Value}{g:Int->Int}
  (rule:∀(i:Int) (t:Tok) (s:Shared) (Q:Value->Shared->Prop) (E:Value->Shared->Prop),Q (.int (g i) s.toks) { s with toks:=s.toks+1 }->wpAny (model X.prog X.w) X.A (f (.int i t)) Q E s) :
  UnR X f (rU fun i=>.int (g i)):=by
 intro jv s σ H x v Q I rx h;obtain⟨i,rfl,q⟩:=h;obtain⟨t,rfl⟩:=rx;exact rule i t s _ _ ⟨.int (g i),H,I.tok _,⟨_,rfl⟩,q⟩
theorem axn:UnR X (unaryOp .USub) (rU fun i=>.int (-i)):=unI fun _ _ _ _ _ q=>neg_int q
end
section
variable{X:Cx}{a b c:Expr}{ta tb tc:TE}{pos:Pos}
theorem a2u:OpR X (compareOp .Lt) (rI0 fun i j=>.bl (decide (i < j))):=opB0 fun _ _ _ _ _ _ _ q=>lt_int q
theorem art:OpR X (compareOp .LtE) (rI0 fun i j=>.bl (decide (i<=j))):=opB0 fun _ _ _ _ _ _ _ q=>le_int q
theorem a2v:OpR X (compareOp .GtE) (rI0 fun i j=>.bl (decide (j<=i))):=opB0 fun _ _ _ _ _ _ _ q=>ge_int q
theorem pq(b:Expr){op:CmpOp}(h:op≠.In:=by decide)(h2:op≠.NotIn:=by decide):behindInMarks op b=false:=by
 have e1:(op==CmpOp.In)=false:=by cases op <;> first | rfl | exact absurd rfl h
 have e2:(op==CmpOp.NotIn)=false:=by cases op <;> first | rfl | exact absurd rfl h2
 cases b <;> simp[behindInMarks,e1,e2]
theorem avt{op:CmpOp}{r:R2}(ho:OpR X (compareOp op) r)(ha:PE X a ta)(hb:PE X b tb)(hm:behindInMarks op b=false):PE X (.Compare a [op] [b] pos) (tOp r ta tb):=by
 intro jv s σ H Q I h;exact wpAny_Compare1 (binT ha hb I h fun v u s2 x y H2 I2 rx ry q=>ho jv s2 σ H2 x y v u Q I2 rx ry q) hm
def a1y(t:TE):TT:=fun σ H Q=>t σ H fun x H'=>∃k,x=.bl k/\Q k H'
theorem avc{op:CmpOp}{r:R2}(ho:OpR X (compareOp op) r)(ha:PE X a ta)(hb:PE X b tb)(hm:behindInMarks op b=false):PT X (.Compare a [op] [b] pos) (a1y (tOp r ta tb)):=by
 intro jv s σ H Q I h;refine wpAny_isTrue_Compare1 (thn (ha jv s σ H _ I h) fun v s1 ⟨x,H1,I1,r1,q1⟩=>thn (hb jv s1 σ H1 _ I1 q1) fun u s2 ⟨y,H2,I2,r2,q2⟩ =>
  thn (ho jv s2 σ H2 x y v u _ I2 r1 r2 q2) fun c s3 ⟨z,H3,I3,r3,k,e,q3⟩ =>?_) hm
 subst e;cases r3;exact wpAny_truthy_bool ⟨H3,I3,q3⟩
def atm(r r':R2)(ta tb tc:TE):TE:=fun σ H Q=>ta σ H fun x H1=>tb σ H1 fun y H2=>r x y H2 fun z H3=>∃k,z=.bl k /\
 (if k=true then tc σ H3 fun w' H4=>r' y w' H4 Q else Q (.bl false) H3)
theorem aro{op op':CmpOp}{r r':R2}(ho:OpR X (compareOp op) r)(ho':OpR X (compareOp op') r')(ha:PE X a ta)(hb:PE X b tb)(hc:PE X c tc)
  (hm:lastMarks [op,op'] [b,c]=false:=by with_unfolding_all rfl):PE X (.Compare a [op,op'] [b,c] pos) (atm r r' ta tb tc):=by
 intro jv s σ H Q I h;refine Compare_chain (thn (ha jv s σ H _ I h) fun v s1 ⟨x,H1,I1,r1,q1⟩=>chain_link (thn (hb jv s1 σ H1 _ I1 q1) fun u s2 ⟨y,H2,I2,r2,q2⟩ =>
  thn (ho jv s2 σ H2 x y v u _ I2 r1 r2 q2) fun d s3 ⟨z,H3,I3,r3,k,e,q3⟩ =>?_)) hm
 subst e;cases r3;refine wpAny_truthy_bool ?_;cases k with
 | false=>exact ite_ff ⟨.bl false,H3,I3,rfl,q3⟩
 | true=>exact ite_tt (chain_last (thn (hc jv s3 σ H3 _ I3 q3) fun w' s4 ⟨z',H4,I4,r4,q4⟩=>ho' jv s4 σ H4 y z' u w' Q I4 r2 r4 q4))
theorem alm:(sizeLine:Nat) < 2 ^ 63:=by rw[sizeLine_eq];decide
theorem amy:OpR X (binaryOp .Add) (fun x y H Q=>∃i j,x=.str i/\y=.str j/\i.length+j.length<=sizeLine/\Q (.str (i++j)) H):=by
 intro jv s σ H x y v u Q I rx ry h;obtain⟨i,j,rfl,rfl,hz,q⟩:=h;obtain⟨t,rfl⟩:=rx;obtain⟨t',rfl⟩:=ry;exact add_str (fun t' tk=>⟨.str (i++j),H,I.tok _,⟨_,rfl⟩,q⟩) hz
theorem vals1{x:V}{us:List Value}(r:Vals [x] us):∃u,us=[u]/\RelV x u:=by
 cases r with
 | cons r1 r2=>cases r2;exact⟨_,rfl,r1⟩
theorem vals2{x y:V}{us:List Value}(r:Vals [x,y] us):∃u w',us=[u,w']/\RelV x u/\RelV y w':=by
 cases r with
 | cons r1 r2 =>
  cases r2 with
  | cons r3 r4=>cases r4;exact⟨_,_,rfl,r1,r3⟩
theorem aqb(hc:X.calm=true):acg X (.builtin "max") (fun xs H Q=>∃i j,xs=[.int i,.int j]/\Q (.int (if j > i then j else i)) H):=by
 intro jv s σ H xs us Q I r h;obtain⟨i,j,rfl,q⟩:=h;obtain⟨u,w',rfl,⟨t,rfl⟩,⟨t',rfl⟩⟩:=vals2 r;refine max_two_ints (I.ok.hd hc) fun h' tk k=>⟨_,H,I.kept k,?_,q⟩
 by_cases hj:j > i
 ·rw[if_pos hj,if_pos hj];exact⟨_,rfl⟩
 ·rw[if_neg hj,if_neg hj];exact⟨_,rfl⟩
theorem ajn:acg X (.type "int") (fun xs H Q=>(∃i,xs=[.int i]/\Q (.int i) H)∨∃k,xs=[.bl k]/\Q (.int (if k then 1 else 0)) H):=by
 intro jv s σ H xs us Q I r h;rcases h with⟨i,rfl,q⟩ | ⟨k,rfl,q⟩
 ·obtain⟨u,rfl,t,rfl⟩:=vals1 r;exact call_int_int ⟨.int i,H,I,⟨_,rfl⟩,q⟩
 ·obtain⟨u,rfl,r1⟩:=vals1 r;cases r1;exact call_int_bool ⟨.int (if k then 1 else 0),H,I.tok _,⟨_,rfl⟩,q⟩
end
structure ObjM (h:Heap) (x dx C:Addr) (mA:Str->Option Value):Prop where
 obj:h.get? x=some (PySem.W.instObj C dx)
 ns:h.Ns1 dx mA
 ne:dx≠x
theorem aoz{h:Heap}{dx:Addr}{mA:Str->Option Value}(n:h.Ns1 dx mA):∃od,h.get? dx=some od/\∀name,PySem.W.lookIn name od=some (mA name):=by
 obtain⟨o,es,ep,ho,hd,hk,_,hm⟩:=n;refine⟨o,ho,fun name =>?_⟩
 have e:=hm name;unfold nsFind findBy at e;rw[<-Array.find?_toList] at e;unfold PySem.W.lookIn;rw[hd];dsimp only;split
 ·rename_i y q;rw[q] at e;exact congrArg some e
 ·rename_i q;rw[q] at e;have a:es.toList.any (·.refKey)=false:=by
   rw[List.any_eq_false];intro y hy;obtain⟨z,t,hkey⟩:=hk y (Array.mem_toList_iff.mp hy);simp[DictEntry.refKey,hkey]
  have a':¬es.toList.any (·.refKey)=true:=by rw[a];exact Bool.false_ne_true
  rw[if_neg a'];exact congrArg some e
theorem ObjM.look{h:Heap}{x dx C:Addr}{mA:Str->Option Value}(I:ObjM h x dx C mA):∃od,PySem.W.InstAt h x (PySem.W.instObj C dx) C (some od)/\∀name,PySem.W.lookIn name od=some (mA name) :=
 let ⟨od,ho,hl⟩:=aoz I.ns
 ⟨od,⟨I.obj,rfl,rfl,ho⟩,hl⟩
section
variable{prog:Program}{w:World}{A:Around}{E:Value->Shared->Prop}{s:Shared}{K:Fg9}{x dx C f:Addr}{mA:Str->Option Value}{name:Str}{v:Value}
end
section
variable{P:Program}{w:World}{H H':Hp}{h h':Heap}{a C dx:Addr}{fs fs':List (Str×V)}
theorem ins_get(hok:HOk P w H h)(e:H a=some (.ins C dx fs)):∃mA,ObjM h a dx C mA/\(∀f,RelO (fs.lookup f) (mA f))/\PySem.Within mA (fs.map (·.1))/\fs.length<=1000/\H dx=some (.own a):=by
 obtain⟨d,z,ne,ob,mA,n,r,q⟩:=(show ue P w H h a (.ins C dx fs) from hok a _ e)
 exact⟨mA,⟨ob,n,ne⟩,r,q,z,d⟩
end
structure Cls (K:Fg9) (C:Addr):Prop where
 pg:PySem.W.plainGet K C Str.empty=true
 hd:PySem.W.hasDictIn K C=true
 po:PySem.W.plainOver K C=true
 sa:findIn K (.ref C) "__setattr__" = some (some (.builtin "object.__setattr__"))
theorem Cls.get{K:Fg9}{C:Addr}(c:Cls K C)(f:Str):PySem.W.plainGet K C f=true:=c.pg
structure Con (K:Fg9) (C:Addr) (f:Str) (v:V) (u:Value):Prop where
 at_:findIn K (.ref C) f=some (some u)
 rel:RelV v u
 get:PySem.W.specialIn K u "__get__" = some none
 cp:PySem.W.copiedNames.contains f=false
structure Meth (K:Fg9) (C:Addr) (m:Str) (f:Addr):Prop where
 at_:findIn K (.ref C) m=some (some (.ref f))
 fn:PySem.W.isFn K (.ref f)=true
 kp:keepIn K (.ref f)=true
section
variable{X:Cx}{jv:List (Addr×Obj)}{σ:St}{H:Hp}{s:Shared}{a C dx:Addr}{fs:List (Str×V)}{f:Str}{v:V}{A:Around}{E:Value->Shared->Prop}
theorem Inv.made(I:Inv X jv σ H s):Inv X jv σ (upd (upd H s.heap.objs.size (.own (s.heap.objs.size+1))) (s.heap.objs.size+1) (.ins C s.heap.objs.size []))
  { s with heap:=(s.heap.push PySem.W.emptyDict).push (PySem.W.instObj C s.heap.objs.size) }:=by
 have e1:(s.heap.push PySem.W.emptyDict).get? s.heap.objs.size=some PySem.W.emptyDict:=Heap.get?_push_size s.heap rfl;have e2:((s.heap.push PySem.W.emptyDict).push (PySem.W.instObj C s.heap.objs.size)).get? (s.heap.objs.size+1)=some (PySem.W.instObj C s.heap.objs.size):=by
  have:=Heap.get?_push_size (s.heap.push PySem.W.emptyDict) (o:=PySem.W.instObj C s.heap.objs.size) rfl;rwa[Heap.size_push] at this
 have e3:(s.heap.push PySem.W.emptyDict).Ns s.heap.objs.size (fun _=>none):=⟨PySem.W.emptyDict,#[],_,e1,rfl,(fun e he=>absurd he (by simp)),fun _=>rfl⟩
 have I1:=I.laid (a:=s.heap.objs.size) (o:=.own (s.heap.objs.size+1)) (h':=s.heap.push PySem.W.emptyDict) (t':=s.toks) (fun b u q=>Heap.get?_push_of_some _ q) (Nat.le_refl _) ⟨_,e1⟩
 refine I1.laid (a:=s.heap.objs.size+1) (o:=.ins C s.heap.objs.size []) (t':=s.toks) (fun b u q=>Heap.get?_push_of_some _ q) (Nat.le_of_eq (Heap.size_push _ _)) ?_
 have ne:s.heap.objs.size≠s.heap.objs.size+1:=Nat.ne_of_lt (Nat.lt_succ_self _);refine⟨by rw[b8 ne,f9],Nat.zero_le _,ne,e2,fun _=>none,(Heap.Ns1.of_empty e3).at fun o q=>Heap.get?_push_of_some _ q,fun _=>True.intro,fun y hy=>absurd rfl hy⟩
end
section
variable{X:Cx}{o e value:Expr}{f:Str}{pos pos' tpos:Pos}{ta tv:TE}
end
section
variable{X:Cx}{jv:List (Addr×Obj)}{σ:St}{H:Hp}{s:Shared}{A:Around}{E:Value->Shared->Prop}{Q:Value->Shared->Prop}{c:Value}{b:Bool}
inductive TyOf (K:Fg9) (H:Hp):V->Value->Prop where
 | non:TyOf K H .non (.type "NoneType")
 | bl (x:Bool):TyOf K H (.bl x) (.type "bool")
 | int (i:Int):TyOf K H (.int i) (.type "int")
 | str (x:Str):TyOf K H (.str x) (.type "str")
 | flt (x:UInt64):TyOf K H (.flt x) (.type "float")
 | lst {a:Addr} {xs:List V} (e:H a=some (.lst xs)):TyOf K H (.ref a) (.type "list")
 | frz {a:Addr} {o:Obj} {xs:List V} (e:H a=some (.frz o (.lst xs))):TyOf K H (.ref a) (.type "list")
 | tup {a:Addr} {xs:List V} (e:H a=some (.tup xs)):TyOf K H (.ref a) (.type "tuple")
 | dK {a:Addr} {kvs:List (Key×V)} (e:H a=some (.dK kvs)):TyOf K H (.ref a) (.type "dict")
 | dT {a:Addr} {kvs:List (List Key×V)} (e:H a=some (.dT kvs)):TyOf K H (.ref a) (.type "dict")
 | ins {a C dx:Addr} {fs:List (Str×V)} (e:H a=some (.ins C dx fs)) (cl:Cls K C) (ha:findIn K (.ref C) "__class__" = some (some (.builtin "object.__class__")))
   (hn:PySem.W.specialIn K (.builtin "object.__class__") "__get__" = some (some (.builtin "getset_descriptor.__get__"))) (htk:PySem.W.takesIn K (.builtin "object.__class__")=some true)
   (hm:PySem.W.mroIn K C (.type "object")=some true):TyOf K H (.ref a) (.ref C)
theorem apc{x:V}{u t:Value}(I:Inv X jv σ H s)(rx:RelV x u)(ty:TyOf X.K H x t)(e:PySem.W.kitOne X.K t c=some b)(h:∀tk,Q (.bool b) { s with toks:=tk }) :
  wpAny (model X.prog X.w) A (call (.builtin "isinstance") [u,c]) Q E s:=by
 cases ty with
 | non=>cases(show u=Value.none from rx);exact PySem.W.kia_one PySem.W.kitx_none I.kIn True.intro e (fun z=>nomatch z) h
 | bl y=>cases(show u=Value.bool y from rx);exact PySem.W.kia_one PySem.W.kitx_bool I.kIn True.intro e (fun z=>nomatch z) h
 | int i=>obtain⟨t,q⟩:=(show ∃t,u=Value.int i t from rx);cases q;exact PySem.W.kia_one PySem.W.kitx_int I.kIn True.intro e (fun z=>nomatch z) h
 | str y=>obtain⟨t,q⟩:=(show ∃t,u=Value.str y t from rx);cases q;exact PySem.W.kia_one PySem.W.kitx_str I.kIn True.intro e (fun z=>nomatch z) h
 | flt y=>obtain⟨t,q⟩:=(show ∃t,u=Value.float y t from rx);cases q;exact PySem.W.kia_one PySem.W.kitx_float I.kIn True.intro e (fun z=>nomatch z) h
 | @lst a xs ea =>
  cases(show u=Value.ref a from rx)
  obtain⟨_,_,n,_,h1⟩:=(show ue X.prog X.w H s.heap a (.lst xs) from I.hok a _ ea)
  exact PySem.W.kia_one PySem.W.kitx_list I.kIn ⟨_,h1,rfl⟩ e (fun z=>nomatch z) h
 | @frz a ob xs ea =>
  cases(show u=Value.ref a from rx)
  obtain⟨_,_,_,n,_,h1⟩:=(show ue X.prog X.w H s.heap a (.frz ob (.lst xs)) from I.hok a _ ea)
  exact PySem.W.kia_one PySem.W.kitx_list I.kIn ⟨_,h1,rfl⟩ e (fun z=>nomatch z) h
 | @tup a xs ea =>
  cases(show u=Value.ref a from rx)
  obtain⟨_,_,_,p⟩:=(show ue X.prog X.w H s.heap a (.tup xs) from I.hok a _ ea)
  obtain⟨o,h1,h2,_⟩:=p;exact PySem.W.kia_one PySem.W.kitx_tuple I.kIn ⟨o,h1,h2⟩ e (fun z=>nomatch z) h
 | @dK a kvs ea =>
  cases(show u=Value.ref a from rx)
  obtain⟨_,_,vs,_,p⟩:=(show ue X.prog X.w H s.heap a (.dK kvs) from I.hok a _ ea)
  obtain⟨o,es,ep,h1,h2,_⟩:=p;exact PySem.W.kia_one PySem.W.kitx_dict I.kIn ⟨o,h1,h2.1⟩ e (fun z=>nomatch z) h
 | @dT a kvs ea =>
  cases(show u=Value.ref a from rx)
  obtain⟨_,_,xs,_,o,es,ep,h1,h2,_⟩:=(show ue X.prog X.w H s.heap a (.dT kvs) from I.hok a _ ea)
  exact PySem.W.kia_one PySem.W.kitx_dict I.kIn ⟨o,h1,h2.1⟩ e (fun z=>nomatch z) h
 | @ins a C dx fs ea cl ha hn htk hm =>
  cases(show u=Value.ref a from rx)
  obtain⟨mA,O,_⟩:=ins_get I.hok ea;obtain⟨od,J,_⟩:=O.look;exact PySem.W.kia_one (PySem.W.kitx_own (cl.get _) cl.hd ha hn htk hm) I.kIn J e (fun z=>nomatch z) h
end
structure Room (k:Nat) (A:Around):Prop where
 hd:A.handled=none
 dp:A.depth+3*k+5 < recursionLimit
 un:A.units+16*k+200 < cLine
 gd:A.guards=some []
theorem Room.mono{j k:Nat}{A:Around}(r:Room k A)(h:j<=k):Room j A:=⟨r.hd,by have:=r.dp;omega,by have:=r.un;omega,r.gd⟩
theorem Room.deeper{k:Nat}{A:Around}(r:Room (k+1) A)(env:Env):Room k (A.deeper env) :=
 ⟨r.hd,by have:=r.dp;show A.depth+1+3*k+5 < _;omega,by have:=r.un;show A.units+3+16*k+200 < _;omega,r.gd⟩
theorem Room.depth{k:Nat}{A:Around}(r:Room k A):A.depth < recursionLimit:=by have:=r.dp;omega
theorem Room.units{k:Nat}{A:Around}(r:Room k A):A.units+64 < cLine:=by have:=r.un;omega
def tNil:TA:=fun _ H Q=>Q [] H
def a2e(ta:TE)(tr:TA):TA:=fun σ H Q=>ta σ H fun x H1=>tr σ H1 fun xs H2=>Q (x::xs) H2
section
variable{X:Cx}{e:Expr}{es:List Expr}{te:TE}{t:TA}{pos:Pos}
theorem ad4:PA X [] tNil:=fun _ _ _ _ H Q I h=>Calls.spliced_nil ⟨[],H,I,.nil,h⟩
theorem qw(ha:PE X e te)(hr:PA X es t)(hs:starEach (e::es) X.env=(false,eval e X.env)::starEach es X.env:=by rfl):PA X (e::es) (a2e te t):=by
 intro pos jv s σ H Q I h;rw[hs];show wpAny _ _ (spliced ((false,eval e X.env)::backTo pos (starEach es X.env))) _ _ s;refine Calls.spliced_cons (thn (ha jv s σ H _ I h) fun u s1 ⟨x,H1,I1,r1,q1⟩ =>?_)
 exact thn (hr pos jv s1 σ H1 _ I1 q1) fun us s2 ⟨xs,H2,I2,r2,q2⟩=>⟨x::xs,H2,I2,.cons r1 r2,q2⟩
def tTup(t:TA):TE:=fun σ H Q=>t σ H fun xs H1=>xs.length<=sizeLine/\∀p,H1 p=none->Q (.ref p) (upd H1 p (.tup xs))
def tLst(t:TA):TE:=fun σ H Q=>t σ H fun xs H1=>xs.length<=sizeLine/\∀p,H1 p=none->Q (.ref p) (upd H1 p (.lst xs))
theorem ayk{x1}(h:PA X es t):PE X (.Tuple es x1 pos) (tTup t):=by
 intro jv s σ H Q I hq;refine wpAny_Tuple_spliced (thn (h pos jv s σ H _ I hq) fun us s1 ⟨xs,H1,I1,r,z,q⟩=>⟨by rw[<-r.length];exact z,?_⟩)
 have hf:H1 s1.heap.objs.size=none:=I1.hok.fresh (Nat.le_refl _);refine⟨.ref s1.heap.objs.size,upd H1 s1.heap.objs.size (.tup xs),I1.laid (t':=s1.toks) (fun b u e=>Heap.get?_push_of_some _ e) (Nat.le_refl _) ?_,rfl,q _ hf⟩
 exact⟨z,us,r,⟨_,Heap.get?_push_size _ rfl,rfl,rfl,_,rfl⟩⟩
theorem ayq(h:PA X es t):PE X (.List es pos) (tLst t):=by
 intro jv s σ H Q I hq;refine wpAny_List_spliced (thn (h pos jv s σ H _ I hq) fun us s1 ⟨xs,H1,I1,r,z,q⟩=>⟨by rw[<-r.length];exact z,?_⟩)
 have hf:H1 s1.heap.objs.size=none:=I1.hok.fresh (Nat.le_refl _);refine⟨.ref s1.heap.objs.size,upd H1 s1.heap.objs.size (.lst xs),I1.laid (t':=s1.toks) (fun b u e=>Heap.get?_push_of_some _ e) (Nat.le_refl _) ?_,rfl,q _ hf⟩
 exact⟨z,us,0,r,Heap.get?_push_size _ rfl⟩
end
abbrev Sp:=List V->Hp->VK->XK->Prop
abbrev CXT:=List Env->Hp->Shared->XK->Value->Shared->Prop
structure Env0 (P:Program) (w:World) (K:Fg9) (mg:Str->Option Value) (base:Heap) (A:Around) (outer:List Env) (s:Shared) (H:Hp):Prop where
 frames:A.frames=some outer
 mod:Mod K mg base
 bs:∀b o,base.get? b=some o->s.heap.get? b=some o/\H b=none
 bsz:base.objs.size<=s.heap.objs.size
 funs:s.heap.FunFrames base outer
 frf:∀b∈frs outer,H b=none
 hok:HOk P w H s.heap
 bare:AllBare s.gens
def CE(outer:List Env)(P:Program)(w:World)(H:Hp)(s:Shared)(Q:VK)(u:Value)(s':Shared):Prop :=
 ∃v H',s'.os=s.os/\AllBare s'.gens/\Un (frs outer) [] H H' s.heap s'.heap/\HOk P w H' s'.heap/\RelV v u/\Q v H'
def CR(CX:CXT)(outer:List Env)(P:Program)(w:World)(H:Hp)(s:Shared)(Q:VK)(E:XK)(r:Result)(s':Shared):Prop :=
 match r with
 | .ok (.ret u)=>CE outer P w H s Q u s'
 | .ok _=>False
 | .error e=>CX outer H s E e s'
structure FnOk (P:Program) (w:World) (K:Fg9) (mg:Str->Option Value) (base:Heap) (CX:CXT) (k:Nat) (f:Addr) (fd:FuncData) (ps:List Str) (sp:Sp):Prop where
 len:∀vs H Q E,sp vs H Q E->vs.length=ps.length
 run:∀(A:Around) (outer:List Env) (s:Shared) (H:Hp) (args:Args) (us:List Value) (vs:List V) (Q:VK) (E:XK),Room k A->Env0 P w K mg base A outer s H->BindsTo s fd args (ps.zip us)->Vals vs us->sp vs H Q E ->
  codeAny (model P w) A (.call (.ref f) args) (CR CX outer P w H s Q E) s
section
variable{X:Cx}{jv:List (Addr×Obj)}{σ:St}{H:Hp}{s s':Shared}
theorem Inv.env0(I:Inv X jv σ H s):Env0 X.prog X.w X.K X.mg X.base X.A X.stack s H :=
 ⟨I.ok.frames,I.ok.mod,I.bs,Nat.le_trans I.ok.bsz I.sz,I.stack,I.stkFree,I.hok,I.bare⟩
theorem Inv.after{Q:VK}{u:Value}(I:Inv X jv σ H s)(h:CE X.stack X.prog X.w H s Q u s'):EP X jv σ Q u s':=by
 obtain⟨v,H',os,bare,un,hok,r,q⟩:=h;obtain⟨hh,g,d,t,os'⟩:=s';obtain rfl:os'=s.os:=os;exact⟨v,H',I.call (h':=hh) (g':=g) (d':=d) (t':=t) (ch:=[]) un hok bare (fun b z=>absurd z (by simp)),r,q⟩
end
def auw(sp:Sp)(dvs:List V)(E:XK)(t:TA):TE:=fun σ H Q=>t σ H fun vs H1=>sp (vs++dvs) H1 Q E
def Binds(K:Fg9)(fd:FuncData)(ps:List Str)(ds:List Value):Prop :=
 ∀(s:Shared) (us:List Value),K.In s.heap->(us++ds).length=ps.length->BindsTo s fd ⟨us,[]⟩ (ps.zip (us++ds))
theorem Binds.all{K:Fg9}{fd:FuncData}{ps:List Str}(h:∀us:List Value,us.length=ps.length->bindArgs fd ⟨us,[]⟩=pure (ps.zip us)):Binds K fd ps []:=fun s us _ hl=>by
 rw[List.append_nil] at hl ⊢
 exact .of_eq (h us hl)
def aqs(CX:CXT)(X:Cx)(E:XK):Prop:=∀(jv:List (Addr×Obj)) (σ:St) (H:Hp) (s:Shared) (e:Value) (s':Shared),Inv X jv σ H s->CX X.stack H s E e s'->X.xe e s'
section
variable{X:Cx}{CX:CXT}{k:Nat}{f C:Addr}{fd:FuncData}{ps:List Str}{sp:Sp}{dvs:List V}{ds:List Value}{E:XK}{x m:Str}{p pos apos:Pos}{e o:Expr}{es:List Expr}{ta:TE}{t:TA}
theorem ax1{jv:List (Addr×Obj)}{σ:St}{H:Hp}{s:Shared}{Q:VK}{us:List Value}{vs:List V}(F:FnOk X.prog X.w X.K X.mg X.base CX k f fd ps sp)(hr:Room k X.A)(hb:Binds X.K fd ps ds)(hd:Vals dvs ds)(hx:aqs CX X E)
  (I:Inv X jv σ H s) (r:Vals vs us) (h:sp (vs++dvs) H Q E):wpAny (model X.prog X.w) X.A (call (.ref f) us) (EP X jv σ Q) X.xe s:=by
 have r2:Vals (vs++dvs) (us++ds):=r.append hd;have hl:(us++ds).length=ps.length:=by rw[<-r2.length];exact F.len _ _ _ _ h
 refine wpAny_call (codeAny_mono (F.run X.A X.stack s H ⟨us,[]⟩ (us++ds) (vs++dvs) Q E hr I.env0 (hb s us I.kIn hl) r2 h) fun r s' hq =>?_)
 cases r with
 | error e=>exact hx jv σ H s e s' I hq
 | ok fl =>
  cases fl with
  | ret u=>exact I.after hq
  | next=>exact False.elim hq
  | brk=>exact False.elim hq
  | cont=>exact False.elim hq
theorem avu(F:FnOk X.prog X.w X.K X.mg X.base CX k f fd ps sp)(hr:Room k X.A)(hg:Gl X x)(hm:X.mg x=some (.ref f))(hk:keepIn X.K (.ref f)=true)(hb:Binds X.K fd ps ds)(hd:Vals dvs ds)(hx:aqs CX X E)
  (ha:PA X (e::es) t) (hdb:(x==("__debug__" : Str))=false:=by decide) (he:starEach (e::es) X.env=(false,eval e X.env)::starEach es X.env:=by rfl) (hpl:(backTo pos (starEach es X.env)).any (·.1)=false:=by rfl) :
  PE X (.Call (.Name x p) (e::es) [] pos) (auw sp dvs E t):=by
 intro jv s σ H Q I h;refine wpAny_Call_Name_kw (adu I hg hm ?_ hdb);refine PySem.W.callWith_K (h₀:=X.base) I.ok.mod.kin hk (thn (ha pos jv s σ H _ I h) fun us s1 ⟨vs,H1,I1,r,q⟩=>⟨I1.kIn,?_⟩) he hpl
 exact ax1 F hr hb hd hx I1 r q
structure Mk (K:Fg9) (C f:Addr):Prop where
 makes:PySem.W.makesIn K C=true
 init:findIn K (.ref C) "__init__" = some (some (.ref f))
 fn:PySem.W.isFn K (.ref f)=true
 kp:keepIn K (.ref C)=true
end
section
variable{X:Cx}{CX:CXT}{k:Nat}{f C:Addr}{fd:FuncData}{ps ks:List Str}{sp:Sp}{E:XK}{x m:Str}{p pos apos kpos:Pos}{e o:Expr}{es:List Expr}{kws:List Keyword}{te ta:TE}{t tk:TA}{nm:Option Str}
structure KBinds (K:Fg9) (fd:FuncData) (ps ks:List Str) (g:List Value->List Value->List Value) (gV:List V->List V->List V):Prop where
 to:∀(s:Shared) (us ws:List Value),K.In s.heap->(g us ws).length=ps.length->BindsTo s fd ⟨us,ks.zip ws⟩ (ps.zip (g us ws))
 rel:∀{vs:List V} {us:List Value} {zs:List V} {ws:List Value},Vals vs us->Vals zs ws->Vals (gV vs zs) (g us ws)
variable{g:List Value->List Value->List Value}{gV:List V->List V->List V}
end
structure FnScope (N P:List Str) (sc:Scope):Prop where
 kind:sc.kind=.function
 co:sc.isCoroutine=false
 gen:sc.isGenerator=false
 nd:N.Nodup
 pre:N.take P.length=P
 par:∀x∈P,sc.names.lookup x=some .local∨sc.names.lookup x=some .cell
 nofree:∀y∈sc.names,y.2≠.free
theorem ajs{kindOf:Str->Option NameKind}{x:Str}:∀{binds:List (Str×Value)} {m:Str->Option Value},(∀v,(x,v)∉binds)->bindL kindOf binds m x=m x
 | [],_,_=>rfl
 | (n,v)::r,m,h=>by
  unfold bindL;rw[ajs fun w hw=>h w (List.mem_cons_of_mem _ hw)]
  split
  ·have:x≠n:=by rintro rfl;exact h v List.mem_cons_self
   simp[this]
  ·rfl
theorem aju{kindOf:Str->Option NameKind}{x:Str}:∀{binds:List (Str×Value)} {m:Str->Option Value},(∀v,(x,v)∉binds)->bindC kindOf binds m x=m x
 | [],_,_=>rfl
 | (n,v)::r,m,h=>by
  unfold bindC;rw[aju fun w hw=>h w (List.mem_cons_of_mem _ hw)]
  split
  ·rfl
  ·have:x≠n:=by rintro rfl;exact h v List.mem_cons_self
   simp[this]
theorem ajt{kindOf:Str->Option NameKind}{x:Str}{v:Value}:∀{P:List Str} {vs:List Value} {i:Nat} {m:Str->Option Value},P.Nodup->P[i]? = some x->vs[i]? = some v->kindOf x=some .local ->
  bindL kindOf (P.zip vs) m x=some v
 | [],_,_,_,_,h,_,_=>by simp at h
 | _::_,[],_,_,_,_,h,_=>by simp at h
 | p::P,w::vs,0,m,nd,h1,h2,hk=>by
  simp at h1 h2;subst h1;subst h2;show bindL kindOf ((p,w)::P.zip vs) m p=_;unfold bindL;rw[ajs fun v hv=>(List.nodup_cons.mp nd).1 (List.of_mem_zip hv).1,if_pos hk]
  simp
 | p::P,w::vs,i+1,m,nd,h1,h2,hk=>by
  show bindL kindOf ((p,w)::P.zip vs) m x=_;unfold bindL;exact ajt (i:=i) (List.nodup_cons.mp nd).2 (by simpa using h1) (by simpa using h2) hk
theorem ajv{kindOf:Str->Option NameKind}{x:Str}{v:Value}:∀{P:List Str} {vs:List Value} {i:Nat} {m:Str->Option Value},P.Nodup->P[i]? = some x->vs[i]? = some v->kindOf x≠some .local ->
  bindC kindOf (P.zip vs) m x=some v
 | [],_,_,_,_,h,_,_=>by simp at h
 | _::_,[],_,_,_,_,h,_=>by simp at h
 | p::P,w::vs,0,m,nd,h1,h2,hk=>by
  simp at h1 h2;subst h1;subst h2;show bindC kindOf ((p,w)::P.zip vs) m p=_;unfold bindC;rw[aju fun v hv=>(List.nodup_cons.mp nd).1 (List.of_mem_zip hv).1,if_neg hk]
  simp
 | p::P,w::vs,i+1,m,nd,h1,h2,hk=>by
  show bindC kindOf ((p,w)::P.zip vs) m x=_;unfold bindC;exact ajv (i:=i) (List.nodup_cons.mp nd).2 (by simpa using h1) (by simpa using h2) hk
def start(N:List Str)(vs:List V):St:=vs.map some++List.replicate (N.length - vs.length) none
def cxOf(CX:CXT)(P:Program)(w:World)(K:Fg9)(mg:Str->Option Value)(base:Heap)(N:List Str)(qual:Str)(scope:Scope)(f:Addr)(cd:Value)(A:Around)(outer:List Env)(s:Shared)(H:Hp)(E:XK):Cx where
 prog:=P
 w:=w
 K:=K
 mg:=mg
 base:=base
 A:=A.deeper (envOfC qual scope s.heap.objs.size f cd)
 N:=N
 s₀:=s
 H₀:=H
 env:=envOfC qual scope s.heap.objs.size f cd
 outer:=outer
 stack:=envOfC qual scope s.heap.objs.size f cd::outer
 ex:=[]
 calm:=true
 fn:=fun _=>true
 pn:=[]
 xe:=fun e s'=>wpAny (model P w) (A.deeper (envOfC qual scope s.heap.objs.size f cd)) (leaving (envOfC qual scope s.heap.objs.size f cd) e) (fun _ s''=>CX outer H s E e s'') (fun e' s''=>CX outer H s E e' s'') s'
theorem amg{sc:Scope}{n:Nat}{x:Str}(h:sc.names.lookup x=some .cell):∃c,(cellsFrom n sc.names []).lookup x=some c:=by
 have q:=PySem.W.cellsFrom_some sc.names n [] (.inl h);exact Option.isSome_iff_exists.mp q
theorem ai6{CX:CXT}{P:Program}{w:World}{K:Fg9}{mg:Str->Option Value}{base:Heap}{N ps:List Str}{qual:Str}{scope:Scope}{f:Addr}{cd:Value}{A:Around}{outer:List Env}{s s1:Shared}{H:Hp}{E:XK}{us:List Value}{vs:List V}
  (S:FnScope N ps scope) (hd:A.handled=none) (e0:Env0 P w K mg base A outer s H) (hl:vs.length=ps.length) (r:Vals vs us)
  (x:InCallC s s.heap.objs.size (bindL (envOfC qual scope s.heap.objs.size f cd).kindOf (ps.zip us) fun _=>none) (cellsFrom (s.heap.objs.size+1) scope.names []) (bindC (envOfC qual scope s.heap.objs.size f cd).kindOf (ps.zip us) fun _=>none) s1) :
  Inv (cxOf CX P w K mg base N qual scope f cd A outer s H E) [] (start N vs) H s1:=by
 have hpl:ps.length<=N.length:=by have:=congrArg List.length S.pre;rw[List.length_take] at this;omega
 obtain⟨h1,tk,rfl,hk⟩:=x.done;have noA:∀b:Addr,b∉(cxOf CX P w K mg base N qual scope f cd A outer s H E).ex:=fun b z=>absurd (show b∈([]:List Addr) from z) (by simp)
 refine⟨⟨e0.mod,S.kind,rfl,rfl,Nat.le_refl _,fun y z c h1 h2 =>?_,fun y hy =>?_,fun y c _ h =>?_,fun _=>hd,Around.frames_deeper e0.frames,.inr ⟨rfl,rfl⟩,fun b z=>absurd z (noA b),e0.bs,e0.bsz,fun b _ _=>noA b,fun b z=>absurd z (noA b),e0.funs,e0.frf⟩,
  rfl,e0.bare,Un.kept hk,⟨_,x.toInCall.ns,fun i y v h1 h2 h3 =>?_⟩,fun y c h=>⟨_,x.cell y c h⟩,e0.hok.fresh (Nat.le_refl _),fun y c h =>?_,fun p hp=>absurd (show p∈([]:List (Addr×Obj)) from hp) (by simp),e0.hok.kept hk,?_⟩
 ·exact name_of_addr x.apart (PySem.mem_of_lookup h1) (PySem.mem_of_lookup h2)
 ·have hy:scope.names.lookup y=some .cell∨scope.names.lookup y=some .free:=hy;rcases hy with hy | hy
  ·exact amg hy
  ·exact absurd rfl (S.nofree _ (PySem.mem_of_lookup hy))
 ·exact Nat.le_of_lt (x.above y c (PySem.mem_of_lookup h))
 ·have hi:i < vs.length:=by
   unfold start at h2
   by_cases hi:i < vs.length
   ·exact hi
   ·rw[List.getElem?_append_right (by simpa using hi)] at h2
    rw[List.getElem?_replicate] at h2;split at h2 <;> cases h2
  have ha:vs[i]? = some v:=by
   unfold start at h2;rw[List.getElem?_append_left (by simpa using hi),List.getElem?_map] at h2
   cases e:vs[i]? with
   | none=>rw[e] at h2;cases h2
   | some a=>rw[e] at h2;cases h2;rfl
  obtain⟨u,hu,rv⟩:=r.get ha;have hp:ps[i]? = some y:=by
   rw[<-S.pre,List.getElem?_take_of_lt (by omega)];exact h1
  have ndP:ps.Nodup:=by rw[<-S.pre];exact S.nd.sublist (List.take_sublist _ _)
  refine⟨u,rv,?_⟩;rcases S.par y (List.mem_of_getElem? hp) with k | k
  ·exact .inl ⟨k,ajt ndP hp hu k⟩
  ·obtain⟨c,e⟩:=amg (n:=s.heap.objs.size+1) k;refine .inr ⟨.inl k,c,e,?_⟩;have q:=x.cell y c e;rw[ajv ndP hp hu (by show scope.names.lookup y≠_;rw[k];decide)] at q
   exact q
 ·exact e0.hok.fresh (Nat.le_of_lt (x.above y c (PySem.mem_of_lookup h)))
 ·unfold start;show _=N.length;rw[List.length_append,List.length_map,List.length_replicate];omega
theorem a0c{CX:CXT}{P:Program}{w:World}{K:Fg9}{mg:Str->Option Value}{base:Heap}{k:Nat}{f:Addr}{name qual:Str}{params:Arguments}{body:List Stmt}{scope:Scope}{dV kV doc pm cdv ct oc:Value}{an od:Option Addr}
  {osl:Array (Option Value)} {N ps:List Str} {sp:Sp} (lk:K.lookup f=some ⟨oc,od,.func (fnOf name qual params body scope dV kV doc pm an cdv ct),osl⟩) (hcd:codeIn K cdv qual=true) (S:FnScope N ps scope)
  (len:∀vs H Q E,sp vs H Q E->vs.length=ps.length)
  (hbody:∀(A:Around) (outer:List Env) (s:Shared) (H:Hp) (vs:List V) (Q:VK) (E:XK),Room k (A.deeper (envOfC qual scope s.heap.objs.size f cdv))->sp vs H Q E ->
   ∃t,PSs (cxOf CX P w K mg base N qual scope f cdv A outer s H E) body t/\t { nx:=fun _ H'=>Q .non H',rt:=Q } (start N vs) H) :
  FnOk P w K mg base CX (k+1) f (fnOf name qual params body scope dV kV doc pm an cdv ct) ps sp:=by
 refine⟨len,fun A outer s H args us vs Q E hr e0 hb r hsp =>?_⟩
 have hl:=len _ _ _ _ hsp;have KX:K.In s.heap:=e0.mod.kin.keeps fun b o e=>(e0.bs b o e).1
 have lim:s.heap.NoLimit:=e0.mod.nolimit.keeps fun b o e=>(e0.bs b o e).1
 have hkind:∀y∈ps.zip us,scope.names.lookup y.1=some .local∨(scope.names.lookup y.1=some .cell/\((cellsFrom (s.heap.objs.size+1) scope.names []).lookup y.1).isSome=true):=fun⟨n,v⟩ hy=>by
  rcases S.par n (List.of_mem_zip hy).1 with q | q
  ·exact .inl q
  ·exact .inr ⟨q,PySem.W.cellsFrom_some _ _ _ (.inl q)⟩
 refine codeAny_call_function hr.depth (KX _ _ lk) rfl S.co S.gen rfl (PySem.W.codeRec_of KX hcd) (hb _ _ _ _ ?_);refine wpAny_newFunctionEnv_cells S.kind hkind fun env he s1 x =>?_
 subst he;refine⟨lim.keeps x.toInCall.keep,codeAny_func ?_⟩;obtain⟨t,ht,hq⟩:=hbody A outer s H vs Q E (hr.deeper _) hsp;have I:Inv (cxOf CX P w K mg base N qual scope f cdv A outer s H E) [] (start N vs) H s1:=ai6 S hr.hd e0 hl r x;refine wpAny_mono (ht [] s1 (start N vs) H _ I hq) (fun fl s' hs =>?_) fun e s' hs=>hs
 have fin:∀{σ':St} {H':Hp} {v:V} {u:Value},Inv (cxOf CX P w K mg base N qual scope f cdv A outer s H E) [] σ' H' s'->RelV v u->Q v H'->CE outer P w H s Q u s' :=
  fun{σ' H' v u} J rv q=>⟨v,H',J.os,J.bare,J.base,J.hok,rv,q⟩
 cases fl with
 | ret u =>
  obtain⟨v,σ',H',J,rv,q⟩:=hs;exact fin J rv q
 | next =>
  obtain⟨σ',H',J,q⟩:=hs;exact fin (v:=V.non) (u:=Value.none) J rfl q
 | brk =>
  obtain⟨_,_,_,q⟩:=hs;exact False.elim q
 | cont =>
  obtain⟨_,_,_,q⟩:=hs;exact False.elim q
section
variable{X:Cx}{x:Str}{p pos:Pos}{e:Expr}{es:List Expr}{t:TA}{id T:String}{r:List V->Hp->VK->Prop}
def tCB(r:List V->Hp->VK->Prop)(t:TA):TE:=fun σ H Q=>t σ H fun vs H1=>r vs H1 Q
theorem acq(hc:acg X (.builtin id) r)(hg:Gl X x)(hm:X.mg x=none)(hv:bootBuiltins x=some (.builtin id))(ha:PA X (e::es) t)(hn:x ≠ "__name__" := by decide)(hdb:(x==("__debug__" : Str))=false:=by decide)
  (he:starEach (e::es) X.env=(false,eval e X.env)::starEach es X.env:=by rfl) (hpl:(backTo pos (starEach es X.env)).any (·.1)=false:=by rfl):PE X (.Call (.Name x p) (e::es) [] pos) (tCB r t):=by
 intro jv s σ H Q I h;refine wpAny_Call_Name_kw (agb I hg hm hv ?_ hn hdb);exact PyProof.Rows.callWith_builtin1 (thn (ha pos jv s σ H _ I h) fun us s1 ⟨vs,H1,I1,r1,q1⟩=>hc jv s1 σ H1 vs us Q I1 r1 q1) he hpl
theorem aip(hc:acg X (.type T) r)(hg:Gl X x)(hm:X.mg x=none)(hv:bootBuiltins x=some (.type T))(ha:PA X (e::es) t)(hn:x ≠ "__name__" := by decide)(hdb:(x==("__debug__" : Str))=false:=by decide)
  (he:starEach (e::es) X.env=(false,eval e X.env)::starEach es X.env:=by rfl) (hpl:(backTo pos (starEach es X.env)).any (·.1)=false:=by rfl):PE X (.Call (.Name x p) (e::es) [] pos) (tCB r t):=by
 intro jv s σ H Q I h;refine wpAny_Call_Name_kw (agb I hg hm hv ?_ hn hdb);exact PyProof.Rows.callWith_type1 (thn (ha pos jv s σ H _ I h) fun us s1 ⟨vs,H1,I1,r1,q1⟩=>hc jv s1 σ H1 vs us Q I1 r1 q1) he hpl
end
end L2
namespace HT
open PySem PyProof.Rows
section
open PySem.SeqAt
open PySem.AutoSeq1 (wpAny_loadPart')
open PySem.MeetsSeq PySem.MeetsSeq2 PySem.MeetsSeq3
end
section
variable{prog:Program}{w:World}{A:Around}{E:Value->Shared->Prop}{s:Shared}
theorem aw6{t b:Addr}{vs ws:List Value}{Q:Value->Shared->Prop}(ht:IsTup s.heap t vs.toArray)(hb:IsTup s.heap b ws.toArray)(hv:vs≠[])
  (h1:ws=[]->Q (.ref t) s) (h2:ws≠[]->Q (.ref s.heap.objs.size) { s with heap:=s.heap.push { cls:=.type "tuple", data:=.seq (vs++ws).toArray } })
  (hsz:vs.length+ws.length<=sizeLine):wpAny (model prog w) A (binaryOp .Add (.ref t) (.ref b)) Q E s:=by
 obtain⟨⟨cls,dd,data,sl⟩,ho,hc,n,hd⟩:=id ht;obtain⟨⟨cls2,dd2,data2,sl2⟩,ho2,hc2,n2,hd2⟩:=id hb;simp only at hc hd hc2 hd2;subst hc hd hc2 hd2;have e:vs.toArray++ws.toArray=(vs++ws).toArray:=by simp
 by_cases hw:ws=[]
 ·exact concat_meets ⟨_,ho,rfl⟩ ⟨_,ho2,rfl⟩ noFill_tuple_add seq_tuple_add PySem.F.slot_tuple_add PySem.F.entry_tuple_add (PySem.F.args_tuple_add_2 _ _)
   (tuple_addW1 t b vs.toArray ws.toArray n n2 dd dd2 sl sl2 (by simpa using hv) (by simp[hw])) ⟨ho,ho2,h1 hw⟩
 ·refine concat_meets ⟨_,ho,rfl⟩ ⟨_,ho2,rfl⟩ noFill_tuple_add seq_tuple_add PySem.F.slot_tuple_add PySem.F.entry_tuple_add (PySem.F.args_tuple_add_2 _ _)
   (tuple_addW2 t b vs.toArray ws.toArray n n2 dd dd2 sl sl2 (by simpa using hv) (by simpa using hw) (by rw[List.size_toArray,List.size_toArray];exact hsz)) ⟨ho,ho2,?_⟩
  rw[e];exact h2 hw
def sIx(n d:Nat):Option Int->Nat
 | none=>d
 | some v=>if v < 0 then (v+(n:Int)).toNat else min v.toNat n
theorem ax0(n d:Nat)(hd:d<=n)(o:Option Int):sIx n d o<=n:=by
 cases o with
 | none=>exact hd
 | some v =>
  show(if v < 0 then (v+(n:Int)).toNat else min v.toNat n)<=n
  by_cases hv:v < 0
  ·rw[if_pos hv];omega
  ·rw[if_neg hv];exact Nat.min_le_right _ _
theorem ap2(v:Int)(n d:Nat):(if v < 0 then max (v+(n:Int)) 0 else min v (n:Int))=((sIx n d (some v):Nat):Int):=by
 show(if v < 0 then max (v+(n:Int)) 0 else min v (n:Int))=(((if v < 0 then (v+(n:Int)).toNat else min v.toNat n):Nat):Int)
 by_cases hv:v < 0
 ·simp only[if_pos hv];omega
 ·simp only[if_neg hv];omega
theorem ani(lo hi:Option Int)(n:Nat):Builtin.Slice.sliceAdjust lo hi 1 (n:Int)=(((sIx n 0 lo:Nat):Int),((sIx n n hi:Nat):Int)):=by
 have h1:¬((1:Int) < 0):=by omega
 unfold Builtin.Slice.sliceAdjust;simp only[h1,if_false];refine Prod.ext ?_ ?_
 ·cases lo with
  | none=>rfl
  | some v=>exact ap2 v n 0
 ·cases hi with
  | none=>rfl
  | some v=>exact ap2 v n n
theorem amw(i j:Nat):Builtin.Slice.slicePlaces (i:Int) (j:Int) 1=j - i:=by
 unfold Builtin.Slice.slicePlaces;have h1:(1:Int) > 0:=by omega
 simp only[h1,if_true,Int.ediv_one];split <;> omega
theorem af3{v:Value}{o:Option Int}{Q:Option Int->Shared->Prop}(p:IsPart v o)(h:Q o s):wpAny (model prog w) A (Builtin.Slice.slicePartIndex v) Q E s:=by
 cases p with
 | none=>exact slicePart_none h
 | int i t=>exact slicePart_int h
theorem aaa{sl:Addr}{vl vu:Value}{lo hi:Option Int}{n:Nat}{Q:Int×Int×Nat->Shared->Prop}(hs:s.heap.IsSliceOf sl vl vu .none)(pl:IsPart vl lo)(pu:IsPart vu hi)
  (h:Q (((sIx n 0 lo:Nat):Int),1,sIx n n hi - sIx n 0 lo) s):wpAny (model prog w) A (Builtin.Slice.sliceApplied (.ref sl) (pure (n:Int))) Q E s:=by
 obtain⟨os,hos,hcs,hds⟩:=id hs;unfold Builtin.Slice.sliceApplied Builtin.Slice.sliceFields;refine wpAny_bind (wpAny_bind (wpAny_field hos hds (x:=vl) rfl (wpAny_bind (wpAny_field hos hds (x:=vu) rfl (wpAny_bind (wpAny_field hos hds (x:=.none) rfl (wpAny_pure ?_)))))));refine wpAny_bind (slicePart_none ?_);show wpAny _ _ (if ((1:Int)==0)=true then _ else _) _ _ s
 rw[if_neg (by decide)]
 refine wpAny_bind (af3 pl (wpAny_bind (af3 pu (wpAny_bind (wpAny_pure ?_)))));show wpAny _ _ (match Builtin.Slice.sliceAdjust lo hi 1 (n:Int) with | (lo,hi)=>pure (lo,(1:Int),Builtin.Slice.slicePlaces lo hi 1)) _ _ s
 rw[ani lo hi n];show wpAny _ _ (pure (((sIx n 0 lo:Nat):Int),(1:Int),Builtin.Slice.slicePlaces ((sIx n 0 lo:Nat):Int) ((sIx n n hi:Nat):Int) 1)) _ _ s;rw[amw];exact wpAny_pure h
theorem ari(xs:Array Value)(i k:Nat):((List.range k).filterMap fun(m:Nat)=>xs[((i:Int)+(m:Int)*1).toNat]?).toArray=((xs.toList.drop i).take k).toArray:=by
 have e:(fun(m:Nat)=>xs[((i:Int)+(m:Int)*1).toNat]?)=fun m=>xs[i+m]? := by
  funext m
  have:((i:Int)+(m:Int)*1).toNat=i+m:=by omega
  rw[this]
 rw[e];have:=pick_run xs i k;rw[List.filterMap_map] at this;have e2:((fun x=>xs[x]?)∘fun x=>i+x)=fun m=>xs[i+m]? := rfl
 rw[e2] at this;rw[this]
theorem ady{t sl:Addr}{items:Array Value}{vl vu:Value}{lo hi:Option Int}{Q:Value->Shared->Prop}(ht:IsTup s.heap t items)(hs:s.heap.IsSliceOf sl vl vu .none)(pl:IsPart vl lo)(pu:IsPart vu hi)
  (hw:¬(sIx items.size 0 lo=0/\sIx items.size items.size hi=items.size))
  (h:Q (.ref s.heap.objs.size) { s with heap:=s.heap.push { cls:=.type "tuple", data:=.seq ((items.toList.drop (sIx items.size 0 lo)).take (sIx items.size items.size hi - sIx items.size 0 lo)).toArray } })
  (hsz:items.size<=sizeLine):wpAny (model prog w) A (getItem (.ref t) (.ref sl)) Q E s:=by
 have htake:sizeOk (.seq ((items.toList.drop (sIx items.size 0 lo)).take (sIx items.size items.size hi - sIx items.size 0 lo)).toArray):=by
  show((items.toList.drop (sIx items.size 0 lo)).take (sIx items.size items.size hi - sIx items.size 0 lo)).toArray.size<=sizeLine;rw[List.size_toArray,List.length_take,List.length_drop,Array.length_toList];omega
 have hj:sIx items.size items.size hi<=items.size:=ax0 _ _ (Nat.le_refl _) hi;obtain⟨os,hos,hcs,hds⟩:=id hs;have hTs:s.TypeIs (.ref sl) "slice" := ⟨os,hos,hcs⟩;unfold getItem
 try with_reducible refine wpAny_holding ?_
 first | refine wpAny_bind (wpAny_pure ?_) | skip
 refine wpAny_bind (wpAny_sequenceKey ht.typeIs (by decide) ?_)
 refine wpAny_bind (wpAny_callSpecial?_slot (name:=Str.ofString "__getitem__") ht.typeIs PyProof.Rows.slot_tuple_getitem
  (wpAny_call_entry PyProof.Rows.slot_tuple_getitem ht.typeIs entry_tuple_getitem ?_ (args_tuple_getitem _ _)))
 show wpAny _ _ (Builtin.Tuple.tupleItemsOf (.ref t) >>= _) _ _ s;refine wpAny_bind (tupleItemsOf_ ht ?_);refine wpAny_bind (wpAny_typeOf hTs ?_);rw[if_pos (by decide)]
 refine wpAny_bind (aaa hs pl pu ?_);have hno:¬((((sIx items.size 0 lo:Nat):Int)==0&&(1:Int)==1&&(sIx items.size items.size hi - sIx items.size 0 lo)==items.size)=true):=by
  intro q;rw[Bool.and_eq_true,Bool.and_eq_true] at q;have q1:((sIx items.size 0 lo:Nat):Int)=0:=eq_of_beq q.1.1;have q2:sIx items.size items.size hi - sIx items.size 0 lo=items.size:=eq_of_beq q.2;exact hw ⟨by omega,by omega⟩
 show wpAny _ _ (if (((sIx items.size 0 lo:Nat):Int)==0&&(1:Int)==1&&(sIx items.size items.size hi - sIx items.size 0 lo)==items.size)=true then _ else _) _ _ s
 rw[if_neg hno,ari]
 first
  | exact wpAny_bind (m:=Builtin.Tuple.tupleExact _) (wpAny_newObj_type (wpAny_pure ⟨_,rfl,wpAny_pure h⟩) htake)
  | exact wpAny_bind (m:=Builtin.Tuple.tupleExact _) (wpAny_newObj_type (wpAny_bind (wpAny_pure (wpAny_pure ⟨_,rfl,wpAny_pure h⟩))) htake)
  | exact wpAny_bind (wpAny_bind (m:=Builtin.Tuple.tupleExact _) (wpAny_newObj_type (wpAny_pure (wpAny_pure ⟨_,rfl,wpAny_pure h⟩)) htake))
  | exact wpAny_bind (wpAny_bind (m:=Builtin.Tuple.tupleExact _) (wpAny_newObj_type (wpAny_pure ⟨_,rfl,wpAny_pure h⟩) htake))
end
end HT
namespace L2
abbrev TO:=St->Hp->(Option Int->Hp->Prop)->Prop
def PO(X:Cx)(e:Option Expr)(t:TO):Prop :=
 ∀(jv:List (Addr×Obj)) (s:Shared) (σ:St) (H:Hp) (Q:Option Int->Hp->Prop),Inv X jv σ H s->t σ H Q ->
  wpAny (model X.prog X.w) X.A (evalPart e X.env) (fun u s'=>∃o H',Inv X jv σ H' s'/\IsPart u o/\Q o H') X.xe s
def auv:TO:=fun _ H Q=>Q none H
def a2a(t:TE):TO:=fun σ H Q=>t σ H fun x H1=>∃i,x=.int i/\Q (some i) H1
theorem intsAre_of{ns:List Int}:∀{us:List Value},Vals (ns.map V.int) us->IntsAre us ns:=by
 induction ns with
 | nil=>intro us r;rw[List.map_nil] at r;cases r;exact .nil
 | cons n ns ih =>
  intro us r;rw[List.map_cons] at r;cases r with
  | cons r1 r2 =>
   obtain⟨t,e⟩:=r1;subst e;exact .cons n t (ih r2)
section
variable{X:Cx}{e:Expr}{te:TE}{lo hi:Option Expr}{tl th:TO}{pos p2:Pos}
theorem avk:PO X none auv:=by
 intro jv s σ H Q I h;rw[evalPart_none];exact wpAny_pure ⟨none,H,I,.none,h⟩
theorem avj(h:PE X e te):PO X (some e) (a2a te):=by
 intro jv s σ H Q I hw;rw[evalPart_some];refine thn (h jv s σ H _ I hw) fun u s1 ⟨x,H1,I1,r1,q1⟩ =>?_
 obtain⟨i,rfl,q⟩:=q1;obtain⟨t,rfl⟩:=r1;exact⟨some i,H1,I1,.int i t,q⟩
def SlR(X:Cx)(r:V->Option Int->Option Int->Hp->VK->Prop):Prop :=
 ∀(jv:List (Addr×Obj)) (s:Shared) (σ:St) (H:Hp) (x:V) (v vl vu:Value) (lo hi:Option Int) (sl:Addr) (Q:VK),Inv X jv σ H s->RelV x v->s.heap.IsSliceOf sl vl vu .none->IsPart vl lo->IsPart vu hi->r x lo hi H Q ->
  ∃T id,typeLookup (.type T) "__getitem__" = pure (some (.builtin id))/\s.TypeIs v T/\wpAny (model X.prog X.w) X.A (getItem v (.ref sl)) (EP X jv σ Q) X.xe s
def tSl(r:V->Option Int->Option Int->Hp->VK->Prop)(te:TE)(tl th:TO):TE:=fun σ H Q=>te σ H fun x H1=>tl σ H1 fun l H2=>th σ H2 fun u H3=>r x l u H3 Q
theorem arl{r:V->Option Int->Option Int->Hp->VK->Prop}(hr:SlR X r)(he:PE X e te)(hl:PO X lo tl)(hu:PO X hi th):PE X (.Subscript e (.Slice lo hi none p2) pos) (tSl r te tl th):=by
 intro jv s σ H Q I h;refine Subscript_ (thn (he jv s σ H _ I h) fun v s1 ⟨x,H1,I1,r1,q1⟩ =>?_)
 refine wpAny_Slice (thn (hl jv s1 σ H1 _ I1 q1) fun vl s2 ⟨l,H2,I2,pl,q2⟩=>thn (hu jv s2 σ H2 _ I2 q2) fun vu s3 ⟨u,H3,I3,pu,q3⟩ =>?_)
 rw[evalPart_none];refine wpAny_pure ?_;have I4:Inv X jv σ H3 { s3 with heap:=s3.heap.push { cls:=.type "slice", data:=.fields #[vl,vu,.none] } }:=I3.kept (t':=s3.toks) fun b ob q=>Heap.get?_push_of_some _ q
 obtain⟨T,id,hT,ht,hg⟩:=hr jv { s3 with heap:=s3.heap.push { cls:=.type "slice", data:=.fields #[vl,vu,.none] } } σ H3 x v vl vu l u s3.heap.objs.size Q I4 r1 (Heap.IsSliceOf.new ..) pl pu q3
 show wpAny (model X.prog X.w) X.A (subscriptTail e (.Slice lo hi none p2) v (.ref s3.heap.objs.size)) (EP X jv σ Q) X.xe { s3 with heap:=s3.heap.push { cls:=.type "slice", data:=.fields #[vl,vu,.none] } }
 exact tail_any (ops:=[.ref s3.heap.objs.size,v]) ht hT hg (by with_unfolding_all rfl)
def cutV(xs:List V)(lo hi:Option Int):List V:=(xs.drop (HT.sIx xs.length 0 lo)).take (HT.sIx xs.length xs.length hi - HT.sIx xs.length 0 lo)
theorem afm(xs:List V)(lo hi:Option Int):(cutV xs lo hi).length<=xs.length:=by
 unfold cutV;rw[List.length_take,List.length_drop];omega
def rSlT(K:Fg9):V->Option Int->Option Int->Hp->VK->Prop:=fun x lo hi H Q=>∃a xs,x=.ref a/\SqT K H a xs /\
 ¬(HT.sIx xs.length 0 lo=0/\HT.sIx xs.length xs.length hi=xs.length)/\∀p,H p=none->Q (.ref p) (upd H p (.tup (cutV xs lo hi)))
theorem axy:SlR X (rSlT X.K):=by
 intro jv s σ H x v vl vu lo hi sl Q I rx hs pl pu h;obtain⟨a,xs,rfl,hx,hw,q⟩:=h;cases rx;obtain⟨its,r,ht,hz⟩:=I.tuple hx;have hlen:its.toArray.size=xs.length:=by rw[List.size_toArray];exact r.length.symm
 refine⟨"tuple", _,PyProof.Rows.slot_tuple_getitem.lookup,ht.typeIs,?_⟩;refine HT.ady ht hs pl pu (by rw[hlen];exact hw) ?_ (by rw[hlen];exact hz)
 rw[hlen];refine⟨.ref s.heap.objs.size,_,I.laid (t':=s.toks) (o:=.tup (cutV xs lo hi)) (fun b ob q=>Heap.get?_push_of_some _ q) (Nat.le_refl _) ?_,rfl,q _ (I.hok.fresh (Nat.le_refl _))⟩
 exact⟨Nat.le_trans (afm xs lo hi) hz,_,(r.drop (HT.sIx xs.length 0 lo)).take (HT.sIx xs.length xs.length hi - HT.sIx xs.length 0 lo),IsTp.new _ _⟩
def a2i(K:Fg9):R2:=fun x y H Q=>∃a b xs ys,x=.ref a/\y=.ref b/\SqT K H a xs/\SqT K H b ys/\xs≠[]/\xs.length+ys.length<=sizeLine /\
 (ys=[]->Q (.ref a) H)/\(ys≠[]->∀p,H p=none->Q (.ref p) (upd H p (.tup (xs++ys))))
theorem Vals.nil_iff{xs:List V}{us:List Value}(r:Vals xs us):us=[]↔xs=[]:=by
 cases r with
 | nil=>simp
 | cons _ _=>simp
theorem avz:OpR X (binaryOp .Add) (a2i X.K):=by
 intro jv s σ H x y v u Q I rx ry h;obtain⟨a,b,xs,ys,rfl,rfl,ha,hb,hx,hz,q1,q2⟩:=h;cases rx;cases ry;obtain⟨its,r1,p1,_⟩:=I.tuple ha;obtain⟨its2,r2,p2,_⟩:=I.tuple hb;refine HT.aw6 p1 p2 (fun z=>hx (r1.nil_iff.mp z)) (fun z=>⟨.ref a,H,I,rfl,q1 (r2.nil_iff.mp z)⟩) (fun z =>?_) (by rw[<-r1.length,<-r2.length];exact hz)
 refine⟨.ref s.heap.objs.size,_,I.laid (t':=s.toks) (o:=.tup (xs++ys)) (fun b ob q=>Heap.get?_push_of_some _ q) (Nat.le_refl _) ?_,rfl,q2 (fun w=>z (r2.nil_iff.mpr w)) _ (I.hok.fresh (Nat.le_refl _))⟩
 exact⟨by rw[List.length_append];exact hz,_,r1.append r2,IsTp.new _ _⟩
end
def ixN(n:Nat)(i:Int):Option Nat:=if 0<=i then (if i < n then some i.toNat else none) else if -(n:Int)<=i then some (i+n).toNat else none
def atI{α:Type}(xs:List α)(i:Int):Option α:=(ixN xs.length i).bind fun j=>xs[j]?
theorem apb{n:Nat}{i:Int}{j:Nat}(h:ixN n i=some j):seqIndex? i n=some j/\j < n /\ -(n:Int)<=i/\i < n:=by
 unfold ixN at h
 by_cases h0:0<=i
 ·rw[if_pos h0] at h
  by_cases h1:i < n
  ·rw[if_pos h1] at h;have e:i.toNat=j:=Option.some.inj h;exact⟨by rw[seqIndex_of h0 h1,e],by omega,by omega,h1⟩
  ·rw[if_neg h1] at h;cases h
 ·rw[if_neg h0] at h
  by_cases h1 : -(n:Int)<=i
  ·rw[if_pos h1] at h;have e:(i+n).toNat=j:=Option.some.inj h;exact⟨by rw[seqIndex_neg (by omega) h1,e],by omega,h1,by omega⟩
  ·rw[if_neg h1] at h;cases h
theorem aqn{α:Type}{xs:List α}{i:Int}{v:α}(h:atI xs i=some v):∃j,seqIndex? i xs.length=some j/\xs[j]? = some v/\j < xs.length /\ -(xs.length:Int)<=i/\i < xs.length:=by
 unfold atI at h;cases e:ixN xs.length i with
 | none=>rw[e] at h;cases h
 | some j =>
  rw[e] at h;obtain⟨h1,h2,h3,h4⟩:=apb e;exact⟨j,h1,h,h2,h3,h4⟩
theorem aft{α:Type}{xs:List α}{j:Nat}{v:α}(h:xs[j]? = some v):atI xs (j:Int)=some v:=by
 have hj:j < xs.length:=(List.getElem?_eq_some_iff.mp h).1;have e:ixN xs.length (j:Int)=some j:=by
  unfold ixN;rw[if_pos (by omega),if_pos (by omega)];simp
 unfold atI;rw[e];exact h
def ak1(b:Expr):Prop:=∀o i,subscripted b false o i=operate [o,i] (getItem o i)
def IxR(X:Cx)(r:R2):Prop :=
 ∀(value slice:Expr) (jv:List (Addr×Obj)) (s:Shared) (σ:St) (H:Hp) (x y:V) (v u:Value) (Q:VK),Inv X jv σ H s->RelV x v->RelV y u->r x y H Q ->
  subscripted slice false v u=operate [v,u] (getItem v u)->wpAny (model X.prog X.w) X.A (subscriptTail value slice v u) (EP X jv σ Q) X.xe s
def MtR(X:Cx)(id:String)(r:V->List V->Hp->VK->Prop):Prop :=
 ∀(jv:List (Addr×Obj)) (s:Shared) (σ:St) (H:Hp) (x:V) (xs:List V) (v:Value) (us:List Value) (Q:VK),Inv X jv σ H s->RelV x v->Vals xs us->r x xs H Q ->
  wpAny (model X.prog X.w) X.A (call (.builtin id) (v::us)) (EP X jv σ Q) X.xe s
section
variable{X:Cx}{a b:Expr}{ta tb:TE}{pos:Pos}
theorem ayr{r:R2}(hr:IxR X r)(ha:PE X a ta)(hb:PE X b tb)(hs:ak1 b):PE X (.Subscript a b pos) (tOp r ta tb):=by
 intro jv s σ H Q I h;exact Subscript_ (binT ha hb I h fun v u s2 x y H2 I2 rx ry q=>hr a b jv s2 σ H2 x y v u Q I2 rx ry q (hs _ _))
def rIxL(K:Fg9):R2:=fun x y H Q=>∃p xs i v,x=.ref p/\y=.int i/\SqL K H p xs/\atI xs i=some v/\Q v H
def rIxT(K:Fg9):R2:=fun x y H Q=>∃p xs i v,x=.ref p/\y=.int i/\SqT K H p xs/\atI xs i=some v/\Q v H
theorem apa:IxR X (rIxL X.K):=by
 intro value slice jv s σ H x y v u Q I rx ry h hs;obtain⟨p,xs,i,z,rfl,rfl,hq,he,q⟩:=h;cases rx;obtain⟨t,rfl⟩:=ry;obtain⟨its,r,pl,hz⟩:=I.list hq;obtain⟨j,h1,h2,h3,h4,h5⟩:=aqn he;obtain⟨w,ew,rw'⟩:=r.get h2;have hl:=r.length;have hn:=alm;have fin:EP X jv σ Q w s:=⟨z,H,I,rw',q⟩
 by_cases h0:0<=i
 ·have hj:i.toNat=j:=by
   rw[seqIndex_of h0 h5] at h1;exact Option.some.inj h1
  exact item_listR pl.isList h0 (by omega) (by rw[hj];simpa using ew) fin hs
 ·have hj:(i+(its.toArray.size:Int)).toNat=j:=by
   rw[seqIndex_neg (by omega) h4] at h1
   rw[List.size_toArray,<-hl];exact Option.some.inj h1
  exact subscriptTail_builtinR (x:=w) pl.isList.typeIs slot_list_getitem.lookup
   (wpAny_getItem_list_neg (Q:=fun r s'=>r=w/\EP X jv σ Q r s') pl.isList (by omega) (by rw[List.size_toArray] <;> omega) (by omega) (by rw[hj];simpa using ew) ⟨rfl,fin⟩) hs
theorem azx:IxR X (rIxT X.K):=by
 intro value slice jv s σ H x y v u Q I rx ry h hs;obtain⟨p,xs,i,z,rfl,rfl,hq,he,q⟩:=h;cases rx;obtain⟨t,rfl⟩:=ry;obtain⟨its,r,pl,hz⟩:=I.tuple hq;obtain⟨j,h1,h2,h3,h4,h5⟩:=aqn he;obtain⟨w,ew,rw'⟩:=r.get h2;have hl:=r.length;have hn:=alm;have fin:EP X jv σ Q w s:=⟨z,H,I,rw',q⟩;exact subscriptTail_builtinR (x:=w) pl.typeIs slot_tuple_getitem.lookup
  (getItem_tuple (j:=j) (Q:=fun r s'=>r=w/\EP X jv σ Q r s') pl (by omega) (by omega) (by rw[List.size_toArray,<-hl];exact h1) (by simpa using ew) ⟨rfl,fin⟩) hs
theorem am3(its:List Value)(n j:Nat)(u:Value):Obj.mapSeq (·.setIfInBounds j u) { cls:=.type "list", data:=.seq its.toArray n }={ cls:=.type "list", data:=.seq (its.set j u).toArray n }:=by
 simp[Obj.mapSeq]
theorem Inv.lst{jv:List (Addr×Obj)}{σ:St}{H:Hp}{s:Shared}{p:Addr}{xs:List V}(I:Inv X jv σ H s)(h:H p=some (.lst xs)) :
  ∃(its:List Value) (n:Nat),Vals xs its/\s.heap.get? p=some { cls:=.type "list", data:=.seq its.toArray n }/\xs.length<=sizeLine:=by
 obtain⟨z,its,n,r,e⟩:=I.hok p _ h;exact⟨its,n,r,e,z⟩
theorem Inv.lstUpd{jv:List (Addr×Obj)}{σ:St}{H:Hp}{s:Shared}{p:Addr}{xs ys:List V}{its its':List Value}{n n':Nat}{f:Obj->Obj}(I:Inv X jv σ H s)(h:H p=some (.lst xs))
  (ho:s.heap.get? p=some { cls:=.type "list", data:=.seq its.toArray n }) (hf:f { cls:=.type "list", data:=.seq its.toArray n }={ cls:=.type "list", data:=.seq its'.toArray n' }) (r:Vals ys its') (hz:ys.length<=sizeLine) (t:Nat) :
  Inv X jv σ (upd H p (.lst ys)) { s with heap:=s.heap.update p f,toks:=t }:=by
 have e:(s.heap.update p f).get? p=some { cls:=.type "list", data:=.seq its'.toArray n' }:=by
  rw[Heap.get?_update_self f ho (by rw[hf] <;> rfl),hf]
 refine I.write (x:=p) (e:=p) (by rw[h];trivial) (.inl rfl) (fun b u hb q=>(Heap.get?_update_other _ _ (Ne.symm hb)).trans q) ⟨_,e⟩ ?_
 exact⟨hz,its',n',r,e⟩
def a2h:V->V->V->Hp->(Hp->Prop)->Prop:=fun o i v H Q=>∃p xs k j,o=.ref p/\i=.int k/\H p=some (.lst xs)/\ixN xs.length k=some j/\Q (upd H p (.lst (xs.set j v)))
theorem set_list:PSet X a2h:=by
 intro jv s σ H o i v ov iv u Q I ro ri rv h;obtain⟨p,xs,k,j,rfl,rfl,hp,hj,q⟩:=h;cases ro;obtain⟨t,rfl⟩:=ri;obtain⟨its,n,r,ho,hz⟩:=I.lst hp;obtain⟨h1,h2,h3,h4⟩:=apb hj;have hl:=r.length;have hn:=alm;have I':Inv X jv σ (upd H p (.lst (xs.set j v))) { s with heap:=s.heap.update p (Obj.mapSeq (·.setIfInBounds j u)) } :=
  I.lstUpd hp ho (am3 its n j u) (r.set rv j) (by rw[List.length_set];exact hz) s.toks
 by_cases h0:0<=k
 ·have hk:k.toNat=j:=by
   rw[seqIndex_of h0 h4] at h1;exact Option.some.inj h1
  exact PySem.W.ki_setAt ho h0 (by omega) (by rw[List.size_toArray,<-hl];exact h4) (by rw[hk];exact⟨_,I',q⟩)
 ·have hk:(k+(its.toArray.size:Int)).toNat=j:=by
   rw[seqIndex_neg (by omega) h3] at h1
   rw[List.size_toArray,<-hl];exact Option.some.inj h1
  exact PySem.W.ki_setBack ho (by omega) (by rw[List.size_toArray,<-hl];exact h3) (by omega) (by rw[hk];exact⟨_,I',q⟩)
theorem aih(lo hi:Option Int)(n:Nat):(sliceBounds lo hi none n).1=((HT.sIx n 0 lo:Nat):Int)/\(sliceBounds lo hi none n).2.1=((HT.sIx n n hi:Nat):Int)/\(sliceBounds lo hi none n).2.2=1:=by
 refine⟨?_,?_,rfl⟩
 ·cases lo with
  | none=>simp[sliceBounds,HT.sIx]
  | some i =>
   simp only[sliceBounds,HT.sIx,Option.getD_none,show(1:Int) > 0 by decide,if_true]
   by_cases h:i < 0
   ·simp only[h,if_true] <;> omega
   ·simp only[h,if_false] <;> omega
 ·cases hi with
  | none=>simp[sliceBounds,HT.sIx]
  | some i =>
   simp only[sliceBounds,HT.sIx,Option.getD_none,show(1:Int) > 0 by decide,if_true]
   by_cases h:i < 0
   ·simp only[h,if_true] <;> omega
   ·simp only[h,if_false] <;> omega
theorem agv(its:List Value)(lo hi:Option Int):slicePick its.toArray lo hi none=((its.drop (HT.sIx its.length 0 lo)).take (HT.sIx its.length its.length hi - HT.sIx its.length 0 lo)).toArray:=by
 obtain⟨h1,h2,h3⟩:=aih lo hi its.toArray.size;unfold slicePick;rw[h1,h2,h3];simp only[sliceRange_one,pick_run,List.size_toArray] <;> rfl
def rSlL(K:Fg9):V->Option Int->Option Int->Hp->VK->Prop:=fun x lo hi H Q=>∃a xs,x=.ref a/\SqL K H a xs/\∀p,H p=none->Q (.ref p) (upd H p (.lst (cutV xs lo hi)))
theorem an5:SlR X (rSlL X.K):=by
 intro jv s σ H x v vl vu lo hi sl Q I rx hs pl pu h;obtain⟨a,xs,rfl,hx,q⟩:=h;cases rx;obtain⟨its,r,ht,hz⟩:=I.list hx;have hlen:=r.length;refine⟨"list", _,slot_list_getitem.lookup,ht.isList.typeIs,?_⟩;refine wpAny_getItem_list_slice ht.isList hs pl pu .none (by simp) ?_ (by rw[List.size_toArray] <;> omega)
 rw[agv,<-hlen];refine⟨.ref s.heap.objs.size,_,I.laid (t':=s.toks) (o:=.lst (cutV xs lo hi)) (fun b ob q=>Heap.get?_push_of_some _ q) (Nat.le_refl _) ?_,rfl,q _ (I.hok.fresh (Nat.le_refl _))⟩
 exact⟨Nat.le_trans (afm xs lo hi) hz,_,0,(r.drop (HT.sIx xs.length 0 lo)).take (HT.sIx xs.length xs.length hi - HT.sIx xs.length 0 lo),Heap.get?_push_size _ rfl⟩
theorem ajl:acg X (.builtin "len") (fun xs H Q=>∃p ys,xs=[.ref p]/\(SqL X.K H p ys∨SqT X.K H p ys)/\Q (.int ys.length) H):=by
 intro jv s σ H xs us Q I r h;obtain⟨p,ys,rfl,hq,q⟩:=h;obtain⟨u,rfl,rx⟩:=vals1 r;cases rx;have hn:=alm;rcases hq with hq | hq
 ·obtain⟨its,r',pl,hz⟩:=I.list hq;have hlen:=r'.length;exact Calls.call_len_list pl.isList (by simp only[List.size_toArray] <;> omega) ⟨.int ys.length,H,I.tok _,⟨s.toks+1,by rw[List.size_toArray,hlen]⟩,q⟩
 ·obtain⟨its,r',pl,hz⟩:=I.tuple hq;have hlen:=r'.length;exact len_tuple pl (by simp only[List.size_toArray] <;> omega) ⟨.int ys.length,H,I.tok _,⟨s.toks+1,by rw[List.size_toArray,hlen]⟩,q⟩
theorem ajk:acg X (.type "list") (fun xs H Q=>∃p ys,xs=[.ref p]/\(SqL X.K H p ys∨SqT X.K H p ys)/\∀l,H l=none->Q (.ref l) (upd H l (.lst ys))):=by
 intro jv s σ H xs us Q I r h;obtain⟨p,ys,rfl,hq,q⟩:=h;obtain⟨u,rfl,rx⟩:=vals1 r;cases rx;have fin:∀(its:List Value),Vals ys its->ys.length<=sizeLine->∀(h':Heap) (c':Nat),(∀b o',s.heap.get? b=some o'->h'.get? b=some o') ->
   h'.get? s.heap.objs.size=some { cls:=.type "list", dict:=none,data:=.seq its.toArray c',slots := #[] }->EP X jv σ Q (.ref s.heap.objs.size) { s with heap:=h' }:=fun its r' hz h' c' kp e =>
  ⟨.ref s.heap.objs.size,_,I.laid (t':=s.toks) kp (Nat.le_refl _) (show ue X.prog X.w _ h' _ (.lst ys) from⟨hz,its,c',r',e⟩),rfl,q _ (I.hok.fresh (Nat.le_refl _))⟩
 rcases hq with hq | hq
 ·obtain⟨its,r',pl,hz⟩:=I.list hq;have hlen:=r'.length;obtain⟨o,ho,hc,n,hd⟩:=pl.isList;exact call_list_seq p (.inl rfl) ho hc hd (fun h' c' kp e=>fin its r' hz h' c' kp e) (by simp only[List.size_toArray] <;> omega)
 ·obtain⟨its,r',pl,hz⟩:=I.tuple hq;have hlen:=r'.length;obtain⟨o,ho,hc,n,hd⟩:=pl;exact call_list_seq p (.inr rfl) ho hc hd (fun h' c' kp e=>fin its r' hz h' c' kp e) (by simp only[List.size_toArray] <;> omega)
theorem zx:acg X (.type "tuple") (fun xs H Q=>∃p ys,xs=[.ref p]/\((SqL X.K H p ys/\∀l,H l=none->Q (.ref l) (upd H l (.tup ys)))∨(SqT X.K H p ys/\Q (.ref p) H))):=by
 intro jv s σ H xs us Q I r h;obtain⟨p,ys,rfl,h⟩:=h;obtain⟨u,rfl,rx⟩:=vals1 r;cases rx;rcases h with⟨hq,q⟩ | ⟨hq,q⟩
 ·obtain⟨its,r',pl,hz⟩:=I.list hq;have hlen:=r'.length;refine call_tuple_list pl.isList (fun h' kp =>?_) (by simp only[List.size_toArray] <;> omega)
  have I1:Inv X jv σ H { s with heap:=h' }:=I.kept (t':=s.toks) kp
  have I2:Inv X jv σ (upd H h'.objs.size (.tup ys)) { s with heap:=h'.push { cls:=.type "tuple", data:=.seq its.toArray } } :=
   I1.laid (t':=s.toks) (fun b o e=>Heap.get?_push_of_some _ e) (Nat.le_refl _) (show ue X.prog X.w _ _ _ (.tup ys) from⟨hz,its,r',IsTp.new _ _⟩)
  exact⟨.ref h'.objs.size,_,I2,rfl,q _ (I1.hok.fresh (Nat.le_refl _))⟩
 ·obtain⟨its,r',pl,hz⟩:=I.tuple hq;exact call_tuple_same pl ⟨.ref p,H,I,rfl,q⟩
def tyV(K:Fg9)(T:String)(x:V)(H:Hp):Prop:=match x with
 | .str _=>T = "str"
 | .int _=>T = "int"
 | .ref p=>(T = "list" /\ ∃xs,SqL K H p xs)∨(T = "tuple" /\ ((∃o,K.lookup p=some o/\o.cls=.type "tuple" /\ o.dict=none)∨∃xs,H p=some (.tup xs))) ∨
   (T = "dict" /\ ((∃kvs,H p=some (.dK kvs))∨∃kvs,H p=some (.dT kvs)))∨(T = "set" /\ ∃S n,H p=some (.set S n))
 | _=>False
theorem axo{jv:List (Addr×Obj)}{σ:St}{H:Hp}{s:Shared}{T:String}{x:V}{v:Value}(I:Inv X jv σ H s)(r:RelV x v)(ty:tyV X.K T x H) :
  s.TypeIs v T/\∀a,v=.ref a->∃ob,s.heap.get? a=some ob/\ob.dict=none:=by
 cases x with
 | str z =>
  obtain⟨t,rfl⟩:=r;cases(show T = "str" from ty)
  exact⟨typeIs_str s z t,fun _ e=>nomatch e⟩
 | int i =>
  obtain⟨t,rfl⟩:=r;cases(show T = "int" from ty)
  exact⟨typeIs_int s i t,fun _ e=>nomatch e⟩
 | ref p =>
  cases r;rcases ty with⟨rfl,xs,hq⟩ | ⟨rfl,⟨o,hk,hc,hd⟩ | ⟨xs,hk⟩⟩ | ⟨rfl,hk⟩ | ⟨rfl,S,n,hk⟩
  ·obtain⟨its,_,pl,_⟩:=I.list hq;refine⟨pl.isList.typeIs,fun a e =>?_⟩
   cases e;obtain⟨o,n,e,c,hd,_⟩:=pl;exact⟨o,e,hd⟩
  ·refine⟨⟨o,I.kIn p o hk,hc⟩,fun a e =>?_⟩
   cases e;exact⟨o,I.kIn _ o hk,hd⟩
  ·obtain⟨_,_,_,o,e,hc,hd,_⟩:=I.hok p _ hk;refine⟨⟨o,e,hc⟩,fun a e2 =>?_⟩
   cases e2;exact⟨o,e,hd⟩
  ·have z:∃o,s.heap.get? p=some o/\o.ExactDict:=by
    rcases hk with⟨kvs,hk⟩ | ⟨kvs,hk⟩
    ·obtain⟨_,_,_,_,o,_,_,e,ex,_⟩:=I.hok p _ hk;exact⟨o,e,ex⟩
    ·obtain⟨_,_,_,_,o,_,_,e,ex,_⟩:=I.hok p _ hk;exact⟨o,e,ex⟩
   obtain⟨o,e,ex⟩:=z;refine⟨⟨o,e,ex.1⟩,fun a e2 =>?_⟩
   cases e2;exact⟨o,e,ex.2.1⟩
  ·obtain⟨o,_,_,_,e,ex,_⟩:=I.hok p _ hk;refine⟨⟨o,e,ex.1⟩,fun a e2 =>?_⟩
   cases e2;exact⟨o,e,ex.2.1⟩
 | _=>exact False.elim ty
def tBM(K:Fg9)(T:String)(r:V->List V->Hp->VK->Prop)(to:TE)(t:TA):TE:=fun σ H Q=>to σ H fun x H1=>tyV K T x H1/\t σ H1 fun xs H2=>r x xs H2 Q
variable{o e:Expr}{es:List Expr}{to:TE}{t:TA}{name:Str}{apos cpos:Pos}{T id:String}{r:V->List V->Hp->VK->Prop}
theorem aol(pa:PlainAttrs T)(slot:Slot T name id)(hty:typeOf (.builtin id)=pure (.type "method_descriptor"))(hm:MtR X id r)(ho:PE X o to)(ha:PA X (e::es) t)
  (hbase:attributeBase o name X.env (eval o X.env)=eval o X.env:=by rfl)
  (hfew:((backTo cpos (starEach (e::es) X.env)).all (fun x => !x.1)&&(backToKw cpos (keywordEach [] X.env)).all (fun x=>x.1.isSome)
   && decide ((e::es).length+([]:List Keyword).length+(if ([]:List Keyword).isEmpty then 0 else 1) < 30))=true:=by rfl)
  (hline:(apos.endLine==cpos.line)=true:=by rfl) (hs:starEach (e::es) X.env=(false,eval e X.env)::starEach es X.env:=by rfl) (hplain:(backTo cpos (starEach es X.env)).any (·.1)=false:=by rfl) :
  PE X (.Call (.Attribute o name apos) (e::es) [] cpos) (tBM X.K T r to t):=by
 intro jv s σ H Q I h;refine wpAny_Call_method_late hbase hfew hline rfl (thn (ho jv s σ H _ I h) fun v s1 ⟨x,H1,I1,r1,ty,q1⟩ =>?_)
 obtain⟨h1,h2⟩:=axo I1 r1 ty;refine⟨T,id,pa,slot,hty,h1,h2,?_⟩;have hA:=ha cpos jv s1 σ H1 _ I1 q1;rw[hs] at hA ⊢
 refine Calls.callWith_builtin (by show(false||(backTo cpos (starEach es X.env)).any (·.1))=false;rw[hplain] <;> rfl) (Calls.evalArgs_plain ?_)
 exact thn hA fun us s2 ⟨vs,H2,I2,r2,q2⟩=>hm jv s2 σ H2 x vs v us Q I2 r1 r2 q2
end
def MtM(X:Cx)(id:String)(r:V->List V->Hp->VK->Prop):Prop :=
 ∀(jv:List (Addr×Obj)) (s:Shared) (σ:St) (H:Hp) (x:V) (xs:List V) (v:Value) (us:List Value) (Q:VK),Inv X jv σ H s->RelV x v->Vals xs us->r x xs H Q ->
  wpAny (model X.prog X.w) X.A (call (.builtin id) (v::us)) (EP X jv σ Q) X.xe s
theorem Vals.one:∀{x:V} {us:List Value},Vals [x] us->∃u,us=[u]/\RelV x u
 | _,_,.cons r .nil=>⟨_,rfl,r⟩
theorem Vals.rep{xs:List V}{us:List Value}(h:Vals xs us):∀k:Nat,Vals (List.replicate k xs).flatten (List.replicate k us).flatten
 | 0=>.nil
 | k+1=>by
  rw[List.replicate_succ,List.replicate_succ,List.flatten_cons,List.flatten_cons];exact Vals.append h (Vals.rep h k)
theorem foldl_rep(its:List Value):∀(k:Nat) (acc:List Value),
  List.foldl (fun x1 x2=>x1++x2) acc.toArray (List.replicate k its.toArray)=(acc++(List.replicate k its).flatten).toArray
 | 0,acc=>by simp
 | k+1,acc=>by
  have e:acc.toArray++its.toArray=(acc++its).toArray:=by simp
  have e2:(acc++its)++(List.replicate k its).flatten=acc++(List.replicate (k+1) its).flatten:=by
   rw[List.replicate_succ,List.flatten_cons,List.append_assoc]
  rw[<-e2,<-foldl_rep its k (acc++its),<-e,List.replicate_succ,List.foldl_cons]
section
variable{X:Cx}{jv:List (Addr×Obj)}{σ:St}{H:Hp}{s:Shared}{l b:Addr}{xs ys zs:List V}
theorem Inv.lset{its its':List Value}{n:Nat}{f:Array Value->Array Value}{t':Nat}(I:Inv X jv σ H s)(hH:H l=some (.lst xs))
  (e:s.heap.get? l=some { cls:=.type "list", data:=.seq its.toArray n }) (hf:f its.toArray=its'.toArray) (hv:Vals ys its') (hz:ys.length<=sizeLine) :
  Inv X jv σ (upd H l (.lst ys)) { s with heap:=s.heap.update l (Obj.mapSeq f),toks:=t' }:=by
 have q:=PySem.IsL.update e f;rw[hf] at q;refine I.write (x:=l) (e:=l) (by rw[hH];exact trivial) (.inl rfl) (fun b' u hb hu=>(Heap.get?_update_other s.heap (Obj.mapSeq f) (Ne.symm hb)).trans hu) ⟨_,q⟩ ?_
 exact⟨hz,its',_,hv,q⟩
theorem Inv.lnew{its:List Value}{t':Nat}(I:Inv X jv σ H s)(hv:Vals ys its)(hz:ys.length<=sizeLine) :
  Inv X jv σ (upd H s.heap.objs.size (.lst ys)) { s with heap:=s.heap.push { cls:=.type "list", data:=.seq its.toArray },toks:=t' } :=
 I.laid (fun _ _ q=>Heap.get?_push_of_some _ q) (Nat.le_refl _) ⟨hz,its,0,hv,Heap.get?_push_size _ rfl⟩
theorem Inv.fresh(I:Inv X jv σ H s):H s.heap.objs.size=none:=I.hok.fresh (Nat.le_refl _)
theorem Inv.lstM(I:Inv X jv σ H s)(hH:H l=some (.lst xs)):xs.length<=sizeLine/\∃(its:List Value) (n:Nat),Vals xs its/\xs.length=its.length/\s.heap.get? l=some { cls:=.type "list", data:=.seq its.toArray n }:=by
 obtain⟨z,its,n,r,e⟩:=I.hok l _ hH;exact⟨z,its,n,r,r.length,e⟩
theorem arw{n:Nat}(h:n<=sizeLine):Builtin.List.listTooLong n=false:=by
 unfold Builtin.List.listTooLong;exact decide_eq_false (by omega)
end
section
variable{X:Cx}
def aof:V->List V->Hp->VK->Prop:=fun x vs H Q=>∃l xs y,x=.ref l/\vs=[y]/\H l=some (.lst xs)/\xs.length < sizeLine/\Q .non (upd H l (.lst (xs++[y])))
theorem acy:MtM X "list.append" aof:=by
 intro jv s σ H x vs v us Q I rx rv h;obtain⟨l,xs,y,rfl,rfl,hH,hz,q⟩:=h;cases rx;obtain⟨u,rfl,ru⟩:=rv.one;obtain⟨z,its,n,r,hl,e⟩:=I.lstM hH;refine call_meets F.slot_list_append ⟨_,e,rfl⟩ F.entry_list_append (F.args_list_append_2 _ _) (PySem.list_append l its.toArray n u (by rw[List.size_toArray];omega)) ⟨e,?_⟩
 refine⟨.non,_,I.lset (its':=its++[u]) hH e (by simp) (r.append (.cons ru .nil)) ?_,rfl,q⟩
 rw[List.length_append,List.length_singleton];omega
def rCat:R2:=fun x y H Q=>∃l b xs zs,x=.ref l/\y=.ref b/\H l=some (.lst xs)/\H b=some (.lst zs)/\xs.length+zs.length<=sizeLine/\∀p,H p=none->Q (.ref p) (upd H p (.lst (xs++zs)))
theorem ay0:OpR X (binaryOp .Add) rCat:=by
 intro jv s σ H x y v u Q I rx ry h;obtain⟨l,b,xs,zs,rfl,rfl,hH,hB,hz,q⟩:=h;cases rx;cases ry;obtain⟨z,its,n,r,hl,e⟩:=I.lstM hH;obtain⟨z2,its2,n2,r2,hl2,e2⟩:=I.lstM hB;refine PySem.P.add_list e e2 ?_ (by rw[List.size_toArray,List.size_toArray];omega)
 have ea:its.toArray++its2.toArray=(its++its2).toArray:=by simp
 rw[ea];exact⟨.ref _,_,I.lnew (t':=s.toks) (r.append r2) (by rw[List.length_append];omega),rfl,q _ I.fresh⟩
def rRep:R2:=fun x y H Q=>∃l k xs,x=.ref l/\y=.int k/\H l=some (.lst xs) /\ -(2 ^ 63)<=k/\k < 2 ^ 63/\xs.length*k.toNat<=sizeLine /\
 ∀p,H p=none->Q (.ref p) (upd H p (.lst (List.replicate k.toNat xs).flatten))
theorem len_rep{α:Type}(xs:List α)(k:Nat):(List.replicate k xs).flatten.length=k*xs.length:=by
 induction k with
 | zero=>simp
 | succ k ih=>rw[List.replicate_succ,List.flatten_cons,List.length_append,ih,Nat.succ_mul,Nat.add_comm]
theorem ayw:OpR X (binaryOp .Mult) rRep:=by
 intro jv s σ H x y v u Q I rx ry h;obtain⟨l,k,xs,rfl,rfl,hH,h1,h2,hz,q⟩:=h;cases rx;obtain⟨t,rfl⟩:=ry;obtain⟨z,its,n,r,hl,e⟩:=I.lstM hH;have hlen:its.toArray.size*k.toNat<=sizeLine:=by rw[List.size_toArray,<-hl];exact hz
 have hcap:¬its.toArray.size*k.toNat > (2 ^ 63 - 1) / 8:=by
  have:(sizeLine:Nat)<=(2 ^ 63 - 1) / 8:=by decide
  omega
 have hfit:¬(!Builtin.List.listFitsIndex k)=true:=by
  rw[fitsIndex_both h1 h2];exact Bool.false_ne_true
 have hlong:¬Builtin.List.listTooLong (its.toArray.size*k.toNat)=true:=by
  rw[arw hlen];exact Bool.false_ne_true
 have hnew:List.foldl (fun x1 x2=>x1++x2) #[] (List.replicate (if its.toArray.isEmpty=true then 0 else k.toNat) its.toArray)=(List.replicate k.toNat its).flatten.toArray:=by
  have f0:∀m:Nat,List.foldl (fun x1 x2=>x1++x2) #[] (List.replicate m its.toArray)=(List.replicate m its).flatten.toArray:=fun m=>by
   have:=foldl_rep its m [];rw[List.nil_append] at this;exact this
  rw[f0];cases its with
  | nil=>simp
  | cons a r'=>rw[if_neg (by simp)]
 refine wpAny_binaryOp_repeat_ref (T := "list") (U := "int") (by decide) ⟨_,e,rfl⟩ (fun s'=>typeIs_int s' k t) noFill_list_mul F.fills_int_mul F.slot_int_rmul repeat_list F.slot_int_index.lookup
  (call_meets F.slot_int_rmul (typeIs_int s k t) F.entry_int_rmul (F.args_int_rmul_2 _ _) (int___rmul___int_list k t l its.toArray n)
   ⟨e,rfl,⟨_,e,rfl⟩,call_meets F.slot_list_mul ⟨_,e,rfl⟩ F.entry_list_mul (F.args_list_mul_2 _ _) (AutoListH.list___mul___list_int_3 l its.toArray n k t hfit hcap hlong) ⟨e,?_⟩⟩)
 rw[hnew];exact⟨.ref _,_,I.lnew (t':=s.toks) (r.rep k.toNat) (by rw[len_rep,Nat.mul_comm];exact hz),rfl,q _ I.fresh⟩
end
section
variable{prog:Program}{w:World}{A:Around}{E:Value->Shared->Prop}{s:Shared}
end
section
variable{X:Cx}
end
end L2
namespace Att
open PySem PySem.W PySem.Calls PyProof.Rows
theorem afa{P:Params}{h:Heap}:∀(ns:List Int) (vs:List Value),WellAll P h vs (ns.map WData.int)->IntsAre vs ns:=by
 intro ns
 induction ns with
 | nil =>
  intro vs w;rw[List.map_nil] at w;cases w;exact .nil
 | cons n ns ih =>
  intro vs w;rw[List.map_cons] at w;cases w with
  | cons a b =>
   cases a;exact .cons _ _ (ih _ b)
theorem an9{l:OpenLaw}{n:Nat}(hn:l.most=some n){P:Params}{h:Heap}{args:List WData}{vals:List Value}
  (hpre:l.row.toRowW.claim.pre args=true) (hwl:WellAll P h vals args) :
  ∃a vs ns,vals=[Value.ref a]/\args=[WData.list (ns.map WData.int)]/\h.get? a=some { cls:=.type "list", data:=.seq vs.toArray }/\IntsAre vs ns/\ns.length<=n:=by
 have hsh:WShape.hasAll [] args [.list .int]=true:=(pre_splitW hpre).1;have hc:l.pre.holds [] { args:=args }=true:=(pre_splitW hpre).2;obtain⟨d,r,rfl,h1,h2⟩:=hasAllW_cons hsh;obtain rfl:=hasAllW_nil h2;obtain⟨xs,rfl,h3⟩:=hasW_list h1;obtain⟨ns,rfl⟩:=items_int h3;have hlen:ns.length<=n:=by
  unfold OpenLaw.pre at hc;have h4:(WTm.not (.lt (.lit (.int (n:Int))) (.len (.arg 0)))).holds [] { args:=[.list (ns.map .int)] }=true:=by
   have h4:=(holds_andW hc).1;rw[hn] at h4;exact h4
  have h5:=condW_of h4 (w_not (w_lt w_lit (w_len_list (w_arg rfl))));rw[List.length_map] at h5;refine Nat.le_of_not_lt fun q =>?_
  have q':(n:Int) < ((ns.length:Nat):Int):=by omega
  first
   | (rw[decide_eq_true q'] at h5;exact absurd h5 (by decide))
   | (simp at h5;omega)
 cases hwl with
 | cons w1 w2 =>
  cases w2;cases w1 with
  | list ho hall=>exact⟨_,_,ns,rfl,rfl,ho,afa ns _ hall,hlen⟩
theorem aoi(l:OpenLaw)(args:List WData):l.row.toRowW.claim.post args (.bool true) args=true :=
 postW_of (r:=l.row.toRowW) (X:=(true==true))
  (show WShape.has [] (.bool true) .bool=true by first | rfl | decide | simp[WShape.has,WShape.arms,WShape.armsAll])
  (show(WTm.eq .res (.lit (.bool true))).value [] { args:=args,res:=some (.bool true),after:=args }=some (.bool (true==true)) from w_eq_bool (w_res rfl) w_lit) rfl
theorem akz{l:OpenLaw}{n:Nat}{q:Program}{loose:List Str}{XP:(Str->Option Value)->Heap->Prop}{YP:World->Heap->Prop}{d:DefRec}
  (hn:l.most=some n) (hdf:d.params.defaults=[])
  (call:∀(w:World) (s₀ s₁:Shared) (mg mb:Str->Option Value) (fa:Addr) (o:Obj) (pm cd doc:Value) (a:Addr) (vs:List Value) (ns:List Int),
   Ground q loose [] XP w s₀ mg mb s₁.heap->YP w s₁.heap ->
   s₁.heap.get? fa=some o->o.data=.func (docDef d.name d.params d.body d.scope pm cd doc)->s₁.heap.CodeRec cd d.name->mg d.name=some (.ref fa) ->
   s₁.heap.get? a=some { cls:=.type "list", data:=.seq vs.toArray }->IntsAre vs ns->ns.length<=n->s₁.gens = #[] ->
   codeAny (model l.prog w) callerA (.call (.ref fa) ⟨[.ref a],[]⟩) (fun r s'=>r=.ok (.ret (.bool true))/\OldK s₁.heap s'.heap/\s'.os=s₁.os/\AllBare s'.gens) s₁) :
  WalkO q loose XP YP l.row.toRowW d [] (fun f vs=>PySem.call f vs):=by
 intro w s₀ s₁ mg mb G Y fa o pm cd doc dV kV ho hd hcd hD hmg hg args vals as hpre hlay hrd hwl hlo;obtain rfl:dV=.none:=Dflts.none hD hdf;obtain rfl:kV=.none:=Dflts.noKw hD;obtain⟨a,vs,ns,rfl,rfl,hobj,hints,hlen⟩:=an9 hn hpre hwl;refine enter_call (codeAny_mono (call w s₀ s₁ mg mb fa o pm cd doc a vs ns G Y ho (fd_plain hd) hcd hmg hobj hints hlen hg) fun r s' hq =>?_)
 obtain⟨rfl,h2,h3,h4⟩:=hq;exact⟨.inl ⟨.bool true,.bool true,[],rfl,fun _=>rfl,.bool true,aoi l _,fun _=>⟨List.Pairwise.nil,fun _ hm=>(nomatch hm)⟩⟩,h2,h3,h4⟩
section
variable{prog:Program}{w:World}{A:Around}{E:Value->Shared->Prop}{s:Shared}{K:Frag}
end
end Att
namespace L2
theorem aic:∀{vs:List Value} {ns:List Int},IntsAre vs ns->Vals (ns.map V.int) vs
 | _,_,.nil=>.nil
 | _,_,.cons n t h=>.cons ⟨t,rfl⟩ (aic h)
def Only(H:Hp):Prop:=∀b,H b=none∨∃o xs,H b=some (.frz o (.lst xs))
theorem ar9{P:Program}{w:World}{K:Fg9}{mg mb:Str->Option Value}{CX:CXT}{k:Nat}{fa a:Addr}{fd:FuncData}{x:Str}{sp:Sp}{s₁:Shared}{vs:List Value}{ns:List Int}
  (KX:K.In s₁.heap) (hns:s₁.heap.Ns mainGlobals mg) (hb:s₁.heap.Ns builtinsNs mb) (hbb:∀x:Str,x ≠ "__name__" -> mb x=bootBuiltins x) (hlim:s₁.heap.NoLimit) (hg:s₁.gens = #[])
  (ha:s₁.heap.get? a=some { cls:=.type "list", data:=.seq vs.toArray }) (hi:IntsAre vs ns) (hl:ns.length<=sizeLine) (hr:Room k callerA)
  (F:∀base:Heap,K.In base->base.Ns mainGlobals mg->FnOk P w K mg base CX k fa fd [x] sp) (hbind:∀(s:Shared) (u:Value),BindsTo s fd ⟨[u],[]⟩ [(x,u)])
  (hsp:∀H:Hp,Only H->SqL K H a (ns.map V.int)->sp [.ref a] H (fun v _=>v=.bl true) fun _ _ _=>False)
  (hCX:∀H e s',CX [] H s₁ (fun _ _ _=>False) e s'->False) :
  codeAny (model P w) callerA (.call (.ref fa) ⟨[.ref a],[]⟩) (fun r s'=>r=.ok (.ret (.bool true))/\OldK s₁.heap s'.heap/\s'.os=s₁.os/\AllBare s'.gens) s₁:=by
 have rv:=aic hi;have lenV:=hi.length;have core:∀H:Hp,Only H->SqL K H a (ns.map V.int)->HOk P w H s₁.heap->(∀b,H b≠none->b=a)->(H a≠none->K.lookup a=none) ->
   codeAny (model P w) callerA (.call (.ref fa) ⟨[.ref a],[]⟩) (fun r s'=>r=.ok (.ret (.bool true))/\OldK s₁.heap s'.heap/\s'.os=s₁.os/\AllBare s'.gens) s₁:=by
  intro H hO hS hok hA hK;have base_of:∀{b:Addr} {o:Obj},s₁.heap.get? b=some o->H b=none->(hidT s₁.heap H).get? b=some o:=fun e n=>asi e n
  have noA:∀{b:Addr} {o:Obj} {es:Array DictEntry} {ep:Nat},s₁.heap.get? b=some o->o.data=.dict es ep->H b=none:=fun{b o es ep} e d=>by
   cases q:H b with
   | none=>rfl
   | some u =>
    have e':b=a:=hA b (by rw[q];simp)
    subst e';rw[ha] at e;cases e;have d':Data.seq vs.toArray _=Data.dict es ep:=d;cases d'
  have nsK:∀{b:Addr} {m:Str->Option Value},s₁.heap.Ns b m->(hidT s₁.heap H).Ns b m:=fun{b m} ⟨o,es,ep,e,d,r⟩=>⟨o,es,ep,base_of e (noA e d),d,r⟩
  have hKb:K.In (hidT s₁.heap H):=fun b o e=>base_of (KX b o e) (by
   cases q:H b with
   | none=>rfl
   | some u =>
    have e':b=a:=hA b (by rw[q];simp)
    subst e';rw[hK (by rw[q];simp)] at e;cases e)
  have hM:Mod K mg (hidT s₁.heap H):=⟨hKb,nsK hns,⟨mb,nsK hb,hbb⟩,let ⟨mc,h1,h2⟩:=hlim;⟨mc,nsK h1,h2⟩⟩
  have e0:Env0 P w K mg (hidT s₁.heap H) callerA [] s₁ H:=⟨rfl,hM,fun b o e=>av1 e,Nat.le_of_eq (apf _ _),trivial,fun b hb=>absurd (show b∈([]:List Addr) from hb) (by simp),hok,.of_eq hg⟩
  refine codeAny_mono ((F _ hKb (nsK hns)).run callerA [] s₁ H ⟨[.ref a],[]⟩ [.ref a] [.ref a] _ _ hr e0 (hbind s₁ (.ref a)) (.cons rfl .nil) (hsp H hO hS)) fun r s' h =>?_
  cases r with
  | error e=>exact(hCX H e s' h).elim
  | ok fl =>
   cases fl with
   | next=>exact False.elim h
   | brk=>exact False.elim h
   | cont=>exact False.elim h
   | ret u =>
    obtain⟨v,H',os,bare,un,hok',r',q⟩:=h;have q':v=.bl true:=q;subst q';obtain rfl:u=Value.bool true:=r';refine⟨rfl,OldK.of_keep fun b o e =>?_,os,bare⟩
    cases q:H b with
    | none=>exact un.keep b o e q (by intro z;exact absurd (show b∈([]:List Addr) from z) (by simp)) (by simp)
    | some u =>
     rcases hO b with z | ⟨ob,xs,z⟩
     ·rw[q] at z;cases z
     ·have z2:=un.frzs b ob _ z;obtain⟨e1,_⟩:=hok b _ z;obtain⟨e2,_⟩:=hok' b _ z2;rw[e] at e1;cases e1;exact e2
 cases hk:K.lookup a with
 | some o =>
  have e:=KX a o hk;rw[ha] at e;cases e;refine core (fun _=>none) (fun _=>.inl rfl) (.inr ⟨_,vs.toArray,_,hk,rfl,rfl,rfl,by rw[List.size_toArray,lenV];exact hl,by simpa using rv⟩) (fun b u z=>by have z':(none:Option HO)=some u:=z;cases z') (fun b z=>absurd rfl z) fun z=>absurd rfl z
 | none =>
  refine core (fun b=>if b=a then some (.frz { cls:=.type "list", data:=.seq vs.toArray } (.lst (ns.map V.int))) else none) (fun b =>?_) (.inl (.inr ⟨{ cls:=.type "list", data:=.seq vs.toArray },if_pos rfl⟩)) (fun b u z =>?_) (fun b z =>?_) fun _=>hk
  ·by_cases hb:b=a
   ·exact .inr ⟨_,_,if_pos hb⟩
   ·exact .inl (if_neg hb)
  ·by_cases hb:b=a
   ·have z':=(if_pos hb).symm.trans z;cases z';subst hb;exact⟨ha,by rw[List.length_map];exact hl,vs,_,rv,ha⟩
   ·have z':=(if_neg hb).symm.trans z;cases z'
  ·by_cases hb:b=a
   ·exact hb
   ·exact absurd (if_neg hb) z
theorem aun{l:PySem.W.OpenLaw}{n k:Nat}{q:Program}{loose:List Str}{XP:(Str->Option Value)->Heap->Prop}{YP:World->Heap->Prop}{d:DefRec}{K:Params->Fg9}{CX:World->CXT}{sp:World->Sp}{x:Str}
  (hn:l.most=some n) (hn2:n<=sizeLine) (hdf:d.params.defaults=[]) (hr:Room k callerA)
  (hY:∀(w:World) (h:Heap),YP w h->(K w.params).In h)
  (F:∀(w:World) (mg:Str->Option Value) (fa:Addr) (h:Heap),(K w.params).In h->h.Ns mainGlobals mg->mg d.name=some (.ref fa) ->
   ∃fd:FuncData,(∀(s:Shared) (u:Value),BindsTo s fd ⟨[u],[]⟩ [(x,u)]) /\
    ∀base:Heap,(K w.params).In base->base.Ns mainGlobals mg->FnOk l.prog w (K w.params) mg base (CX w) k fa fd [x] (sp w))
  (hsp:∀(w:World) (H:Hp) (a:Addr) (ns:List Int),ns.length<=n->Only H->SqL (K w.params) H a (ns.map V.int)->sp w [.ref a] H (fun v _=>v=.bl true) fun _ _ _=>False)
  (hCX:∀(w:World) (H:Hp) (s:Shared) (e:Value) (s':Shared),CX w [] H s (fun _ _ _=>False) e s'->False) :
  PySem.W.WalkO q loose XP YP l.row.toRowW d [] (fun f vs=>PySem.call f vs):=by
 refine Att.akz hn hdf fun w s₀ s₁ mg mb fa o pm cd doc a vs ns G Y ho hd hcd hmg hobj hints hlen hg =>?_
 have KX:=hY w _ Y;obtain⟨fd,hb,hF⟩:=F w mg fa _ KX G.T.g hmg;exact ar9 KX G.T.g G.T.b G.T.builtins G.T.nolimit hg hobj hints (Nat.le_trans hlen hn2) hr hF hb (fun H hO hS=>hsp w H a ns hlen hO hS) fun H e s'=>hCX w H s₁ e s'
def j9(s:Stmt):Arguments:=match s with
 | .FunctionDef _ a _ _ _ _ _ _ _ _=>a
 | _=>{ posonlyargs:=[],args:=[],vararg:=none,kwonlyargs:=[],kw_defaults:=[],kwarg:=none,defaults:=[] }
def ir(s:Stmt):List Stmt:=match s with
 | .FunctionDef _ _ b _ _ _ _ _ _ _=>b
 | _=>[]
def ao(s:Stmt):Scope:=match s with
 | .FunctionDef _ _ _ _ _ _ sc _ _ _=>sc
 | _=>{ kind:=.function,names:=[],isGenerator:=false,isCoroutine:=false }
abbrev CX0:CXT:=fun _ _ _ _ _ _=>False
abbrev E0:XK:=fun _ _ _=>False
theorem a2t{X:Cx}:aqs CX0 X E0:=fun _ _ _ _ _ _ _ h=>h.elim
structure Fun (K:Fg9) (x qual:Str) (st:Stmt) (f:Addr) (fd:FuncData):Prop where
 ex:∃(oc:Value) (od:Option Addr) (kV doc pm:Value) (an:Option Addr) (cdv ct:Value) (osl:Array (Option Value)),
  fd=fnOf x qual (j9 st) (ir st) (ao st) .none kV doc pm an cdv ct/\K.lookup f=some ⟨oc,od,.func fd,osl⟩/\codeIn K cdv qual=true
 kp:keepIn K (.ref f)=true
section
variable{P:Program}{w:World}{K:Fg9}{mg:Str->Option Value}{base:Heap}
theorem Fun.ok{x qual:Str}{st:Stmt}{f:Addr}{fd:FuncData}{N ps:List Str}{k:Nat}{sp:Sp}(F:Fun K x qual st f fd)(S:FnScope N ps (ao st))(len:∀vs H Q E,sp vs H Q E->vs.length=ps.length)
  (hbody:∀(cdv:Value) (A:Around) (outer:List Env) (s:Shared) (H:Hp) (vs:List V) (Q:VK) (E:XK),Room k (A.deeper (envOfC qual (ao st) s.heap.objs.size f cdv))->sp vs H Q E ->
   ∃t,PSs (cxOf CX0 P w K mg base N qual (ao st) f cdv A outer s H E).nox (ir st) t/\t { nx:=fun _ H'=>Q .non H',rt:=Q } (start N vs) H):FnOk P w K mg base CX0 (k+1) f fd ps sp:=by
 obtain⟨oc,od,kV,doc,pm,an,cdv,ct,osl,rfl,lk,hcd⟩:=F.ex;refine a0c lk hcd S len fun A outer s H vs Q E hr hsp =>?_
 obtain⟨t,h,q⟩:=hbody cdv A outer s H vs Q E hr hsp;exact⟨t,h.nox,q⟩
theorem Fun.binds{x qual:Str}{st:Stmt}{f:Addr}{fd:FuncData}{ps:List Str}(F:Fun K x qual st f fd)
  (h:∀(kV doc pm:Value) (an:Option Addr) (cdv ct:Value) (us:List Value),us.length=ps.length->bindArgs (fnOf x qual (j9 st) (ir st) (ao st) .none kV doc pm an cdv ct) ⟨us,[]⟩=pure (ps.zip us)):Binds K fd ps []:=by
 obtain⟨oc,od,kV,doc,pm,an,cdv,ct,osl,rfl,lk,hcd⟩:=F.ex;exact .all (h kV doc pm an cdv ct)
theorem at8{x qual:Str}{st:Stmt}{f:Addr}{oc:Value}{od an:Option Addr}{osl:Array (Option Value)}{kV doc pm cdv ct:Value}(l:K.lookup f=some ⟨oc,od,.func (fnOf x qual (j9 st) (ir st) (ao st) .none kV doc pm an cdv ct),osl⟩)
  (c:codeIn K cdv qual=true) (k:keepIn K (.ref f)=true):Fun K x qual st f (fnOf x qual (j9 st) (ir st) (ao st) .none kV doc pm an cdv ct):=⟨⟨oc,od,kV,doc,pm,an,cdv,ct,osl,rfl,l,c⟩,k⟩
end
theorem aan{n:Nat}(h:n<=1000):n < sizeLine:=Nat.lt_of_le_of_lt h (by decide)
section
variable{X:Cx}
theorem pv(i:Nat){x:Str}{pos:Pos}(hN:X.N[i]? = some x:=by rfl)(hv:Vis X.env.scope x:=by first | exact Or.inl rfl | exact Or.inr (Or.inl rfl) | exact Or.inr (Or.inr rfl))(hd:(x==("__debug__" : Str))=false:=by decide)
  (hcd:(x==("__classdict__" : Str))=false:=by decide):PE X (.Name x pos) (tVar i):=ayj hN hv hd hcd
end
theorem iteF{A B:Prop}(h:B):if false=true then A else B:=by
 rw[if_neg Bool.false_ne_true];exact h
theorem iteT{A B:Prop}(h:A):if true=true then A else B:=by
 rw[if_pos rfl];exact h
def Same(H H':Hp):Prop:=∀b o,H b=some o->H' b=some o
theorem Same.refl(H:Hp):Same H H:=fun _ _ h=>h
theorem Same.trans{H H1 H2:Hp}(a:Same H H1)(b:Same H1 H2):Same H H2:=fun c o h=>b c o (a c o h)
theorem Same.seq{K:Fg9}{H H':Hp}{a:Addr}{xs:List V}(e:Same H H')(h:SqL K H a xs):SqL K H' a xs:=by
 rcases h with(h | ⟨o,h⟩) | h
 ·exact .inl (.inl (e _ _ h))
 ·exact .inl (.inr ⟨o,e _ _ h⟩)
 ·exact .inr h
end L2
namespace Mn
open L2
def xf(env:Env)(fr:List Str):List (Str×Addr):=fr.filterMap fun n=>(env.cells.lookup n).map fun c=>(n,c)
theorem afq{env:Env}{n:Str}{r:List Str}(e:env.cells.lookup n=none):xf env (n::r)=xf env r:=by
 unfold xf;rw[List.filterMap_cons,e];rfl
theorem acf{env:Env}{n:Str}{r:List Str}{c:Addr}(e:env.cells.lookup n=some c):xf env (n::r)=(n,c)::xf env r:=by
 unfold xf;rw[List.filterMap_cons,e];rfl
theorem look_same{x:Str}{c:Addr}{l:List (Str×Addr)}:List.lookup x ((x,c)::l)=some c:=by
 have hb:(x==x)=true:=beq_iff_eq.mpr rfl;simp only[List.lookup,hb]
theorem aga{x n:Str}{c:Addr}{l:List (Str×Addr)}(h:x≠n):List.lookup x ((n,c)::l)=l.lookup x:=by
 have hb:(x==n)=false:=beq_eq_false_iff_ne.mpr h;simp only[List.lookup,hb]
theorem qy{env:Env}:∀{fr:List Str} {x:Str} {c:Addr},(xf env fr).lookup x=some c->env.cells.lookup x=some c
 | [],x,c,h=>by
  have h':(none:Option Addr)=some c:=h;cases h'
 | n::r,x,c,h=>by
  cases e:env.cells.lookup n with
  | none =>
   rw[afq e] at h;exact qy h
  | some d =>
   rw[acf e] at h
   by_cases hx:x=n
   ·subst hx;rw[look_same] at h;rw[e];exact h
   ·rw[aga hx] at h;exact qy h
theorem abl{env:Env}:∀{fr:List Str} {x:Str} {c:Addr},x∈fr->env.cells.lookup x=some c->(xf env fr).lookup x=some c
 | [],x,c,hm,h=>absurd hm (by simp)
 | n::r,x,c,hm,h=>by
  by_cases hx:x=n
  ·subst hx;rw[acf h,look_same]
  ·have hm':x∈r:=(List.mem_cons.mp hm).elim (fun e=>absurd e hx) id
   cases e:env.cells.lookup n with
   | none =>
    rw[afq e];exact abl hm' h
   | some d =>
    rw[acf e,aga hx];exact abl hm' h
def aeu(XN fr:List Str):List Str->List (Option Nat)->Bool
 | [],[]=>true
 | _::N,none::r=>aeu XN fr N r
 | x::N,some j::r=>XN[j]? == some x&&fr.contains x&&aeu XN fr N r
 | _,_=>false
theorem aet{XN fr:List Str}:∀{N:List Str} {src:List (Option Nat)} {i j:Nat} {x:Str},aeu XN fr N src=true->N[i]? = some x->src[i]? = some (some j)->XN[j]? = some x/\x∈fr
 | [],[],i,j,x,_,h,_=>by simp at h
 | [],_::_,i,j,x,_,h,_=>by simp at h
 | _::_,[],i,j,x,_,_,h=>by simp at h
 | y::N,none::r,0,j,x,_,_,h=>by simp at h
 | y::N,none::r,i+1,j,x,hk,h1,h2=>aet (N:=N) (src:=r) (i:=i) hk (by simpa using h1) (by simpa using h2)
 | y::N,some k::r,0,j,x,hk,h1,h2=>by
  simp only[aeu,Bool.and_eq_true] at hk;obtain⟨⟨a,b⟩,_⟩:=hk;simp at h1 h2;subst h1 h2;exact⟨by simpa using a,by simpa using b⟩
 | y::N,some k::r,i+1,j,x,hk,h1,h2=>by
  simp only[aeu,Bool.and_eq_true] at hk;exact aet (N:=N) (src:=r) (i:=i) hk.2 (by simpa using h1) (by simpa using h2)
theorem aes{XN fr:List Str}:∀{N:List Str} {src:List (Option Nat)},aeu XN fr N src=true->src.length=N.length
 | [],[],_=>rfl
 | [],_::_,h=>by simp[aeu] at h
 | _::_,[],h=>by simp[aeu] at h
 | _::N,none::r,h=>by
  have:=aes (N:=N) (src:=r) h;simp[this]
 | _::N,some k::r,h=>by
  simp only[aeu,Bool.and_eq_true] at h;have:=aes (N:=N) (src:=r) h.2;simp[this]
def pick(src:List (Option Nat))(σ:L2.St):L2.St:=src.map fun o=>o.bind fun j=>(σ[j]?).bind id
theorem pick_get{src:List (Option Nat)}{σ:L2.St}{i:Nat}{v:V}(h:(pick src σ)[i]? = some (some v)):∃j,src[i]? = some (some j)/\σ[j]? = some (some v):=by
 unfold pick at h;rw[List.getElem?_map] at h;cases e:src[i]? with
 | none=>rw[e] at h;cases h
 | some o =>
  rw[e] at h;have h':(o.bind fun j=>(σ[j]?).bind id)=some v:=Option.some.inj h
  cases o with
  | none=>cases h'
  | some j =>
   refine⟨j,rfl,?_⟩;have h2:(σ[j]?).bind id=some v:=h';cases q:σ[j]? with
   | none=>rw[q] at h2;cases h2
   | some z =>
    rw[q] at h2;have h3:z=some v:=h2;rw[h3]
def afo(env:Env)(XN:List Str)(scope:Scope)(fr N:List Str)(src:List (Option Nat)):Bool :=
 scope.names.all (fun y=>y.2 != .cell&&(y.2 != .local||scope.names.lookup y.1==some .local)&&(y.2 != .free||fr.contains y.1)) &&
 fr.all (fun x=>scope.names.lookup x==some .free&&(env.kindOf x==some .cell||env.kindOf x==some .free))&&aeu XN fr N src
structure CompOk (env:Env) (XN:List Str) (scope:Scope) (fr N:List Str) (src:List (Option Nat)):Prop where
 cell:∀y∈scope.names,y.2≠.cell
 loc:∀y∈scope.names,y.2=.local->scope.names.lookup y.1=some .local
 free:∀y∈scope.names,y.2=.free->y.1∈fr
 frk:∀x∈fr,scope.names.lookup x=some .free
 out:∀x∈fr,env.kindOf x=some .cell∨env.kindOf x=some .free
 src:aeu XN fr N src=true
theorem CompOk.of{env:Env}{XN:List Str}{scope:Scope}{fr N:List Str}{src:List (Option Nat)}(h:afo env XN scope fr N src=true):CompOk env XN scope fr N src:=by
 simp only[afo,Bool.and_eq_true,List.all_eq_true] at h;obtain⟨⟨h1,h2⟩,h3⟩:=h;refine⟨fun y hy =>?_,fun y hy e =>?_,fun y hy e =>?_,fun x hx =>?_,fun x hx =>?_,h3⟩
 ·have:=(h1 y hy).1.1
  simpa using this
 ·have:=(h1 y hy).1.2;rw[e] at this
  simpa using this
 ·have:=(h1 y hy).2;rw[e] at this
  simpa using this
 ·have:=(h2 x hx).1
  simpa using this
 ·have:=(h2 x hx).2
  simpa using this
theorem ad3{env:Env}:∀{names:List (Str×NameKind)} {x:Str} {k:NameKind},
  (names.map fun(n,k)=>if (k==NameKind.free&&env.scope.kind==.function&&env.kindOf n==some .cell) then (n,NameKind.cell) else (n,k)).lookup x=some k ->
  ∃k0,names.lookup x=some k0/\(k=k0∨(k0=.free/\k=.cell))
 | [],x,k,h=>by simp at h
 | (n,q)::r,x,k,h=>by
  by_cases hx:x=n
  ·subst hx;have hb:(x==x)=true:=beq_iff_eq.mpr rfl;refine⟨q,by simp only[List.lookup,hb],?_⟩
   by_cases hc:(q==NameKind.free&&env.scope.kind==.function&&env.kindOf x==some .cell)=true
   ·rw[List.map_cons] at h;simp only[hc,if_true,List.lookup,hb] at h;simp only[Bool.and_eq_true] at hc;exact .inr ⟨by simpa using hc.1.1,(Option.some.inj h).symm⟩
   ·rw[List.map_cons] at h;simp only[hc,List.lookup,hb] at h;exact .inl (by simpa using h.symm)
  ·have hb:(x==n)=false:=beq_eq_false_iff_ne.mpr hx;have h':(r.map fun(n,k)=>if (k==NameKind.free&&env.scope.kind==.function&&env.kindOf n==some .cell) then (n,NameKind.cell) else (n,k)).lookup x=some k:=by
    rw[List.map_cons] at h
    by_cases hc:(q==NameKind.free&&env.scope.kind==.function&&env.kindOf n==some .cell)=true
    ·simp only[hc,if_true,List.lookup,hb] at h;exact h
    ·have h2:List.lookup x ((if (q==NameKind.free&&env.scope.kind==.function&&env.kindOf n==some .cell)=true then (n,NameKind.cell) else (n,q))::(r.map fun(n,k)=>if (k==NameKind.free&&env.scope.kind==.function&&env.kindOf n==some .cell) then (n,NameKind.cell) else (n,k)))=some k:=h
     rw[if_neg hc] at h2;simp only[List.lookup,hb] at h2;exact h2
   obtain⟨k0,e,d⟩:=ad3 h';exact⟨k0,by simp only[List.lookup,hb];exact e,d⟩
theorem aav{env:Env}:∀{names:List (Str×NameKind)} {x:Str},names.lookup x=some .free ->
  (names.map fun(n,k)=>if (k==NameKind.free&&env.scope.kind==.function&&env.kindOf n==some .cell) then (n,NameKind.cell) else (n,k)).lookup x=some .free ∨
  (names.map fun(n,k)=>if (k==NameKind.free&&env.scope.kind==.function&&env.kindOf n==some .cell) then (n,NameKind.cell) else (n,k)).lookup x=some .cell
 | [],x,h=>by simp at h
 | (n,q)::r,x,h=>by
  by_cases hx:x=n
  ·subst hx;have hb:(x==x)=true:=beq_iff_eq.mpr rfl;simp only[List.lookup,hb] at h;have hq:q=.free:=Option.some.inj h;subst hq
   by_cases hc:(NameKind.free==NameKind.free&&env.scope.kind==.function&&env.kindOf x==some .cell)=true
   ·right
    rw[List.map_cons];simp only[hc,if_true,List.lookup,hb]
   ·left
    show List.lookup x ((if (NameKind.free==NameKind.free&&env.scope.kind==.function&&env.kindOf x==some .cell)=true then (x,NameKind.cell) else (x,NameKind.free))::_)=some NameKind.free
    rw[if_neg hc];simp only[List.lookup,hb]
  ·have hb:(x==n)=false:=beq_eq_false_iff_ne.mpr hx;simp only[List.lookup,hb] at h;rw[List.map_cons]
   by_cases hc:(q==NameKind.free&&env.scope.kind==.function&&env.kindOf n==some .cell)=true
   ·simp only[hc,if_true,List.lookup,hb];exact aav h
   ·simp only[hc,List.lookup,hb]
    simpa[List.lookup,hb] using aav (env:=env) h
def cxC(X:Cx)(N:List Str)(scope:Scope)(fr:List Str)(fp:List Addr)(s:Shared)(H:Hp):Cx where
 prog:=X.prog
 w:=X.w
 K:=X.K
 mg:=X.mg
 base:=X.base
 A:=X.A
 N:=N
 s₀:=s
 H₀:=H
 env:=compEnvC scope (xf X.env fr) s.heap.objs.size X.env
 outer:=X.stack
 stack:=X.stack
 ex:=fp
 fn:=fun _=>false
 calm:=X.calm
 pn:=[]
 xe:=fun _ _=>False
section
variable{X:Cx}{jv:List (Addr×Obj)}{σ:L2.St}{H:Hp}{s:Shared}{scope:Scope}{fr N:List Str}{src:List (Option Nat)}{fp:List Addr}
theorem a0i(I:Inv X jv σ H s)(C:CompOk X.env X.N scope fr N src)(hkind:scope.kind=.function)(hf:∀b∈fp,FpOk X jv H b)(hl:∀b∈fp,b < s.heap.objs.size):(cxC X N scope fr fp s H).Ok where
 mod:=I.ok.mod
 kind:=hkind
 glob:=I.ok.glob
 blt:=I.ok.blt
 above:=Nat.le_refl _
 inj:=fun x y c h1 h2=>I.ok.inj x y c (qy h1) (qy h2)
 has:=fun x hx=>by
  have mem:∀k,(k=NameKind.cell∨k=NameKind.free)->(cxC X N scope fr fp s H).env.kindOf x=some k->x∈fr:=fun k hk e=>by
   obtain⟨k0,e0,d⟩:=ad3 (env:=X.env) (names:=scope.names) e;have hm:=PySem.mem_of_lookup e0;rcases d with rfl | ⟨rfl,_⟩
   ·rcases hk with rfl | rfl
    ·exact absurd rfl (C.cell _ hm)
    ·exact C.free _ hm rfl
   ·exact C.free _ hm rfl
  have hm:x∈fr:=by
   rcases hx with e | e
   ·exact mem _ (.inl rfl) e
   ·exact mem _ (.inr rfl) e
  obtain⟨c,hc⟩:=I.ok.has x (C.out x hm);exact⟨c,abl hm hc⟩
 cab:=fun _ _ h _=>absurd h Bool.false_ne_true
 hd:=I.ok.hd
 frames:=I.ok.frames
 stk:=.inl rfl
 exf:=fun b hb=>⟨Nat.ne_of_lt (hl b hb),fun x c e=>(hf b hb).2.2.2.2.1 x c (qy e)⟩
 bs:=I.bs
 bsz:=Nat.le_trans I.ok.bsz I.sz
 noex:=fun b o e hb=>by
  rcases(hf b hb).2.2.2.1 with z | z
  ·exact I.ok.noex b o e z
  ·exact absurd (Nat.lt_of_lt_of_le (Heap.lt_size e) (Nat.le_trans I.ok.bsz z)) (Nat.lt_irrefl _)
 exfs:=fun b hb z=>by
  rcases List.mem_cons.mp (I.stkSub b z) with e | e
  ·exact(hf b hb).2.1 e
  ·exact(hf b hb).2.2.1 e
 funs:=I.stack
 frf:=I.stkFree
theorem alx(I:Inv X jv σ H s)(C:CompOk X.env X.N scope fr N src)(hkind:scope.kind=.function)(hf:∀b∈fp,FpOk X jv H b)(hl:∀b∈fp,b < s.heap.objs.size){h':Heap}{tk:Nat}{m:Str->Option Value}
  (hns:h'.Ns s.heap.objs.size m) (hk:∀b o,s.heap.get? b=some o->h'.get? b=some o):Inv (cxC X N scope fr fp s H) [] (pick src σ) H { s with heap:=h',toks:=tk } where
 ok:=a0i I C hkind hf hl
 os:=rfl
 bare:=I.bare
 base:=Un.kept hk
 loc:=by
  refine⟨m,hns,fun i x v h1 h2 h3 =>?_⟩
  obtain⟨j,hj,hv⟩:=pick_get h2;obtain⟨hN,hm⟩:=aet C.src h1 hj;obtain⟨mo,_,hlo⟩:=I.loc;have vis:Vis X.env.scope x:=by
   rcases C.out x hm with e | e
   ·exact .inr (.inl e)
   ·exact .inr (.inr e)
  obtain⟨u,r,l⟩:=hlo j x v hN hv vis;refine⟨u,r,.inr ⟨?_,?_⟩⟩
  ·rcases aav (env:=X.env) (C.frk x hm) with e | e
   ·exact .inr e
   ·exact .inl e
  ·rcases l with⟨e,_⟩ | ⟨_,c,hc,z⟩
   ·rcases C.out x hm with q | q
    ·rw[q] at e;cases e
    ·rw[q] at e;cases e
   ·obtain⟨o,ho,hd⟩:=z;exact⟨c,abl hm hc,o,hk c o ho,hd⟩
 cell:=fun x c e=>by
  obtain⟨v,o,ho,hd⟩:=I.cell x c (qy e);exact⟨v,o,hk c o ho,hd⟩
 free:=I.hok.fresh (Nat.le_refl _)
 freeC:=fun x c e=>I.freeC x c (qy e)
 pin:=fun p hp=>absurd (show p∈([]:List (Addr×Obj)) from hp) (by simp)
 hok:=I.hok.kept hk
 len:=by
  unfold pick;rw[List.length_map];exact aes C.src
theorem aly{pins':List (Addr×Obj)}{σ':L2.St}{H':Hp}{s':Shared}{h'':Heap}(I:Inv X jv σ H s)(hf:∀b∈fp,FpOk X jv H b)(J:Inv (cxC X N scope fr fp s H) pins' σ' H' s')
  (hs:Heap.SameBut s.heap.objs.size s'.heap h''):Inv X jv σ H' { s' with heap:=h'' }:=by
 have k:∀b o,b≠s.heap.objs.size->s'.heap.get? b=some o->h''.get? b=some o:=fun b o hb e=>(hs.2 b hb).trans e
 have old:∀b o,s.heap.get? b=some o->b≠s.heap.objs.size:=fun b o e=>Nat.ne_of_lt (Heap.lt_size e)
 have un:Un (frs X.stack) fp H H' s.heap h'':=by
  have u:Un (frs X.stack) fp H H' s.heap s'.heap:=J.base;refine⟨fun b o e n hb hx=>k b o (old b o e) (u.keep b o e n hb hx),fun b o e n hb hx =>?_,u.free,fun b o e hx =>?_,u.tups,u.frzs,u.tbls⟩
  ·obtain⟨sl,q⟩:=u.slot b o e n hb hx;exact⟨sl,k b _ (old b o e) q⟩
  ·obtain⟨o',q⟩:=u.there b o e hx;exact⟨o',k b _ (old b o e) q⟩
 have hok:HOk X.prog X.w H' h'':=fun b u e=>by
  have nC:∀c z,H' c=some z->c≠s.heap.objs.size:=fun c z q w=>by
   have f:H' s.heap.objs.size=none:=J.free;rw[w,f] at q;cases q
  refine(J.hok b u e).stay (fun c v hc q=>k c v ?_ q) (fun _ q=>q) fun _ _ q=>q
  rcases hc with z | z
  ·rw[z];exact nC b u e
  ·exact nC c _ z
 have os:s'.os=s.os:=J.os;refine Inv.call' (s':={ s' with heap:=h'' }) I os un hok J.bare fun b hb =>?_
 obtain⟨_,f1,_,f3,f4,f5⟩:=hf b hb;exact⟨f3,f1,f4,f5⟩
end
def an2(ifs:List Expr)(env:Env):Sem Bool:=forIn ifs true fun c r=>if r=true then do let ok <-isTrue c env (eval c env);pure (ForInStep.yield ok) else pure (ForInStep.yield r)
def PIf(X:Cx)(ifs:List Expr)(t:TT):Prop :=
 ∀(jv:List (Addr×Obj)) (s:Shared) (σ:L2.St) (H:Hp) (Q:Bool->Hp->Prop),Inv X jv σ H s->t σ H Q->wpAny (model X.prog X.w) X.A (an2 ifs X.env) (TP X jv σ Q) X.xe s
def tYes:TT:=fun _ H Q=>Q true H
theorem avl{X:Cx}:PIf X [] tYes:=fun jv s σ H Q I h=>by
 show wpAny _ _ (pure true) _ _ s;exact wpAny_pure ⟨H,I,h⟩
section
variable{prog:Program}{w:World}{A:Around}{R:Result->Shared->Prop}{s:Shared}
theorem compLoop{elt target iter:Expr}{ifs:List Expr}{scope:Scope}{pos:Pos}{it acc:Value}{env:Env}(I:Nat->Shared->Prop)
  (turn:∀n s,I n s->wpAny (model prog w) A (pyNext it) (fun r s₁=>match r with
   | none=>R (.ok .next) s₁
   | some v=>wpAny (model prog w) A (letOwnedTupleGo target it v) (fun _ s₁'=>wpAny (model prog w) A (assign target env v) (fun _ s₂ =>
     wpAny (model prog w) A (an2 ifs env) (fun ok s₃ =>
      if ok=true then wpAny (model prog w) A (eval elt env) (fun x s₄ =>
       wpAny (model prog w) A (call (.builtin "list.append") [acc,x]) (fun _ s₅=>∃m,m < n/\I m s₅) (fun _ _=>False) s₄) (fun _ _=>False) s₃
      else ∃m,m < n/\I m s₃) (fun _ _=>False) s₂) (fun _ _=>False) s₁') (fun _ _=>False) s₁) (fun _ _=>False) s)
  (n:Nat) (h:I n s) :
  codeAny (model prog w) A (.compLoop (.ListComp elt [⟨target,iter,ifs,0⟩] scope pos) 0 it acc env) R s:=by
 refine codeAny_loop rfl I (fun n s hI =>?_) n h
 show wpAny _ A ((compTurn (.ListComp elt [⟨target,iter,ifs,0⟩] scope pos) 0 it acc env).onRaise (fun x=>do noteFrame x env;theTreesLotGoes x)) _ _ s
 refine wpAny_noted ?_;rw[compTurn_list];refine wpAny_bind (wpAny_standAt (wpAny_bind (wpAny_mono (turn n s hI) (fun r s₁ h₁ =>?_) fun _ _ h'=>h'.elim)))
 cases r with
 | none=>exact wpAny_pure h₁
 | some v =>
  refine wpAny_bind (wpAny_mono h₁ (fun _ s₁' h₁' =>?_) fun _ _ h'=>h'.elim)
  refine wpAny_bind (wpAny_mono h₁' (fun _ s₂ h₂=>wpAny_bind (wpAny_mono h₂ (fun ok s₃ h₃ =>?_) fun _ _ h'=>h'.elim)) fun _ _ h'=>h'.elim)
  cases ok with
  | false=>exact wpAny_pure ⟨rfl,h₃⟩
  | true =>
   exact wpAny_bind (wpAny_bind (wpAny_mono h₃ (fun x s₄ h₄=>wpAny_bind (wpAny_mono h₄ (fun _ s₅ h₅=>wpAny_pure (wpAny_pure ⟨rfl,h₅⟩)) fun _ _ h'=>h'.elim)) fun _ _ h'=>h'.elim))
end
def a0v(J:It)(g:TG)(ti:TT)(te:TE)(Q:VK)(d:Addr)(σ0:L2.St)(H1:Hp):Prop :=
 ∃W:Nat->Nat->List V->L2.St->Hp->Prop,(∃m,W 0 m [] σ0 (upd H1 d (.lst [])))/\∀i m ys σ H2,W i m ys σ H2->H2 d=some (.lst ys) /\
  ((J.stop i H2/\Q (.ref d) H2)∨(J.go i H2/\∀x H3,J.yld i H2 x H3->g x σ H3 fun σ4 H4=>ti σ4 H4 fun b H5 =>
   if b=true then te σ4 H5 fun y H6=>H6 d=some (.lst ys)/\ys.length < sizeLine/\∃m',m' < m/\W (i+1) m' (ys++[y]) σ4 (upd H6 d (.lst (ys++[y]))) else ∃m',m' < m/\W (i+1) m' ys σ4 H5))
def aq2(wi:TI)(g:TG)(ti:TT)(te:TE)(src:List (Option Nat)):TE:=fun σ H Q=>wi σ H fun J H1=>∀d,H1 d=none->a0v J g ti te Q d (pick src σ) H1
theorem ajh{X:Cx}{tg iter elt:Expr}{ifs:List Expr}{scope:Scope}{pos:Pos}{J:It}{fp:List Addr}{it d:Addr}{tn:Nat->Heap->Prop}{g:TG}{ti:TT}{te:TE}{Q:VK}{R:Result->Shared->Prop}
  {W:Nat->Nat->List V->L2.St->Hp->Prop} {m0:Nat} {σ0:L2.St} {H0:Hp} {s:Shared} (hc:X.calm=true) (hE:X.xe=fun _ _=>False) (T:Turn X.prog X.w X.K tg J fp it tn)
  (hf:∀H':Hp,(∀b∈fp,H' b=none)->∀b∈fp,FpOk X [] H' b) (hg:PG X tg g) (ht:PIf X ifs ti) (he:PE X elt te)
  (turn:∀i m ys σ H2,W i m ys σ H2->H2 d=some (.lst ys) /\
   ((J.stop i H2/\Q (.ref d) H2)∨(J.go i H2/\∀x H3,J.yld i H2 x H3->g x σ H3 fun σ4 H4=>ti σ4 H4 fun b H5 =>
    if b=true then te σ4 H5 fun y H6=>H6 d=some (.lst ys)/\ys.length < sizeLine/\∃m',m' < m/\W (i+1) m' (ys++[y]) σ4 (upd H6 d (.lst (ys++[y]))) else ∃m',m' < m/\W (i+1) m' ys σ4 H5)))
  (w0:W 0 m0 [] σ0 H0) (I0:Inv X [] σ0 H0 s) (st0:tn 0 s.heap) (fr0:∀b∈fp,H0 b=none)
  (hR:∀σ' H' s',Inv X [] σ' H' s'->Q (.ref d) H'->R (.ok .next) s') :
  codeAny (model X.prog X.w) X.A (.compLoop (.ListComp elt [⟨tg,iter,ifs,0⟩] scope pos) 0 (.ref it) (.ref d) X.env) R s:=by
 have hE':∀e s',X.xe e s'->False:=fun e s' h=>by rw[hE] at h;exact h
 refine compLoop (fun n s'=>∃i ys σ' H',Inv X [] σ' H' s'/\tn i s'.heap/\(∀b∈fp,H' b=none)/\W i n ys σ' H') ?_ m0 ⟨0,[],σ0,H0,I0,st0,fr0,w0⟩
 rintro n s5 ⟨i,ys,σ5,H5,I5,st5,fr5,w5⟩
 obtain⟨hD,alt⟩:=turn i n ys σ5 H5 w5;rcases alt with⟨stop,qn⟩ | ⟨go,step⟩
 ·refine wpAny_mono (T.done X rfl rfl rfl hc i [] s5 σ5 H5 (fun _ _=>False) I5 (hf _ fr5) st5 stop) (fun r s6 ⟨hr,I6⟩ =>?_) fun _ _ e=>e
  subst hr;exact hR σ5 H5 s6 I6 qn
 ·refine wpAny_mono (T.item X rfl rfl rfl hc i [] s5 σ5 H5 (fun _ _=>False) I5 (hf _ fr5) st5 go) (fun r s6 ⟨u,hr,h6⟩ =>?_) fun _ _ e=>e
  subst hr;refine wpAny_mono h6 (fun _ s7 ⟨x,H7,I7,r7,y7,st7,fr7⟩ =>?_) fun _ _ e=>e
  have I7':=I7.pinned (hf _ fr7) (T.obj _ _ st7);have again:∀{σ':L2.St} {H':Hp} {s':Shared} {ys':List V} {m':Nat},Inv X ([]++ain fp s7.heap) σ' H' s'->W (i+1) m' ys' σ' H'->∃i ys σ' H',Inv X [] σ' H' s'/\tn i s'.heap/\(∀b∈fp,H' b=none)/\W i m' ys σ' H':=fun{σ' H' s' ys' m'} Ia wa=>by
   refine⟨i+1,ys',σ',H',Ia.unpinned,T.keep _ _ _ st7 fun b hb o e=>(Ia.pin (b,o) (List.mem_append_right _ (List.mem_append_right _ (abg hb e)))).1,fun b hb =>?_,wa⟩
   obtain⟨o,e,d⟩:=T.obj _ _ st7 b hb;exact(Ia.pin (b,o) (List.mem_append_right _ (List.mem_append_right _ (abg hb e)))).2.1
  refine wpAny_mono (hg _ s7 σ5 H7 x u _ I7' r7 (step x H7 y7)) (fun _ s8 ⟨σ8,H8,I8,q8⟩ =>?_) hE'
  refine wpAny_mono (ht _ s8 σ8 H8 _ I8 q8) (fun ok s9 ⟨H9,I9,q9⟩ =>?_) hE'
  cases ok with
  | false =>
   rw[if_neg Bool.false_ne_true] at q9 ⊢
   obtain⟨m',hm,wa⟩:=q9;exact⟨m',hm,again I9 wa⟩
  | true =>
   rw[if_pos rfl] at q9 ⊢
   refine wpAny_mono (he _ s9 σ8 H9 _ I9 q9) (fun z s10 ⟨y,H10,I10,r10,hd10,hz,m',hm,wa⟩ =>?_) hE'
   refine wpAny_mono (acy _ s10 σ8 H10 (.ref d) [y] (.ref d) [z] (fun _ H'=>H'=upd H10 d (.lst (ys++[y]))) I10 rfl (.cons r10 .nil) ⟨d,ys,y,rfl,rfl,hd10,hz,rfl⟩) (fun _ s11 ⟨_,H11,I11,_,e11⟩ =>?_) hE'
   subst e11;exact⟨m',hm,again I11 wa⟩
theorem avs{X:Cx}{tg iter elt:Expr}{ifs:List Expr}{scope:Scope}{pos:Pos}{wi:TI}{g:TG}{ti:TT}{te:TE}(fr N:List Str)(src:List (Option Nat))(hc:X.calm=true)(hi:PI X tg iter wi)
  (hg:∀fp s H,PG (cxC X N scope fr fp s H) tg g) (ht:∀fp s H,PIf (cxC X N scope fr fp s H) ifs ti) (he:∀fp s H,PE (cxC X N scope fr fp s H) elt te)
  (hok:afo X.env X.N scope fr N src=true:=by rfl) (hkind:scope.kind=.function:=by rfl) (hclos:closureFor scope X.env=pure (xf X.env fr):=by rfl)
  (hs:∀x,foldedSetIterable iter X.env x=pure x:=by intro _;rfl):PE X (.ListComp elt [⟨tg,iter,ifs,0⟩] scope pos) (aq2 wi g ti te src):=by
 have C:=CompOk.of hok;intro jv s σ H Q I h;rw[eval_ListComp];refine wpAny_comprehension_free (use:=none) rfl hs hclos hkind C.loc (wpAny_mono (hi jv s σ H _ I h) (fun v s1 h1=>wpAny_mono h1 (fun itv s2 h2 =>?_) fun _ _ e=>e) fun _ _ e=>e)
 obtain⟨it,fp,tn,J,H2,e,I2,T,st2,f2,q2⟩:=h2;subst e;have hd0:H2 s2.heap.objs.size=none:=I2.hok.fresh (Nat.le_refl _);obtain⟨W,⟨m0,w0⟩,turn⟩:=q2 s2.heap.objs.size hd0;refine wpAny_newObj_type ?_;generalize hs3:({ s2 with heap:=s2.heap.push { cls:=.type "list", dict:=none,data:=.seq ([]:List Value).toArray } }:Shared)=s3
 have keep2:∀b o,s2.heap.get? b=some o->s3.heap.get? b=some o:=fun b o e=>by rw[<-hs3];exact Heap.get?_push_of_some _ e
 have I3:Inv X jv σ (upd H2 s2.heap.objs.size (.lst [])) s3:=by
  rw[<-hs3];exact I2.laid (t':=s2.toks) (fun b u q=>Heap.get?_push_of_some _ q) (Nat.le_refl _) ⟨Nat.zero_le _,[],0,.nil,Heap.get?_push_size _ rfl⟩
 have ne0:∀b∈fp,b≠s2.heap.objs.size:=fun b hb=>by
  obtain⟨o,e,_⟩:=T.obj _ _ st2 b hb;exact Nat.ne_of_lt (Heap.lt_size e)
 have f3:∀b∈fp,FpOk X jv (upd H2 s2.heap.objs.size (.lst [])) b:=fun b hb=>⟨by rw[b8 (ne0 b hb)];exact(f2 b hb).1,(f2 b hb).2⟩
 have lt3:∀b∈fp,b < s3.heap.objs.size:=fun b hb=>by
  obtain⟨o,e,_⟩:=T.obj _ _ st2 b hb;exact Heap.lt_size (keep2 b o e)
 refine wpAny_newFunctionEnv C.cell (by intro y hy;simp at hy) (fun h₁ hns₁ hsb₁ =>?_) hkind
 have keep3:∀b o,s3.heap.get? b=some o->h₁.get? b=some o:=fun b o e=>hsb₁.extBut b o (Nat.ne_of_lt (Heap.lt_size e)) (Heap.get?_push_of_some _ e)
 have st4:tn 0 h₁:=T.keep _ _ _ st2 fun b hb o e=>keep3 b o (keep2 b o e)
 have I4:=alx (tk:=s3.toks+([]:List (Str×Value)).length) I3 C hkind f3 lt3 hns₁ keep3;have loop:=ajh (X:=cxC X N scope fr fp s3 (upd H2 s2.heap.objs.size (.lst []))) (iter:=iter) (scope:=scope) (pos:=pos) (d:=s2.heap.objs.size)
  (R:=compPost (model X.prog X.w) X.A X.xe none (EP X jv σ Q) (.ref s2.heap.objs.size) s3.heap.objs.size) hc rfl T
  (fun H' hn b hb=>⟨hn b hb,Nat.ne_of_lt (lt3 b hb),I4.ok.exfs b hb,.inl hb,(I4.ok.exf b hb).2,fun p hp=>absurd (show p∈([]:List (Addr×Obj)) from hp) (by simp)⟩)
  (hg fp s3 _) (ht fp s3 _) (he fp s3 _) turn w0 I4 st4 (fun b hb=>(f3 b hb).1) (fun σ' H' s' I6 qn=>by
   obtain⟨m6,hn6,_⟩:=I6.loc;exact⟨m6,hn6,fun h'' hs''=>⟨.ref s2.heap.objs.size,H',aly I3 f3 I6 hs'',rfl,qn⟩⟩)
 exact codeAny_compStart_list loop (T.self _ 0 _ _ _ st4 loop)
theorem Same.new{H:Hp}{p:Addr}(h:H p=none)(o:HO):Same H (upd H p o):=fun b u q=>by rw[b8 (ig q h)];exact q
structure ItOf (J:It) (xs:List V) (S:Hp->Prop):Prop where
 go:∀i H,S H->i < xs.length->J.go i H
 yld:∀i H x H',S H->J.yld i H x H'->H'=H/\(i < xs.length->xs[i]? = some x)
 stop:∀i H,S H->xs.length<=i->J.stop i H
theorem asf{K:Fg9}{a:Addr}{xs:List V}:ItOf (Itt K a) xs fun H=>SqT K H a xs :=
 ⟨fun i H h hi=>⟨xs,xs[i],h,by simp[hi]⟩,fun i H x H' h y=>⟨y.1,fun _=>y.2 xs h⟩,fun i H h hi=>⟨xs,h,hi⟩⟩
theorem alw{K:Fg9}{a:Addr}{xs:List V}:ItOf (Itl K a) xs fun H=>SqL K H a xs :=
 ⟨fun i H h hi=>⟨xs,xs[i],h,by simp[hi]⟩,fun i H x H' h y=>⟨y.1,fun _=>y.2 xs h⟩,fun i H h hi=>⟨xs,h,hi⟩⟩
def ups(lo:Int)(n:Nat):List V:=(List.range n).map fun i=>V.int (lo+(i:Nat))
theorem aj0(lo:Int)(n:Nat):(ups lo n).length=n:=by simp[ups]
theorem auo{lo:Int}{n i:Nat}(h:i < n):(ups lo n)[i]? = some (.int (lo+(i:Nat))):=by
 unfold ups;rw[List.getElem?_map,List.getElem?_range h];rfl
theorem ash{lo:Int}{n:Nat}:ItOf (Itr lo n) (ups lo n) fun _=>True :=
 ⟨fun i H _ hi=>by rw[aj0] at hi;exact hi,fun i H x H' _ y=>⟨y.1,fun hi=>by rw[aj0] at hi;rw[auo hi,y.2]⟩,fun i H _ hi=>by rw[aj0] at hi;exact hi⟩
section
variable{X:Cx}
def rAll(K:Fg9):List V->Hp->VK->Prop:=fun xs H Q=>∃(p:Addr) (bs:List Bool),xs=[.ref p]/\SqL K H p (bs.map V.bl)/\Q (.bl (bs.all id)) H
theorem as9(hc:X.calm=true):acg X (.builtin "all") (rAll X.K):=by
 intro jv s σ H xs us Q I r h;obtain⟨p,bs,rfl,hq,q⟩:=h;obtain⟨u,rfl,ru⟩:=vals1 r;cases ru;obtain⟨its,rv,pl,hz⟩:=I.list hq;have hl:=pl.isList;have hlen:=rv.length;rw[List.length_map] at hlen;have hlt:p < s.heap.objs.size:=by obtain⟨_,e,_⟩:=hl;exact Heap.lt_size e
 refine call_all_walk (wpAny_pyIter_list hl ?_);refine⟨s.heap.objs.size,[s.heap.objs.size,p],[s.heap.objs.size],its.toArray.size,_,_,fun i=>(bs[i]?).getD true,rfl,Walks.list (A:=X.A.in1) (I.ok.hd hc) _ p (Nat.ne_of_lt hlt) its.toArray,
  ⟨⟨_,Heap.get?_push_size _ rfl,rfl,rfl⟩,hl.push _⟩,fun i v s' Q' E' hP hQ =>?_,fun h' tk hk =>?_⟩
 ·have hi:its[i]? = some v:=by simpa using hP
  cases e:bs[i]? with
  | none =>
   have h1:bs.length<=i:=List.getElem?_eq_none_iff.mp e;have h2:i < its.length:=(List.getElem?_eq_some_iff.mp hi).1;omega
  | some b =>
   obtain⟨u,hu,ru⟩:=rv.get (i:=i) (x:=V.bl b) (by rw[List.getElem?_map,e];rfl)
   rw[hi] at hu;cases hu;obtain rfl:v=Value.bool b:=ru;simp only[e,Option.getD_some] at hQ;exact wpAny_truthy_bool hQ
 ·have e:((List.range its.toArray.size).all fun i=>(bs[i]?).getD true)=bs.all id:=by
   rw[List.size_toArray,<-hlen];exact LSm.range_all bs
  rw[e];exact⟨.bl (bs.all id),H,I.kept (t':=tk) (LSm.kept_iter hk),rfl,q⟩
end
def Dfn(P:Program)(w:World)(K:Fg9)(mg:Str->Option Value)(base:Heap)(x:Str)(ps:List Str)(k:Nat)(sp:Sp):Prop :=
 ∃(f:Addr) (fd:FuncData),FnOk P w K mg base CX0 k f fd ps sp/\mg x=some (.ref f)/\keepIn K (.ref f)=true/\Binds K fd ps []
section
variable{X:Cx}{x:Str}{ps:List Str}{k:Nat}{sp:Sp}{e:Expr}{es:List Expr}{t:TA}{p pos:Pos}
theorem a2r(F:Dfn X.prog X.w X.K X.mg X.base x ps k sp)(hr:Room k X.A)(hg:Gl X x)(ha:PA X (e::es) t)(hdb:(x==("__debug__" : Str))=false:=by decide)
  (he:starEach (e::es) X.env=(false,eval e X.env)::starEach es X.env:=by rfl) (hpl:(backTo pos (starEach es X.env)).any (·.1)=false:=by rfl):PE X (.Call (.Name x p) (e::es) [] pos) (auw sp [] E0 t):=by
 obtain⟨f,fd,F,hm,hk,hb⟩:=F;exact avu F hr hg hm hk hb .nil a2t ha hdb he hpl
theorem afw{T:String}(hg:Gl X x)(hm:X.mg x=none)(hv:bootBuiltins x=some (.type T))(hn:x ≠ "__name__" := by decide)(hd:(x==("__debug__" : Str))=false:=by decide):PE X (.Name x pos) (tC (.ty T)) :=
 avv hg hm hv rfl hn hd
end
section
variable{X:Cx}
end
section
variable{prog:Program}{w:World}{A:Around}{E:Value->Shared->Prop}{s:Shared}
theorem as7{t b:Addr}{vs ws:List Value}{Q:Value->Shared->Prop}(ht:IsTup s.heap t vs.toArray)(hb:IsTup s.heap b ws.toArray)(hv:vs=[])(h:Q (.ref b) s):wpAny (model prog w) A (binaryOp .Add (.ref t) (.ref b)) Q E s:=by
 obtain⟨⟨cls,dd,data,sl⟩,ho,hc,n,hd⟩:=id ht;obtain⟨⟨cls2,dd2,data2,sl2⟩,ho2,hc2,n2,hd2⟩:=id hb;simp only at hc hd hc2 hd2;subst hc hd hc2 hd2;exact concat_meets ⟨_,ho,rfl⟩ ⟨_,ho2,rfl⟩ noFill_tuple_add seq_tuple_add PySem.F.slot_tuple_add PySem.F.entry_tuple_add (PySem.F.args_tuple_add_2 _ _)
  (tuple_addW0 t b vs.toArray ws.toArray n n2 dd dd2 sl sl2 (by simp[hv])) ⟨ho,ho2,h⟩
end
section
variable{X:Cx}
end
section
variable{X:Cx}
def axt(x:Str)(n:Int):TE:=fun _ H Q=>∀p,H p=none->Q (.ref p) (upd H p (.dK [(Sum.inr x,.int n)]))
theorem arn{x:Str}{n:Int}{j1 j2:Nat}{p1 p2 pos:Pos}:PE X (.Dict [some (.Constant (.str x) j1 p1)] [.Constant (.int n) j2 p2] pos) (axt x n):=by
 intro jv s σ H Q I q;have big:sysModules < s.heap.objs.size:=by
  have h:mainGlobals < s.heap.objs.size:=(I.mod.glob.keeps I.bk).lt;exact Nat.lt_trans (by decide) h
 have hn:=I.hok.fresh (Nat.le_refl s.heap.objs.size);refine wpAny_Dict_walk (knd:=ahj X.prog X.w) rfl rfl (by simp) (by show 1<=15;decide) ?_
 refine pairTrees_cons_walk (Calls.Constant_str (wpAny_Constant_int (pairTrees_nil_walk ?_)));refine⟨[((Sum.inr x:Key),Value.int n (s.toks+1))],⟨ake X.prog X.w x s.toks,rfl,True.intro⟩,Heap.DictOf.new s.heap,fun h' dd hs =>?_⟩
 refine⟨.ref s.heap.objs.size,upd H s.heap.objs.size (.dK [(Sum.inr x,.int n)]),?_,rfl,q _ hn⟩;refine I.laid (fun b u e=>hs.extBut b u (Nat.ne_of_lt (Heap.lt_size e)) (Heap.get?_push_of_some _ e)) (Nat.le_refl _) ?_
 exact⟨by show 1<=sizeLine;decide,beq_eq_false_iff_ne.mpr (Ne.symm (Nat.ne_of_lt big)),_,.cons ⟨rfl,_,rfl⟩ .nil,dd⟩
end
theorem aad:fillsNumberSlot (.type "tuple") "mul" = pure false :=
 PySem.fillsNumberSlot_seq (id := "tuple.__mul__") (r:=some (.builtin "tuple.__rmul__")) F.slot_tuple_mul.lookup (by decide +kernel) F.slot_tuple_rmul.lookup (by decide +kernel)
theorem ad2:seqRepeat? (.type "tuple")=pure (some (.builtin "tuple.__mul__")):=by
 unfold seqRepeat?;rw[PySem.seqSlot_of (T := "tuple") (name := "__mul__") (id := "tuple.__mul__") F.slot_tuple_mul.lookup (by decide +kernel),PySem.seqSlot_of (T := "tuple") (name := "__rmul__") (id := "tuple.__rmul__") F.slot_tuple_rmul.lookup (by decide +kernel)]
 rfl
theorem abq(a:Int)(t:Tok)(l:Addr)(items:Array Value)(n:Nat)(dd:Option Addr)(sl:Array (Option Value)) :
  Meets (Builtin.«int.__rmul__» ⟨[.int a t,.ref l],[]⟩) (fun _ R s=>s.heap.get? l=some { cls:=.type "tuple", dict:=dd,data:=.seq items n,slots:=sl }/\R (.ok (.ret Value.notImplemented)) s) :=
 .of_wp fun prog w A R s h=>by obtain⟨hp,g,d,tk,os⟩:=s;obtain⟨hl,h⟩:=h;wp_walk;exact⟨_,rfl,h⟩
theorem amm(l:Addr)(items:Array Value)(n:Nat)(dd:Option Addr)(sl:Array (Option Value))(x:Int)(u:Tok)(h0:items.isEmpty=false)(h2:2<=x)(h63:x < 2 ^ 63)(hsz:items.size*x.toNat<=sizeLine) :
  Meets (Builtin.«tuple.__mul__» ⟨[.ref l,.int x u],[]⟩) (fun _ R s=>s.heap.get? l=some { cls:=.type "tuple", dict:=dd,data:=.seq items n,slots:=sl } /\
   R (.ok (.ret (Value.ref s.heap.objs.size))) { s with heap:=s.heap.push { cls:=Value.type "tuple", data:=Data.seq (List.foldl (fun x1 x2=>x1++x2) #[] (List.replicate x.toNat items)) },toks:=s.toks }) :=
 .of_wp fun prog w A R s h=>by
  obtain⟨hp,g,d,tk,os⟩:=s;obtain⟨hl,h⟩:=h;have c1:(decide (x < -2 ^ 63)||decide (x≥2 ^ 63))=false:=by
   rw[Bool.or_eq_false_iff];exact⟨decide_eq_false (by omega),decide_eq_false (by omega)⟩
  have c2:(items.isEmpty||x==1)=false:=by
   rw[h0,Bool.false_or,beq_eq_false_iff_ne];omega
  have c3:(decide (x<=0)||items.isEmpty)=false:=by
   rw[h0,Bool.or_false];exact decide_eq_false (by omega)
  have e4:((items.size:Int)*x)=((items.size*x.toNat:Nat):Int):=by
   have:x=(x.toNat:Int):=by omega
   rw[Int.natCast_mul,<-this]
  have h4:(sizeLine:Int)<=(2 ^ 63 - 1) / 8:=by decide
  have c4:¬((items.size:Int)*x > (2 ^ 63 - 1) / 8):=by rw[e4];omega
  have c5:Builtin.Tuple.tupleTooMany ((items.size:Int)*x)=false:=by
   unfold Builtin.Tuple.tupleTooMany;rw[e4];exact decide_eq_false (by omega)
  wp_walk;refine wpAny_ite_false (by rw[c1];rfl) ?_
  wp_walk;refine wpAny_ite_false (by rw[c2];rfl) ?_
  try dsimp only
  refine wpAny_ite_false (by rw[c3];rfl) ?_
  try dsimp only
  refine wpAny_ite_false (decide_eq_false c4) ?_
  try dsimp only
  refine wpAny_ite_false (by rw[c5];rfl) ?_
  have hso:sizeOk (.seq (List.foldl (fun x1 x2=>x1++x2) #[] (List.replicate x.toNat items))):=by
   show(List.foldl (fun x1 x2=>x1++x2) #[] (List.replicate x.toNat items)).size<=sizeLine
   have hn:=foldl_rep items.toList x.toNat [];rw[List.nil_append] at hn;have hn':List.foldl (fun x1 x2=>x1++x2) #[] (List.replicate x.toNat items)=(List.replicate x.toNat items.toList).flatten.toArray:=hn
   rw[hn',List.size_toArray,len_rep,Array.length_toList,Nat.mul_comm];exact hsz
  refine wpAny_bind (m:=Builtin.Tuple.tupleExact _) (wpAny_newObj_type (wpAny_pure ⟨_,rfl,h⟩) hso)
theorem amn(l:Addr)(items:Array Value)(n:Nat)(dd:Option Addr)(sl:Array (Option Value))(x:Int)(u:Tok)(hx:x=1) :
  Meets (Builtin.«tuple.__mul__» ⟨[.ref l,.int x u],[]⟩) (fun _ R s=>s.heap.get? l=some { cls:=.type "tuple", dict:=dd,data:=.seq items n,slots:=sl }/\R (.ok (.ret (Value.ref l))) s) :=
 .of_wp fun prog w A R s h=>by
  obtain⟨hp,g,d,tk,os⟩:=s;obtain⟨hl,h⟩:=h;have c1:(decide (x < -2 ^ 63)||decide (x≥2 ^ 63))=false:=by
   rw[Bool.or_eq_false_iff];exact⟨decide_eq_false (by omega),decide_eq_false (by omega)⟩
  have c2:(items.isEmpty||x==1)=true:=by rw[hx];simp
  wp_walk;exact⟨_,rfl,h⟩
section
variable{X:Cx}
theorem avy:OpR X (binaryOp .Mult) (fun x y H Q=>∃a xs,x=.ref a/\y=.int 1/\H a=some (.tup xs)/\Q (.ref a) H):=by
 intro jv s σ H x y v u Q I rx ry h;obtain⟨a,xs,rfl,rfl,ha,q⟩:=h;cases rx;obtain⟨t,rfl⟩:=ry;obtain⟨its,r1,p1,_⟩:=I.tuple (SqT.of ha);obtain⟨⟨cls,dd,data,sl⟩,ho,hc,n,hd⟩:=id p1;simp only at hc hd;subst hc hd;exact wpAny_binaryOp_repeat_ref (T := "tuple") (U := "int") (by decide) ⟨_,ho,rfl⟩ (fun s'=>typeIs_int s' 1 t) aad F.fills_int_mul F.slot_int_rmul ad2 F.slot_int_index.lookup
  (call_meets F.slot_int_rmul (typeIs_int s 1 t) F.entry_int_rmul (F.args_int_rmul_2 _ _) (abq 1 t a its.toArray n dd sl)
   ⟨ho,rfl,⟨_,ho,rfl⟩,call_meets F.slot_tuple_mul ⟨_,ho,rfl⟩ F.entry_tuple_mul (F.args_tuple_mul_2 _ _) (amn a its.toArray n dd sl 1 t rfl) ⟨ho,⟨.ref a,H,I,rfl,q⟩⟩⟩)
def ax5:R2:=fun x y H Q=>∃a xs k,x=.ref a/\y=.int k/\H a=some (.tup xs)/\xs≠[]/\2<=k/\k < 2 ^ 63/\xs.length*k.toNat<=sizeLine/\∀p,H p=none->Q (.ref p) (upd H p (.tup (List.replicate k.toNat xs).flatten))
theorem ars:OpR X (binaryOp .Mult) ax5:=by
 intro jv s σ H x y v u Q I rx ry h;obtain⟨a,xs,k,rfl,rfl,ha,hx,h2,h63,hz,q⟩:=h;cases rx;obtain⟨t,rfl⟩:=ry;obtain⟨its,r1,p1,_⟩:=I.tuple (SqT.of ha);obtain⟨⟨cls,dd,data,sl⟩,ho,hc,n,hd⟩:=id p1;simp only at hc hd;subst hc hd;have hnew:List.foldl (fun x1 x2=>x1++x2) #[] (List.replicate k.toNat its.toArray)=(List.replicate k.toNat its).flatten.toArray:=by
  have:=foldl_rep its k.toNat [];rw[List.nil_append] at this;exact this
 refine wpAny_binaryOp_repeat_ref (T := "tuple") (U := "int") (by decide) ⟨_,ho,rfl⟩ (fun s'=>typeIs_int s' k t) aad F.fills_int_mul F.slot_int_rmul ad2 F.slot_int_index.lookup
  (call_meets F.slot_int_rmul (typeIs_int s k t) F.entry_int_rmul (F.args_int_rmul_2 _ _) (abq k t a its.toArray n dd sl)
   ⟨ho,rfl,⟨_,ho,rfl⟩,call_meets F.slot_tuple_mul ⟨_,ho,rfl⟩ F.entry_tuple_mul (F.args_tuple_mul_2 _ _) (amm a its.toArray n dd sl k t ?_ h2 h63 ?_) ⟨ho,?_⟩⟩)
 ·cases its with
  | nil=>exact absurd (r1.nil_iff.mp rfl) hx
  | cons _ _=>rfl
 ·rw[List.size_toArray,<-r1.length];exact hz
 ·rw[hnew];refine⟨.ref s.heap.objs.size,_,I.laid (t':=s.toks) (o:=.tup (List.replicate k.toNat xs).flatten) (fun b ob q=>Heap.get?_push_of_some _ q) (Nat.le_refl _) ?_,rfl,q _ (I.hok.fresh (Nat.le_refl _))⟩
  exact⟨by rw[len_rep,Nat.mul_comm];exact hz,_,r1.rep k.toNat,IsTp.new _ _⟩
end
section
variable{prog:Program}{w:World}{A:Around}{E:Value->Shared->Prop}{s:Shared}
theorem ab6{t sl:Addr}{items:Array Value}{vl vu:Value}{lo hi:Option Int}{Q:Value->Shared->Prop}(ht:IsTup s.heap t items)(hs:s.heap.IsSliceOf sl vl vu .none)(pl:IsPart vl lo)(pu:IsPart vu hi)
  (h1:HT.sIx items.size 0 lo=0) (h2:HT.sIx items.size items.size hi=items.size) (h:Q (.ref t) s):wpAny (model prog w) A (getItem (.ref t) (.ref sl)) Q E s:=by
 obtain⟨os,hos,hcs,hds⟩:=id hs;have hTs:s.TypeIs (.ref sl) "slice" := ⟨os,hos,hcs⟩;unfold getItem
 try with_reducible refine wpAny_holding ?_
 first | refine wpAny_bind (wpAny_pure ?_) | skip
 refine wpAny_bind (wpAny_sequenceKey ht.typeIs (by decide) ?_)
 refine wpAny_bind (wpAny_callSpecial?_slot (name:=Str.ofString "__getitem__") ht.typeIs PyProof.Rows.slot_tuple_getitem
  (wpAny_call_entry PyProof.Rows.slot_tuple_getitem ht.typeIs entry_tuple_getitem ?_ (args_tuple_getitem _ _)))
 show wpAny _ _ (Builtin.Tuple.tupleItemsOf (.ref t) >>= _) _ _ s;refine wpAny_bind (tupleItemsOf_ ht ?_);refine wpAny_bind (wpAny_typeOf hTs ?_);rw[if_pos (by decide)]
 refine wpAny_bind (HT.aaa hs pl pu ?_);have hyes:(((HT.sIx items.size 0 lo:Nat):Int)==0&&(1:Int)==1&&(HT.sIx items.size items.size hi - HT.sIx items.size 0 lo)==items.size)=true:=by
  rw[h1,h2];simp
 show wpAny _ _ (if (((HT.sIx items.size 0 lo:Nat):Int)==0&&(1:Int)==1&&(HT.sIx items.size items.size hi - HT.sIx items.size 0 lo)==items.size)=true then _ else _) _ _ s
 rw[if_pos hyes];refine wpAny_bind (wpAny_bind (wpAny_typeOf ht.typeIs (wpAny_pure ?_)));rw[if_pos (by decide)]
 exact wpAny_bind (wpAny_rule (wpAny_pure ⟨_,rfl,wpAny_pure h⟩))
end
section
variable{X:Cx}
end
section
variable{X:Cx}(K:Fg9)(hK:X.K=K)
include hK
variable{tg:Expr}
end
theorem jx:bootBuiltins "len" = some (.builtin "len"):=by decide +kernel
theorem ago:bootBuiltins "all" = some (.builtin "all"):=by decide +kernel
theorem bj:bootBuiltins "isinstance" = some (.builtin "isinstance"):=by decide +kernel
theorem a0o:bootBuiltins "max" = some (.builtin "max"):=by decide +kernel
theorem a0n:bootBuiltins "min" = some (.builtin "min"):=by decide +kernel
theorem aqe:bootBuiltins "sum" = some (.builtin "sum"):=by decide +kernel
theorem ajp:bootBuiltins "sorted" = some (.builtin "sorted"):=by decide +kernel
theorem aqg:bootBuiltins "divmod" = some (.builtin "divmod"):=by decide +kernel
theorem aqf:bootBuiltins "int" = some (.type "int"):=by decide +kernel
theorem akv:bootBuiltins "bool" = some (.type "bool"):=by decide +kernel
theorem xg:bootBuiltins "tuple" = some (.type "tuple"):=by decide +kernel
theorem ah4:bootBuiltins "list" = some (.type "list"):=by decide +kernel
theorem a0m:bootBuiltins "set" = some (.type "set"):=by decide +kernel
theorem ajq:bootBuiltins "enumerate" = some (.type "enumerate"):=by decide +kernel
structure ExcK (K:Fg9) (C:Addr):Prop where
 ga:findIn K (.ref C) "__getattribute__" = some (some (.builtin "BaseException.__getattribute__"))
 gh:findIn K (.ref C) "__getattr__" = some none
 be:PySem.W.mroIn K C (.type "BaseException")=some true
 hd:PySem.W.hasDictIn K C=true
 cl:findIn K (.ref C) "__class__" = some (some (.builtin "object.__class__"))
 sp:PySem.W.specialIn K (.builtin "object.__class__") "__get__" = some (some (.builtin "getset_descriptor.__get__"))
 tk:PySem.W.takesIn K (.builtin "object.__class__")=some true
 ob:PySem.W.mroIn K C (.type "object")=some true
 no:∀T∈["int","bool","tuple","list","str","dict"],PySem.W.subIn K (.ref C) (.type T)=some false
theorem aks{K:Fg9}{C:Addr}{od:Option Obj}{name:Str}{a g:Value}(hc:(PySem.W.clsIn K C).isSome=true)(ha:findIn K (.ref C) name=some (some a))(hg:PySem.W.specialIn K a "__get__" = some (some g))(ht:PySem.W.takesIn K a=some true):PySem.W.findObj K C od name=some (.bind g a):=by
 obtain⟨cd,hc⟩:=Option.isSome_iff_exists.mp hc;unfold PySem.W.findObj;rw[hc,Option.bind_some,ha,Option.bind_some];simp[hg,ht]
section
variable{prog:Program}{w:World}{A:Around}{E:Value->Shared->Prop}{s:Shared}{K:Fg9}{x D:Addr}{ox:Obj}{od:Option Obj}{name:Str}
theorem asu{fill expr:Bool}{tk:Tok}{Q:Value->Shared->Prop}(X:K.In s.heap)(I:PySem.W.InstAt s.heap x ox D od)(k:ExcK K D)
  (h:wpAny (model prog w) A.in1 (Builtin.«object.__getattribute__» ⟨[.ref x,.str name tk],[]⟩)
   (fun fin s'=>match fin with | .done (.ret v)=>wpAny (model prog w) A (handedOut v) Q E s' | _=>False) (fun _ _=>False) s) :
  wpAny (model prog w) A (getAttrBy (.ref x) (.str name tk) fill expr) Q E s:=by
 obtain⟨hh,g,d,t,os⟩:=s;have L0:=I.type (M:=model prog w);have L1:=PySem.W.looks_findIn (M:=model prog w) X k.ga;have L2:=PySem.W.looks_findIn (M:=model prog w) X k.gh;have L3:PySem.W.Looks (model prog w) hh (isInstance (.ref x) (.type "BaseException")) true:=L0.andThen (PySem.W.looks_mroIn X k.be);unfold getAttrBy;refine wpAny_holding (wpAny_bind (L0.at (wpAny_bind (L1.at ?_))));have hx2:(Value.builtin "BaseException.__getattribute__" == Value.builtin "object.__getattribute__")=false:=by decide +kernel
 have hx1:(onTheHeap (Value.ref D)&&Value.builtin "BaseException.__getattribute__" == Value.builtin "object.__getattribute__")=false:=by rw[hx2,Bool.and_false]
 simp only[hx1,Bool.false_eq_true,if_false];unfold getAttrByItsOwn hookBefore;rw[if_pos (show onTheHeap (Value.ref D)=true from rfl)]
 refine wpAny_bind ?_;refine L2.at (wpAny_bind (wpAny_attempt (wpAny_holding ?_)));have hx0:(expr&&onTheHeap (Value.builtin "BaseException.__getattribute__"))=false:=by cases expr <;> rfl
 unfold callGetattribute;rw[if_neg (by rw[hx0];exact Bool.false_ne_true)]
 unfold boundAndCalled;refine wpAny_bind (wpAny_of_eq (PySem.F.attr_ValueError.ga.bind (.ref x)) ?_);have hk1:builtinKind "BaseException.__getattribute__" = some .slot:=by decide +kernel
 have hs1:splitId "BaseException.__getattribute__" = some ("BaseException","__getattribute__"):=by decide +kernel
 have ha1:=PySem.F.args_bexc_ga (.ref x) (.str name tk);dsimp only[List.cons_append,List.nil_append];refine wpAny_call (codeAny_call_builtin (id := "BaseException.__getattribute__") (args:=⟨[.ref x,.str name tk],[]⟩) PySem.F.attr_ValueError.ga.plain PySem.F.entry_bexc_ga ?_);refine PySem.W.check_slot (i := "BaseException.__getattribute__") (owner := "BaseException") (n := "__getattribute__") (self:=.ref x) (rest:=[.str name tk]) (kw:=[]) hk1 hs1 L3 ha1 ?_;refine wpAny_mono h (fun fin s' z =>?_) fun _ _ z=>z.elim
 rcases fin with(_ | _ | _ | _) | _ <;> first | exact z | exact z.elim
theorem asv{g a:Value}{tk:Tok}{P:Value->Shared->Prop}(X:K.In s.heap)(I:PySem.W.InstAt s.heap x ox D od)(hf:PySem.W.findObj K D od name=some (.bind g a))
  (h:wpAny (model prog w) A (call g [a,.ref x,.ref D]) P E s) :
  wpAny (model prog w) A (Builtin.«object.__getattribute__» ⟨[.ref x,.str name tk],[]⟩) (fun fin s'=>match fin with | .done (.ret v)=>P v s' | _=>False) E s:=by
 obtain⟨hh,gg,d,t,os⟩:=s;have L0:=I.type (M:=model prog w);have L1:=PySem.W.looks_find (M:=model prog w) X I hf;unfold Builtin.«object.__getattribute__»
 refine wpAny_bind (wpAny_pure (wpAny_bind (wpAny_pure (wpAny_bind (L0.at (wpAny_bind (L1.at ?_)))))));show wpAny _ _ (Builtin.ObjectAttr.bindTo g a (.ref x) (.ref D)) _ _ _;show wpAny _ _ (holding [a] (call g [a,.ref x,.ref D]) >>= ret) _ _ _;exact wpAny_bind (wpAny_holding (wpAny_mono h (fun v s' z=>wpAny_pure z) fun _ _ z=>z))
end
theorem alv{K:Fg9}{x D:Addr}(k:ExcK K D):PySem.W.KitX K (.ref x) (.ref D) (fun h=>∃ox od,PySem.W.InstAt h x ox D od) where
 ty:=fun _ _ _ ⟨_,_,I⟩=>I.type
 it:=fun _ _ X _=>by
  obtain⟨cdD,hcD,_⟩:=PySem.W.any_some k.hd;unfold PySem.W.clsIn at hcD;split at hcD
  ·rename_i c' d' cd' sl' ho;intro A' Q' E' s' k q;unfold isType loadHead;exact wpAny_bind (wpAny_loadPart (k _ _ (X _ _ ho)) (wpAny_pure q))
  ·cases hcD
 ne:=fun h tp dd its n sl X htp=>by
  obtain⟨cdD,hcD,_⟩:=PySem.W.any_some k.hd;refine Bool.eq_false_iff.mpr fun q =>?_
  have e:D=tp:=Value.ref.inj (beq_iff_eq.mp q);subst e;unfold PySem.W.clsIn at hcD;split at hcD
  ·rename_i c' d' cd' sl' ho;have z:=(X _ _ ho).symm.trans htp;cases z
  ·cases hcD
 ca:=fun{prog w A E Q s} X ⟨ox,od,I⟩ q=>by
  have hf:PySem.W.findObj K D od "__class__" = some (.bind (.builtin "getset_descriptor.__get__") (.builtin "object.__class__")):=aks (by obtain⟨cd,hc,_⟩:=PySem.W.any_some k.hd;rw[hc];rfl) k.cl k.sp k.tk
  unfold getAttr? getAttrBy?;refine wpAny_bind (wpAny_mkText (wpAny_bind (wpAny_attempt (asu (s:={ s with toks:=s.toks+1 }) X I k (asv (s:={ s with toks:=s.toks+1 }) X I hf
   (wpAny_call (PySem.W.class_get (s:={ s with toks:=s.toks+1 }) (ox:=ox) (od:=od) X I k.ob (PySem.W.handed_on rfl (wpAny_pure q)))))))))
end Mn
namespace Dn
open L2 Mn
inductive D where
 | non | bl (b:Bool) | int (i:Int) | str (x:Str) | tup (l:List D) | lst (l:List D) | kst (l:List D) | dct (kvs:List (Key×D)) | exn (c:Str) (fs:List (Str×Int)) | dtt (kvs:List (List Int×Int))
def exO(a C:Addr)(dx:Option Addr):Heap->Prop:=fun h=>∃oe vs,h.get? a=some oe/\oe.cls=.ref C/\oe.dict=dx/\oe.data=.fields vs
section
variable(K:Fg9)(F:Hp)
mutual
inductive Is:D->V->Prop
 | non:Is .non .non
 | bl (b:Bool):Is (.bl b) (.bl b)
 | int (i:Int):Is (.int i) (.int i)
 | str (x:Str):Is (.str x) (.str x)
 | tup {a:Addr} {vs:List V} {ds:List D} (e:F a=some (.tup vs)) (h:IsL ds vs):Is (.tup ds) (.ref a)
 | lst {a:Addr} {vs:List V} {ds:List D} (e:F a=some (.lst vs)) (h:IsL ds vs):Is (.lst ds) (.ref a)
 | kst {a:Addr} {vs:List V} {ds:List D} (e:SqL K F a vs) (h:IsL ds vs):Is (.kst ds) (.ref a)
 | dct {a:Addr} {kvs:List (Key×V)} {ds:List (Key×D)} (e:F a=some (.dK kvs)) (h:IsK ds kvs):Is (.dct ds) (.ref a)
 | exn {a C:Addr} {c:Str} {dx:Option Addr} {fs:List (Str×Int)} (e:F a=some (.ext (exO a C dx))) (hc:nsIn K mainGlobals c=some (some (.ref C))) (hk:ExcK K C)
   (hf:(dx=none/\fs=[])∨∃d,dx=some d/\F d=some (.xd (fs.map fun p=>(p.1,V.int p.2)))):Is (.exn c fs) (.ref a)
 | dtt {a:Addr} {ds:List (List Int×Int)} (e:F a=some (.dT (ds.map fun p=>(p.1.map Sum.inl,V.int p.2)))):Is (.dtt ds) (.ref a)
inductive IsL:List D->List V->Prop
 | nil:IsL [] []
 | cons {d:D} {v:V} {ds:List D} {vs:List V} (h:Is d v) (t:IsL ds vs):IsL (d::ds) (v::vs)
inductive IsK:List (Key×D)->List (Key×V)->Prop
 | nil:IsK [] []
 | cons {k:Key} {d:D} {v:V} {ds:List (Key×D)} {vs:List (Key×V)} (h:Is d v) (t:IsK ds vs):IsK ((k,d)::ds) ((k,v)::vs)
end
end
section
variable{K:Fg9}{F F':Hp}
mutual
theorem Is.mono(g:Same F F'):∀{d:D} {v:V},Is K F d v->Is K F' d v
 | _,_,.non=>.non
 | _,_,.bl b=>.bl b
 | _,_,.int i=>.int i
 | _,_,.str x=>.str x
 | _,_,.tup e h=>.tup (g _ _ e) (IsL.mono g h)
 | _,_,.lst e h=>.lst (g _ _ e) (IsL.mono g h)
 | _,_,.kst e h=>.kst (L2.Same.seq g e) (IsL.mono g h)
 | _,_,.dct e h=>.dct (g _ _ e) (IsK.mono g h)
 | _,_,.exn e hc hk hf=>.exn (g _ _ e) hc hk (hf.imp id fun⟨d,h1,h2⟩=>⟨d,h1,g _ _ h2⟩)
 | _,_,.dtt e=>.dtt (g _ _ e)
theorem IsL.mono(g:Same F F'):∀{ds:List D} {vs:List V},IsL K F ds vs->IsL K F' ds vs
 | _,_,.nil=>.nil
 | _,_,.cons h t=>.cons (Is.mono g h) (IsL.mono g t)
theorem IsK.mono(g:Same F F'):∀{ds:List (Key×D)} {vs:List (Key×V)},IsK K F ds vs->IsK K F' ds vs
 | _,_,.nil=>.nil
 | _,_,.cons h t=>.cons (Is.mono g h) (IsK.mono g t)
end
theorem IsL.length:∀{ds:List D} {vs:List V},IsL K F ds vs->ds.length=vs.length
 | _,_,.nil=>rfl
 | _,_,.cons _ t=>by simp[IsL.length t]
theorem IsL.append:∀{ds es:List D} {vs ws:List V},IsL K F ds vs->IsL K F es ws->IsL K F (ds++es) (vs++ws)
 | _,_,_,_,.nil,h=>h
 | _,_,_,_,.cons h t,k=>.cons h (IsL.append t k)
theorem IsL.take:∀{ds:List D} {vs:List V} (n:Nat),IsL K F ds vs->IsL K F (ds.take n) (vs.take n)
 | _,_,0,_=>by simpa using IsL.nil
 | _,_,_+1,.nil=>.nil
 | _,_,n+1,.cons h t=>.cons h (IsL.take n t)
theorem IsL.drop:∀{ds:List D} {vs:List V} (n:Nat),IsL K F ds vs->IsL K F (ds.drop n) (vs.drop n)
 | _,_,0,h=>h
 | _,_,_+1,.nil=>.nil
 | _,_,n+1,.cons _ t=>IsL.drop n t
theorem IsL.get:∀{ds:List D} {vs:List V} {i:Nat} {d:D},IsL K F ds vs->ds[i]? = some d->∃v,vs[i]? = some v/\Is K F d v
 | _,_,_,_,.nil,e=>by simp at e
 | _,_,0,_,.cons h _,e=>by simp at e;subst e;exact⟨_,rfl,h⟩
 | _,_,i+1,v,.cons _ t,e=>by
  obtain⟨d,h1,h2⟩:=IsL.get (i:=i) (d:=v) t (by simpa using e)
  exact⟨d,by simpa using h1,h2⟩
theorem IsL.set{d:D}{v:V}(h:Is K F d v):∀{ds:List D} {vs:List V} (i:Nat),IsL K F ds vs->IsL K F (ds.set i d) (vs.set i v)
 | _,_,_,.nil=>.nil
 | _,_,0,.cons _ t=>.cons h t
 | _,_,i+1,.cons q t=>.cons q (IsL.set h i t)
theorem IsL.rep{ds:List D}{vs:List V}(h:IsL K F ds vs):∀k:Nat,IsL K F (List.replicate k ds).flatten (List.replicate k vs).flatten
 | 0=>by simpa using IsL.nil
 | k+1=>by
  rw[List.replicate_succ,List.replicate_succ,List.flatten_cons,List.flatten_cons];exact h.append (IsL.rep h k)
theorem IsL.int_inv{ns:List Int}:∀{vs:List V},IsL K F (ns.map D.int) vs->vs=ns.map V.int:=by
 induction ns with
 | nil =>
  intro _ h;cases h;rfl
 | cons n r ih =>
  intro _ h;cases h with
  | cons h t =>
   cases h;rw[ih t];rfl
theorem IsL.bl_inv{ns:List Bool}:∀{vs:List V},IsL K F (ns.map D.bl) vs->vs=ns.map V.bl:=by
 induction ns with
 | nil =>
  intro _ h;cases h;rfl
 | cons n r ih =>
  intro _ h;cases h with
  | cons h t =>
   cases h;rw[ih t];rfl
theorem ac1:∀ns:List Int,IsL K F (ns.map D.int) (ns.map V.int)
 | []=>.nil
 | n::r=>.cons (.int n) (ac1 r)
end
inductive Sl where
 | emp | val (d:D) | own (t:Option Nat) (l:List D) | box (c:Str) (fs:List (Str×(Nat ⊕ D))) | lol (ts:List Nat) | lnk (k:Nat)
abbrev Ro:=List Sl
def Owns(ρ:Ro)(σ:L2.St)(i:Nat)(a:Addr):Prop:=(∃t l,ρ[i]? = some (.own t l))/\σ[i]? = some (some (.ref a))
def Own(ρ:Ro)(σ:L2.St)(a:Addr):Prop:=∃i,Owns ρ σ i a
def SlOk(K:Fg9)(tg:Nat->Addr)(F H:Hp):Sl->Option V->Prop
 | .emp,_=>True
 | .val d,o=>∃v,o=some v/\Is K F d v
 | .own t l,o=>∃a vs,o=some (.ref a)/\F a=none/\H a=some (.lst vs)/\IsL K F l vs/\∀k,t=some k->tg k=a
 | .box c fs,o=>∃a C dx fvs,o=some (.ref a)/\F a=none/\H a=some (.ins C dx fvs)/\nsIn K mainGlobals c=some (some (.ref C))/\(∀f,fs.lookup f=none->fvs.lookup f=none)/\(∀f k,fs.lookup f=some (.inl k)->fvs.lookup f=some (.ref (tg k)))/\∀f d,fs.lookup f=some (.inr d)->∃v,fvs.lookup f=some v/\Is K F d v
 | .lol ts,o=>∃a,o=some (.ref a)/\F a=some (.lst (ts.map fun k=>V.ref (tg k)))
 | .lnk k,o=>o=some (.ref (tg k))
structure Good (K:Fg9) (tg:Nat->Addr) (F H:Hp) (ρ:Ro) (σ:L2.St):Prop where
 sub:Same F H
 len:ρ.length=σ.length
 sl:∀(i:Nat) (s:Sl) (o:Option V),ρ[i]? = some s->σ[i]? = some o->SlOk K tg F H s o
 inj:∀(i j:Nat) (a:Addr),Owns ρ σ i a->Owns ρ σ j a->i=j
structure Ext (O O':Addr->Prop) (F H F' H':Hp):Prop where
 sub:Same F F'
 new:∀a o,F' a=some o->F a=some o∨H a=none∨O a
 keep:∀a o,H a=some o->¬O a->H' a=some o
 own:∀a,O' a->O a∨H a=none
 there:∀a,H' a=none->H a=none
theorem Ext.refl(O:Addr->Prop)(F H:Hp):Ext O O F H F H:=⟨fun _ _ e=>e,fun _ _ e=>.inl e,fun _ _ e _=>e,fun _ h=>.inl h,fun _ h=>h⟩
theorem Ext.trans{O O1 O2:Addr->Prop}{F H F1 H1 F2 H2:Hp}(a:Ext O O1 F H F1 H1)(b:Ext O1 O2 F1 H1 F2 H2):Ext O O2 F H F2 H2 where
 sub:=a.sub.trans b.sub
 new:=fun c o e=>by
  rcases b.new c o e with q | q | q
  ·exact a.new c o q
  ·exact .inr (.inl (a.there c q))
  ·rcases a.own c q with z | z
   ·exact .inr (.inr z)
   ·exact .inr (.inl z)
 keep:=fun c o e n=>b.keep c o (a.keep c o e n) fun z=>by
  rcases a.own c z with q | q
  ·exact n q
  ·rw[e] at q;cases q
 own:=fun c z=>by
  rcases b.own c z with q | q
  ·exact a.own c q
  ·exact .inr (a.there c q)
 there:=fun c z=>a.there c (b.there c z)
section
variable{K:Fg9}{tg:Nat->Addr}{F H F' H':Hp}{ρ ρ':Ro}{σ:L2.St}
theorem Good.ownAt(G:Good K tg F H ρ σ){a:Addr}(h:Own ρ σ a):F a=none/\∃vs,H a=some (.lst vs):=by
 obtain⟨i,⟨t,l,e⟩,q⟩:=h;obtain⟨b,vs,e1,f,e2,_⟩:=G.sl i _ _ e q;cases e1;exact⟨f,vs,e2⟩
theorem Good.grow(G:Good K tg F H ρ σ)(s:Same F F')(s':Same F' H')(k:∀a,Own ρ σ a->F' a=none/\H' a=H a)(kb:∀a C dx fvs,F a=none->H a=some (.ins C dx fvs)->F' a=none/\H' a=H a):Good K tg F' H' ρ σ where
 sub:=s'
 len:=G.len
 inj:=G.inj
 sl:=fun i sl o e q=>by
  have z:=G.sl i sl o e q;cases sl with
  | emp=>trivial
  | val d =>
   obtain⟨v,e1,h⟩:=z;exact⟨v,e1,h.mono s⟩
  | lol ts =>
   obtain⟨a,e1,e2⟩:=z;exact⟨a,e1,s _ _ e2⟩
  | lnk k=>exact z
  | box c fs =>
   obtain⟨a,C,dx,fvs,e1,e2,e3,e4,e7,e5,e6⟩:=z;obtain⟨f1,f2⟩:=kb a C dx fvs e2 e3;exact⟨a,C,dx,fvs,e1,f1,f2.trans e3,e4,e7,e5,fun f d h=>(e6 f d h).imp fun v h=>⟨h.1,h.2.mono s⟩⟩
  | own t l =>
   obtain⟨a,vs,e1,f,e2,h,ht⟩:=z;have w:=k a ⟨i,⟨t,l,e⟩,by rw[q,e1]⟩
   exact⟨a,vs,e1,w.1,by rw[w.2];exact e2,h.mono s,ht⟩
theorem Same.put{p:Addr}(s:Same F H)(h:H p=none)(o:HO):Same (upd F p o) (upd H p o):=fun b u e=>by
 by_cases hb:b=p
 ·subst hb;rw[f9] at e ⊢
  exact e
 ·rw[b8 hb] at e ⊢
  exact s b u e
theorem Good.freeF(G:Good K tg F H ρ σ){p:Addr}(h:H p=none):F p=none:=by
 cases e:F p with
 | none=>rfl
 | some o=>rw[G.sub p o e] at h;cases h
theorem Good.own_ne(G:Good K tg F H ρ σ){p a:Addr}(h:H p=none)(w:Own ρ σ a):a≠p:=by
 obtain⟨_,vs,e⟩:=G.ownAt w;exact ig e h
theorem Good.new(G:Good K tg F H ρ σ){p:Addr}(h:H p=none)(o:HO):Good K tg (upd F p o) (upd H p o) ρ σ :=
 G.grow (Same.new (G.freeF h) o) (Same.put G.sub h o) (fun a w=>by
  rw[b8 (G.own_ne h w),b8 (G.own_ne h w)];exact⟨(G.ownAt w).1,rfl⟩) fun a C dx fvs h1 h2=>by
  rw[b8 (ig h2 h),b8 (ig h2 h)];exact⟨h1,rfl⟩
theorem Good.newX(G:Good K tg F H ρ σ){p:Addr}(h:H p=none)(o:HO):Ext (Own ρ σ) (Own ρ σ) F H (upd F p o) (upd H p o) where
 sub:=Same.new (G.freeF h) o
 new:=fun a u e=>by
  by_cases ha:a=p
  ·subst ha;exact .inr (.inl h)
  ·rw[b8 ha] at e;exact .inl e
 keep:=fun a u e _=>by rw[b8 (ig e h)];exact e
 own:=fun a w=>.inl w
 there:=fun a e=>by
  by_cases ha:a=p
  ·subst ha;exact h
  ·rw[b8 ha] at e;exact e
theorem Good.fresh(G:Good K tg F H ρ σ){p:Addr}(h:H p=none)(o:HO):Good K tg F (upd H p o) ρ σ :=
 G.grow (Same.refl F) (fun b u e=>by rw[b8 (ig (G.sub b u e) h)];exact G.sub b u e) (fun a w=>by
  rw[b8 (G.own_ne h w)];exact⟨(G.ownAt w).1,rfl⟩) fun a C dx fvs h1 h2=>⟨h1,b8 (ig h2 h)⟩
theorem Good.freshX(G:Good K tg F H ρ σ){p:Addr}(h:H p=none)(o:HO):Ext (Own ρ σ) (Own ρ σ) F H F (upd H p o) where
 sub:=Same.refl F
 new:=fun a u e=>.inl e
 keep:=fun a u e _=>by rw[b8 (ig e h)];exact e
 own:=fun a w=>.inl w
 there:=fun a e=>by
  by_cases ha:a=p
  ·subst ha;exact h
  ·rw[b8 ha] at e;exact e
theorem Good.freeze(G:Good K tg F H ρ σ){p:Addr}{o:HO}(h:H p=some o)(n:¬Own ρ σ p)(hf:F p=none)(hi:∀C dx fs,o≠.ins C dx fs:=by intro _ _ _ z;cases z):Good K tg (upd F p o) H ρ σ :=
 G.grow (Same.new hf o) (fun b u e=>by
  by_cases hb:b=p
  ·subst hb;rw[f9] at e;cases e;exact h
  ·rw[b8 hb] at e;exact G.sub b u e) (fun a w=>by
  have:a≠p:=fun z=>n (z▸w)
  rw[b8 this];exact⟨(G.ownAt w).1,rfl⟩) fun a C dx fvs h1 h2=>by
  have:a≠p:=fun z=>by
   subst z;rw[h] at h2;exact hi _ _ _ (Option.some.inj h2)
  rw[b8 this];exact⟨h1,rfl⟩
end
end Dn
namespace Dn
open L2 Mn
structure Exn where
 cls:Str
 fs:List (Str×Int)
inductive Out (α:Type) where
 | ok (a:α) | exc (x:Exn)
abbrev M(α:Type):=Ro->Option (Out α×Ro)
noncomputable def M.bind{α β:Type}(m:M α)(k:α->M β):M β:=fun ρ=>match m ρ with
 | some (.ok a,ρ1)=>k a ρ1
 | some (.exc x,ρ1)=>some (.exc x,ρ1)
 | none=>none
noncomputable def ret{α:Type}(a:α):M α:=fun ρ=>some (.ok a,ρ)
noncomputable def lift{α:Type}(o:Option α):M α:=fun ρ=>match o with
 | some a=>some (.ok a,ρ)
 | none=>none
section
variable{α β:Type}
theorem aq{m:M α}{k:α->M β}{ρ ρ2:Ro}{b:β}(h:m.bind k ρ=some (.ok b,ρ2)):∃a ρ1,m ρ=some (.ok a,ρ1)/\k a ρ1=some (.ok b,ρ2):=by
 unfold M.bind at h;split at h
 ·exact⟨_,_,by assumption,h⟩
 ·cases h
 ·cases h
theorem gk{o:Option α}{ρ ρ2:Ro}{b:α}(h:lift o ρ=some (.ok b,ρ2)):o=some b/\ρ2=ρ:=by
 unfold lift at h;split at h
 ·cases h;exact⟨rfl,rfl⟩
 ·cases h
theorem jf{a b:α}{ρ ρ2:Ro}(h:ret a ρ=some (.ok b,ρ2)):a=b/\ρ2=ρ:=by
 unfold ret at h;cases h;exact⟨rfl,rfl⟩
theorem bind_eq{m:M α}{k:α->M β}{ρ ρ1:Ro}{a:α}(h:m ρ=some (.ok a,ρ1)):m.bind k ρ=k a ρ1:=by
 unfold M.bind;rw[h]
@[simp] theorem a0w(a:α)(k:α->M β):(ret a).bind k=k a:=rfl
@[simp] theorem azm(a:α):lift (some a)=ret a:=rfl
end
inductive Rv where
 | v (d:D) | fr (l:List D)
 | tf (d:D) (l:List D)
abbrev Rel(α:Type):=α->V->(H:Hp)->(O:Addr->Prop)->(F' H':Hp)->(O':Addr->Prop)->Prop
def relD(K:Fg9):Rel D:=fun d v _ _ F' _ _=>Is K F' d v
def Bor(K:Fg9)(F H:Hp)(d:D)(v:V):Prop:=Is K F d v∨∃a vs l,d=.lst l/\v=.ref a/\H a=some (.lst vs)/\IsL K F l vs
def relB(K:Fg9):Rel D:=fun d v _ _ F' H' _=>Bor K F' H' d v
def relR(K:Fg9):Rel Rv:=fun r v H O F' H' O'=>match r with
 | .v d=>Is K F' d v
 | .fr l=>∃a vs,v=.ref a/\(H a=none∨O a)/\F' a=none/\H' a=some (.lst vs)/\IsL K F' l vs/\¬O' a
 | .tf d l=>∃t u a vs,v=.ref t/\F' t=some (.tup [u,.ref a])/\Is K F' d u/\(H a=none∨O a)/\F' a=none/\H' a=some (.lst vs)/\IsL K F' l vs/\¬O' a
def T{α:Type}(K:Fg9)(rel:Rel α)(m:M α):TE:=fun σ H Q=>∃tg F ρ a ρ',Good K tg F H ρ σ/\m ρ=some (.ok a,ρ') /\
 ∀v H' F',Good K tg F' H' ρ' σ->Ext (Own ρ σ) (Own ρ' σ) F H F' H'->rel a v H (Own ρ σ) F' H' (Own ρ' σ)->Q v H'
structure EV (K:Fg9) (X:Cx) (e:Expr) (m:M D):Prop where
 go:X.K=K->PE X e (T K (relD K) m)
instance {K:Fg9} {X:Cx} {e:Expr} {m:M D}:CoeFun (EV K X e m) fun _=>X.K=K->PE X e (T K (relD K) m):=⟨EV.go⟩
structure EB (K:Fg9) (X:Cx) (e:Expr) (m:M D):Prop where
 go:X.K=K->PE X e (T K (relB K) m)
instance {K:Fg9} {X:Cx} {e:Expr} {m:M D}:CoeFun (EB K X e m) fun _=>X.K=K->PE X e (T K (relB K) m):=⟨EB.go⟩
structure ER (K:Fg9) (X:Cx) (e:Expr) (m:M Rv):Prop where
 go:X.K=K->PE X e (T K (relR K) m)
instance {K:Fg9} {X:Cx} {e:Expr} {m:M Rv}:CoeFun (ER K X e m) fun _=>X.K=K->PE X e (T K (relR K) m):=⟨ER.go⟩
theorem PE.imp{X:Cx}{e:Expr}{t t':TE}(h:PE X e t)(w:∀σ H Q,t' σ H Q->t σ H Q):PE X e t':=fun jv s σ H Q I q=>h jv s σ H Q I (w σ H Q q)
section
variable{K:Fg9}{X:Cx}{e a b:Expr}{pos:Pos}
theorem EV.toB{m:M D}(h:EV K X e m):EB K X e m:=EB.mk fun hk=>PE.imp (h hk) fun σ H Q ⟨tg,F,ρ,d,ρ',G,em,q⟩=>⟨tg,F,ρ,d,ρ',G,em,fun v H' F' G' x r=>q v H' F' G' x (.inl r)⟩
def M.v(m:M D):M Rv:=m.bind fun d=>ret (.v d)
theorem EV.toR{m:M D}(h:EV K X e m):ER K X e m.v:=ER.mk fun hk=>PE.imp (h hk) fun σ H Q z9=>by
 obtain⟨tg,F,ρ,r,ρ',G,em,q⟩:=z9;obtain⟨d,ρ1,e1,e2⟩:=aq em;obtain⟨rfl,rfl⟩:=jf e2;exact⟨tg,F,ρ,d,_,G,e1,fun v H' F' G' x r=>q v H' F' G' x r⟩
def Rv.d:Rv->D
 | .v d=>d
 | .fr l=>.lst l
 | .tf d l=>.tup [d,.lst l]
def M.d(m:M Rv):M D:=m.bind fun r=>ret r.d
theorem frz{tg:Nat->Addr}{O:Addr->Prop}{F H F' H':Hp}{ρ':Ro}{σ':L2.St}{r:Rv}{v:V}(G:Good K tg F' H' ρ' σ')(x:Ext O (Own ρ' σ') F H F' H')(h:relR K r v H O F' H' (Own ρ' σ')) :
  ∃F2,Good K tg F2 H' ρ' σ'/\Ext O (Own ρ' σ') F H F2 H'/\Is K F2 r.d v:=by
 cases r with
 | v d=>exact⟨F',G,x,h⟩
 | fr l =>
  obtain⟨a,vs,rfl,ha,hf,hh,hl,hn⟩:=h;refine⟨upd F' a (.lst vs),G.freeze hh hn hf,⟨x.sub.trans (Same.new hf _),fun b o e =>?_,x.keep,x.own,x.there⟩,.lst f9 (hl.mono (Same.new hf _))⟩
  by_cases hb:b=a
  ·subst hb;exact .inr ha
  ·rw[b8 hb] at e;exact x.new b o e
 | tf d l =>
  obtain⟨t,u,a,vs,rfl,ht,hd,ha,hf,hh,hl,hn⟩:=h;have hta:t≠a:=fun z=>by rw[z,hf] at ht;cases ht
  refine⟨upd F' a (.lst vs),G.freeze hh hn hf,⟨x.sub.trans (Same.new hf _),fun b o e =>?_,x.keep,x.own,x.there⟩,.tup (by rw[b8 hta];exact ht) (.cons (hd.mono (Same.new hf _)) (.cons (.lst f9 (hl.mono (Same.new hf _))) .nil))⟩
  by_cases hb:b=a
  ·subst hb;exact .inr ha
  ·rw[b8 hb] at e;exact x.new b o e
theorem ER.toD{m:M Rv}(h:ER K X e m):EV K X e m.d:=EV.mk fun hk=>PE.imp (h hk) fun σ H Q z9=>by
 obtain⟨tg,F,ρ,d,ρ',G,em,q⟩:=z9;obtain⟨r,ρ1,e1,e2⟩:=aq em;obtain⟨rfl,rfl⟩:=jf e2;refine⟨tg,F,ρ,r,_,G,e1,fun v H' F' G' x w =>?_⟩
 obtain⟨F2,G2,x2,i2⟩:=frz G' x w;exact q v H' F2 G2 x2 i2
noncomputable def di(i:Nat):M D:=fun ρ=>match ρ[i]? with
 | some (.val d)=>some (.ok d,ρ)
 | some (.own _ l)=>some (.ok (.lst l),ρ)
 | _=>none
theorem Good.at{tg:Nat->Addr}{F H:Hp}{ρ:Ro}{σ:L2.St}(G:Good K tg F H ρ σ){i:Nat}{s:Sl}(e:ρ[i]? = some s):∃o,σ[i]? = some o/\SlOk K tg F H s o:=by
 have hi:i < σ.length:=by rw[<-G.len];exact(List.getElem?_eq_some_iff.mp e).1
 exact⟨σ[i],List.getElem?_eq_getElem hi,G.sl i s _ e (List.getElem?_eq_getElem hi)⟩
theorem qb{tg:Nat->Addr}{F H:Hp}{ρ ρ':Ro}{σ:L2.St}(G:Good K tg F H ρ σ){i:Nat}{d:D}(em:di i ρ=some (.ok d,ρ')):ρ'=ρ/\∃v,σ[i]? = some (some v)/\Bor K F H d v:=by
 unfold di at em;split at em
 ·rename_i d' e';cases em;obtain⟨o,ho,v,rfl,hv⟩:=G.at e';exact⟨rfl,v,ho,.inl hv⟩
 ·rename_i t l e';cases em;obtain⟨o,ho,a,vs,rfl,hf,hh,hl,_⟩:=G.at e';exact⟨rfl,_,ho,.inr ⟨a,vs,l,rfl,rfl,hh,hl⟩⟩
 ·cases em
theorem gj{i:Nat}(h:PE X e (tVar i)):EB K X e (di i):=EB.mk fun _=>PE.imp h fun σ H Q z9=>by
 obtain⟨tg,F,ρ,d,ρ',G,em,q⟩:=z9;obtain⟨rfl,v,ho,hv⟩:=qb G em;exact⟨v,ho,q v H F G (Ext.refl _ _ _) hv⟩
def aow(i:Nat):M Rv:=fun ρ=>match ρ[i]? with
 | some (.val d)=>some (.ok (.v d),ρ)
 | some (.own none l)=>some (.ok (.fr l),ρ.set i .emp)
 | _=>none
theorem Good.drop{tg:Nat->Addr}{F H:Hp}{ρ:Ro}{σ:L2.St}(G:Good K tg F H ρ σ)(i:Nat):Good K tg F H (ρ.set i .emp) σ:=by
 have sub:∀j t l,(List.set ρ i Sl.emp)[j]? = some (Sl.own t l)->(ρ:List Sl)[j]? = some (Sl.own t l):=fun j t l e=>by
  rw[List.getElem?_set] at e;split at e
  ·split at e <;> cases e
  ·exact e
 refine⟨G.sub,by rw[List.length_set];exact G.len,fun j s o e q =>?_,fun j k a ⟨⟨t,l,e⟩,q⟩ ⟨⟨t',l',e'⟩,q'⟩=>G.inj j k a ⟨⟨t,l,sub _ _ _ e⟩,q⟩ ⟨⟨t',l',sub _ _ _ e'⟩,q'⟩⟩
 rw[List.getElem?_set] at e;split at e
 ·split at e
  ·cases e;trivial
  ·cases e
 ·exact G.sl j s o e q
theorem wy{ρ:Ro}{σ:L2.St}{i:Nat}{a:Addr}(h:Own (ρ.set i .emp) σ a):Own ρ σ a/\∀t l,ρ[i]? = some (.own t l)->∀(inj:∀i j a,Owns ρ σ i a->Owns ρ σ j a->i=j),¬Owns ρ σ i a:=by
 obtain⟨j,⟨t,l,e⟩,q⟩:=h;rw[List.getElem?_set] at e;split at e
 ·split at e <;> cases e
 ·rename_i hne;have w:Owns ρ σ j a:=⟨⟨t,l,e⟩,q⟩;exact⟨⟨j,w⟩,fun t' l' _ inj z=>hne (inj _ _ _ z w)⟩
theorem aps{i:Nat}(h:PE X e (tVar i)):ER K X e (aow i):=ER.mk fun _=>PE.imp h fun σ H Q z9=>by
 obtain⟨tg,F,ρ,d,ρ',G,em,q⟩:=z9;unfold aow at em;split at em
 ·rename_i d' e';cases em;obtain⟨o,ho,v,rfl,hv⟩:=G.at e';exact⟨v,ho,q v H F G (Ext.refl _ _ _) hv⟩
 ·rename_i l e';cases em;obtain⟨o,ho,a,vs,rfl,hf,hh,hl,_⟩:=G.at e';have w:Owns ρ σ i a:=⟨⟨_,_,e'⟩,ho⟩;refine⟨_,ho,q _ H F (G.drop i) ⟨Same.refl _,fun _ _ e=>.inl e,fun _ _ e _=>e,fun b z=>.inl (wy z).1,fun _ z=>z⟩ ⟨a,vs,rfl,.inr ⟨i,w⟩,hf,hh,hl,fun z=>(wy z).2 _ _ e' G.inj w⟩⟩
 ·cases em
noncomputable def mVar(i:Nat):M D:=fun ρ=>match ρ[i]? with
 | some (.val d)=>some (.ok d,ρ)
 | some (.own none l)=>some (.ok (.lst l),ρ.set i (.val (.lst l)))
 | _=>none
theorem arp{ρ:Ro}{σ:L2.St}{i:Nat}{d:D}{a:Addr}(h:Own (ρ.set i (.val d)) σ a):Own (ρ.set i .emp) σ a:=by
 obtain⟨j,⟨t,l,e⟩,q⟩:=h;refine⟨j,⟨t,l,?_⟩,q⟩;rw[List.getElem?_set] at e ⊢
 split at e
 ·split at e <;> cases e
 ·rename_i hne;rw[if_neg hne];exact e
theorem Good.setv{tg:Nat->Addr}{F H:Hp}{ρ:Ro}{σ:L2.St}{i:Nat}{d:D}{v:V}(G:Good K tg F H (ρ.set i .emp) σ)(e:σ[i]? = some (some v))(h:Is K F d v):Good K tg F H (ρ.set i (.val d)) σ:=by
 have sub:∀j t l,(List.set ρ i (Sl.val d))[j]? = some (Sl.own t l)->(List.set ρ i Sl.emp)[j]? = some (Sl.own t l):=fun j t l z=>by
  rw[List.getElem?_set] at z ⊢
  split at z
  ·split at z <;> cases z
  ·rename_i hne;rw[if_neg hne];exact z
 refine⟨G.sub,by have:=G.len;rw[List.length_set] at this ⊢;exact this,fun j s o z q =>?_,fun j k a ⟨⟨t,l,z⟩,q⟩ ⟨⟨t',l',z'⟩,q'⟩=>G.inj j k a ⟨⟨t,l,sub _ _ _ z⟩,q⟩ ⟨⟨t',l',sub _ _ _ z'⟩,q'⟩⟩
 by_cases hij:i=j
 ·subst hij;rw[List.getElem?_set,if_pos rfl] at z;split at z
  ·cases z;rw[e] at q;cases q;exact⟨v,rfl,h⟩
  ·cases z
 ·refine G.sl j s o ?_ q;rw[List.getElem?_set,if_neg hij] at z ⊢
  exact z
theorem bf{i:Nat}(h:PE X e (tVar i)):EV K X e (mVar i):=EV.mk fun _=>PE.imp h fun σ H Q z9=>by
 obtain⟨tg,F,ρ,d,ρ',G,em,q⟩:=z9;unfold mVar at em;split at em
 ·rename_i d' e';cases em;obtain⟨o,ho,v,rfl,hv⟩:=G.at e';exact⟨v,ho,q v H F G (Ext.refl _ _ _) hv⟩
 ·rename_i l e';cases em;obtain⟨o,ho,a,vs,rfl,hf,hh,hl,_⟩:=G.at e';have w:Owns ρ σ i a:=⟨⟨_,_,e'⟩,ho⟩;have nown:¬Own (ρ.set i .emp) σ a:=fun z=>(wy z).2 _ _ e' G.inj w
  have G2:=(G.drop i).freeze hh nown hf;have i2:Is K (upd F a (.lst vs)) (.lst l) (.ref a):=.lst f9 (hl.mono (Same.new hf _));refine⟨_,ho,q _ H _ (G2.setv ho i2) ⟨Same.new hf _,fun b o z =>?_,fun _ _ z _=>z,fun b z=>.inl (wy (arp z)).1,fun _ z=>z⟩ i2⟩
  by_cases hb:b=a
  ·subst hb;exact .inr (.inr ⟨i,w⟩)
  ·rw[b8 hb] at z;exact .inl z
 ·cases em
theorem ev_c{d:D}{v:V}(h:PE X e (tC v))(hi:∀F,Is K F d v):EV K X e (ret d):=EV.mk fun _=>PE.imp h fun σ H Q z9=>by
 obtain⟨tg,F,ρ,d',ρ',G,em,q⟩:=z9;obtain⟨rfl,rfl⟩:=jf em;exact q v H F G (Ext.refl _ _ _) (hi F)
theorem au{i:Int}{j:Nat}:EV K X (.Constant (.int i) j pos) (ret (.int i)):=ev_c ays fun _=>.int i
theorem yo{i:Bool}{j:Nat}:EV K X (.Constant (.bool i) j pos) (ret (.bl i)):=ev_c a2s fun _=>.bl i
theorem al6{j:Nat}:EV K X (.Constant .none j pos) (ret .non):=ev_c ayp fun _=>.non
theorem tu{i:Str}{j:Nat}:EV K X (.Constant (.str i) j pos) (ret (.str i)):=ev_c ayl fun _=>.str i
def T2(K:Fg9)(m:M (D×D))(σ:L2.St)(H:Hp)(R:V->V->Hp->Prop):Prop:=∃tg F ρ p ρ',Good K tg F H ρ σ/\m ρ=some (.ok p,ρ') /\
 ∀x y H' F',Good K tg F' H' ρ' σ->Ext (Own ρ σ) (Own ρ' σ) F H F' H'->Bor K F' H' p.1 x->Bor K F' H' p.2 y->R x y H'
structure E2 (K:Fg9) (X:Cx) (a b:Expr) (m:M (D×D)):Prop where
 go:X.K=K->∃ta tb,PE X a ta/\PE X b tb/\∀σ H R,T2 K m σ H R->ta σ H fun x H1=>tb σ H1 fun y H2=>R x y H2
instance {K:Fg9} {X:Cx} {a b:Expr} {m:M (D×D)}:CoeFun (E2 K X a b m) fun _=>X.K=K->∃ta tb,PE X a ta/\PE X b tb/\∀σ H R,T2 K m σ H R->ta σ H fun x H1=>tb σ H1 fun y H2=>R x y H2:=⟨E2.go⟩
def gq(m1 m2:M D):M (D×D):=m1.bind fun x=>m2.bind fun y=>ret (x,y)
def cg(i:Nat)(m2:M D):M (D×D):=(di i).bind fun _=>m2.bind fun y=>(di i).bind fun x=>ret (x,y)
theorem e2_v{m1 m2:M D}(ha:EV K X a m1)(hb:EB K X b m2):E2 K X a b (gq m1 m2):=E2.mk fun hk=>⟨_,_,ha hk,hb hk,fun σ H R z9=>by
 obtain⟨tg,F,ρ,p,ρ',G,em,q⟩:=z9;obtain⟨d1,ρ1,e1,em⟩:=aq em;obtain⟨d2,ρ2,e2,em⟩:=aq em;obtain⟨rfl,rfl⟩:=jf em;exact⟨tg,F,ρ,d1,ρ1,G,e1,fun x H1 F1 G1 x1 r1=>⟨tg,F1,ρ1,d2,_,G1,e2,fun y H2 F2 G2 x2 r2=>q x y H2 F2 G2 (x1.trans x2) (.inl (r1.mono x2.sub)) r2⟩⟩⟩
theorem e2_n{i:Nat}{m2:M D}(ha:PE X a (tVar i))(hb:EB K X b m2):E2 K X a b (cg i m2):=E2.mk fun hk=>⟨_,_,ha,hb hk,fun σ H R z9=>by
 obtain⟨tg,F,ρ,p,ρ',G,em,q⟩:=z9;obtain⟨d0,ρ0,e0,em⟩:=aq em;obtain⟨d2,ρ2,e2,em⟩:=aq em;obtain⟨d1,ρ1,e1,em⟩:=aq em;obtain⟨rfl,rfl⟩:=jf em;obtain⟨rfl,v,hv,_⟩:=qb G e0;exact⟨v,hv,tg,F,ρ0,d2,ρ2,G,e2,fun y H2 F2 G2 x2 r2=>by
  obtain⟨rfl,v',hv',b'⟩:=qb G2 e1;rw[hv] at hv';cases hv';exact q v y H2 F2 G2 x2 b' r2⟩⟩
end
section
variable{K:Fg9}{X:Cx}{e a b c:Expr}{es:List Expr}{pos p:Pos}
section
variable{F H:Hp}{x:V}
theorem Bor.lst{l:List D}(g:Same F H)(h:Bor K F H (.lst l) x):∃a vs,x=.ref a/\H a=some (.lst vs)/\IsL K F l vs:=by
 rcases h with h | ⟨a,vs,l',e1,e2,e3,h⟩
 ·cases h with
  | lst e h=>exact⟨_,_,rfl,g _ _ e,h⟩
 ·cases e1;exact⟨a,vs,e2,e3,h⟩
theorem Bor.tup{l:List D}(h:Bor K F H (.tup l) x):∃a vs,x=.ref a/\F a=some (.tup vs)/\IsL K F l vs:=by
 rcases h with h | ⟨a,vs,l',e1,_⟩
 ·cases h with
  | tup e h=>exact⟨_,_,rfl,e,h⟩
 ·cases e1
theorem Bor.kst{l:List D}(h:Bor K F H (.kst l) x):∃a vs,x=.ref a/\SqL K F a vs/\IsL K F l vs:=by
 rcases h with h | ⟨a,vs,l',e1,_⟩
 ·cases h with
  | kst e h=>exact⟨_,_,rfl,e,h⟩
 ·cases e1
theorem Bor.int{i:Int}(h:Bor K F H (.int i) x):x=.int i:=by
 rcases h with h | ⟨a,vs,l',e1,_⟩
 ·cases h;rfl
 ·cases e1
theorem Bor.bl{i:Bool}(h:Bor K F H (.bl i) x):x=.bl i:=by
 rcases h with h | ⟨a,vs,l',e1,_⟩
 ·cases h;rfl
 ·cases e1
theorem Bor.str{i:Str}(h:Bor K F H (.str i) x):x=.str i:=by
 rcases h with h | ⟨a,vs,l',e1,_⟩
 ·cases h;rfl
 ·cases e1
theorem Bor.non(h:Bor K F H .non x):x=.non:=by
 rcases h with h | ⟨a,vs,l',e1,_⟩
 ·cases h;rfl
 ·cases e1
end
def Res(K:Fg9)(tg:Nat->Addr)(F H:Hp)(ρ:Ro)(σ:L2.St)(r:Rv)(Q:VK):Prop :=
 ∀v H' F',Good K tg F' H' ρ σ->Ext (Own ρ σ) (Own ρ σ) F H F' H'->relR K r v H (Own ρ σ) F' H' (Own ρ σ)->Q v H'
section
variable{tg:Nat->Addr}{F H:Hp}{ρ:Ro}{σ:L2.St}{Q:VK}
theorem Res.same{d:D}{v:V}(G:Good K tg F H ρ σ)(q:Res K tg F H ρ σ (.v d) Q)(h:Is K F d v):Q v H:=q v H F G (Ext.refl _ _ _) h
theorem Res.tup{l:List D}{vs:List V}(G:Good K tg F H ρ σ)(q:Res K tg F H ρ σ (.v (.tup l)) Q)(h:IsL K F l vs){p:Addr}(hp:H p=none):Q (.ref p) (upd H p (.tup vs)) :=
 q _ _ _ (G.new hp _) (G.newX hp _) (.tup f9 (h.mono (Same.new (G.freeF hp) _)))
theorem Res.lst{l:List D}{vs:List V}(G:Good K tg F H ρ σ)(q:Res K tg F H ρ σ (.fr l) Q)(h:IsL K F l vs){p:Addr}(hp:H p=none):Q (.ref p) (upd H p (.lst vs)) :=
 q _ _ _ (G.fresh hp _) (G.freshX hp _) ⟨p,vs,rfl,.inl hp,G.freeF hp,f9,h,fun z=>G.own_ne hp z rfl⟩
end
def rOf(K:Fg9)(g:D->D->Option Rv):R2:=fun x y H Q=>∃tg F ρ σ d1 d2 r,Good K tg F H ρ σ/\Bor K F H d1 x/\Bor K F H d2 y/\g d1 d2=some r/\Res K tg F H ρ σ r Q
structure OpD (K:Fg9) (X:Cx) (f:Value->Value->Sem Value) (g:D->D->Option Rv):Prop where
 go:X.K=K->OpR X f (rOf K g)
instance {K:Fg9} {X:Cx} {f:Value->Value->Sem Value} {g:D->D->Option Rv}:CoeFun (OpD K X f g) fun _=>X.K=K->OpR X f (rOf K g):=⟨OpD.go⟩
def mOp(g:D->D->Option Rv)(m:M (D×D)):M Rv:=m.bind fun p=>lift (g p.1 p.2)
theorem alh{g:D->D->Option Rv}{m:M (D×D)}{ta tb:TE}(h:∀σ H R,T2 K m σ H R->ta σ H fun x H1=>tb σ H1 fun y H2=>R x y H2)(σ:L2.St)(H:Hp)(Q:VK)(t:T K (relR K) (mOp g m) σ H Q):tOp (rOf K g) ta tb σ H Q:=by
 obtain⟨tg,F,ρ,r,ρ',G,em,q⟩:=t;obtain⟨p,ρ1,e1,em⟩:=aq em;obtain⟨e2,rfl⟩:=gk em;refine h σ H _ ⟨tg,F,ρ,p,_,G,e1,fun x y H' F' G' x' bx by'=>⟨tg,F',_,σ,p.1,p.2,r,G',bx,by',e2,fun v H2 F2 G2 x2 rr=>q v H2 F2 G2 (x'.trans x2) ?_⟩⟩
 cases r with
 | v d=>exact rr
 | fr l =>
  obtain⟨a,vs,ev,ha,w⟩:=rr;refine⟨a,vs,ev,?_,w⟩;rcases ha with ha | ha
  ·exact .inl (x'.there a ha)
  ·exact(x'.own a ha).symm
 | tf d l =>
  obtain⟨t,u,a,vs,ev,ht,hd,ha,w⟩:=rr;refine⟨t,u,a,vs,ev,ht,hd,?_,w⟩;rcases ha with ha | ha
  ·exact .inl (x'.there a ha)
  ·exact(x'.own a ha).symm
theorem dq{op:Operator}{g:D->D->Option Rv}{m:M (D×D)}(ho:OpD K X (binaryOp op) g)(h:E2 K X a b m):ER K X (.BinOp a op b pos) (mOp g m):=ER.mk fun hk=>by
 obtain⟨ta,tb,ha,hb,h⟩:=h hk;exact PE.imp (a2q (ho hk) ha hb) (alh h)
theorem ac8{op:CmpOp}{g:D->D->Option Rv}{m:M (D×D)}(ho:OpD K X (compareOp op) g)(h:E2 K X a b m)(hm:behindInMarks op b=false):ER K X (.Compare a [op] [b] pos) (mOp g m):=ER.mk fun hk=>by
 obtain⟨ta,tb,ha,hb,h⟩:=h hk;exact PE.imp (avt (ho hk) ha hb hm) (alh h)
def capS:Nat:=16777216
theorem afr{n:Nat}(h:n<=capS):n<=sizeLine:=by rw[sizeLine_eq];exact h
def gAdd:D->D->Option Rv
 | .int i,.int j=>some (.v (.int (i+j)))
 | .tup l,.tup k=>if l.length+k.length<=capS then some (.v (.tup (l++k))) else none
 | .lst l,.lst k=>if l.length+k.length<=capS then some (.fr (l++k)) else none
 | .str i,.str j=>if i.length+j.length<=capS then some (.v (.str (i++j))) else none
 | _,_=>none
theorem gw:OpD K X (binaryOp .Add) gAdd:=OpD.mk fun hk=>by
 intro jv s σ0 H x y v u Q I rx ry z9;obtain⟨tg,F,ρ,σ,d1,d2,r,G,b1,b2,eg,q⟩:=z9;subst hk;unfold gAdd at eg;split at eg
 ·cases eg;obtain rfl:=b1.int;obtain rfl:=b2.int;exact ay1 jv s σ0 H _ _ v u Q I rx ry ⟨_,_,rfl,rfl,Res.same G q (.int _)⟩
 ·split at eg
  ·rename_i hz;cases eg;obtain⟨a1,vs1,rfl,s1,i1⟩:=b1.tup;obtain⟨a2,vs2,rfl,s2,i2⟩:=b2.tup;have l1:=i1.length;have l2:=i2.length
   by_cases hx:vs1=[]
   ·subst hx;cases i1;cases rx;cases ry;obtain⟨its,r1,p1,_⟩:=I.tuple (SqT.of (G.sub _ _ s1));obtain⟨its2,r2,p2,_⟩:=I.tuple (SqT.of (G.sub _ _ s2));exact as7 p1 p2 (r1.nil_iff.mpr rfl) ⟨.ref a2,H,I,rfl,Res.same G q (.tup s2 i2)⟩
   ·refine avz jv s σ0 H _ _ v u Q I rx ry ⟨a1,a2,vs1,vs2,rfl,rfl,SqT.of (G.sub _ _ s1),SqT.of (G.sub _ _ s2),hx,by rw[<-l1,<-l2];exact afr hz,fun e =>?_,fun _ p hp=>Res.tup G q (i1.append i2) hp⟩
    subst e;cases i2;exact Res.same G q (.tup s1 (by simpa using i1))
  ·cases eg
 ·split at eg
  ·rename_i hz;cases eg;obtain⟨a1,vs1,rfl,s1,i1⟩:=b1.lst G.sub;obtain⟨a2,vs2,rfl,s2,i2⟩:=b2.lst G.sub;have l1:=i1.length;have l2:=i2.length;exact ay0 jv s σ0 H _ _ v u Q I rx ry ⟨a1,a2,vs1,vs2,rfl,rfl,s1,s2,by rw[<-l1,<-l2];exact afr hz,fun p hp=>Res.lst G q (i1.append i2) hp⟩
  ·cases eg
 ·split at eg
  ·rename_i hz;cases eg;obtain rfl:=b1.str;obtain rfl:=b2.str;exact amy jv s σ0 H _ _ v u Q I rx ry ⟨_,_,rfl,rfl,afr hz,Res.same G q (.str _)⟩
  ·cases eg
 ·cases eg
def gInt(f:Int->Int->Option Int):D->D->Option Rv
 | .int i,.int j=>(f i j).map fun k=>.v (.int k)
 | _,_=>none
theorem aj7{op:Operator}{f:Int->Int->Option Int}{C:Int->Int->Prop}{g:Int->Int->Int}(h:OpR X (binaryOp op) (rI C fun i j=>.int (g i j)))(hf:∀i j k,f i j=some k->C i j/\k=g i j):OpD K X (binaryOp op) (gInt f):=OpD.mk fun hk=>by
 intro jv s σ0 H x y v u Q I rx ry z9;obtain⟨tg,F,ρ,σ,d1,d2,r,G,b1,b2,eg,q⟩:=z9;unfold gInt at eg;split at eg
 ·rename_i i j;obtain rfl:=b1.int;obtain rfl:=b2.int;cases z:f i j with
  | none=>rw[z] at eg;cases eg
  | some k =>
   rw[z] at eg;cases eg;obtain⟨h1,rfl⟩:=hf i j k z;exact h jv s σ0 H _ _ v u Q I rx ry ⟨_,_,rfl,rfl,h1,Res.same G q (.int _)⟩
 ·cases eg
def fSub(i j:Int):Option Int:=some (i - j)
def fMul(i j:Int):Option Int:=if (-18446744073709551616 < i/\i < 18446744073709551616)∨(-18446744073709551616 < j/\j < 18446744073709551616) then some (i*j) else none
theorem ay7{i j:Int}(h0:0 < j)(h:j < 1000000000000000000000000000000000000000000000000000000000000):Builtin.divisionGoesByPylong i j=false:=by
 have e2:(2:Nat) ^ 200=1606938044258990275541962092341162602522202993782792835301376:=by decide +kernel
 have hl:j.natAbs.log2 < 200:=(Nat.log2_lt (by omega)).2 (by rw[e2];omega)
 have hd:¬(j.natAbs.log2 / 30+1 > 300):=by omega
 have hj:(j==0)=false:=by
  rw[beq_eq_false_iff_ne];omega
 unfold Builtin.divisionGoesByPylong;simp only[hj,Bool.false_eq_true,if_false,hd,decide_false,Bool.false_and]
theorem aru:OpR X (binaryOp .FloorDiv) (rI (fun _ j=>0 < j/\j < 1000000000000000000000000000000000000000000000000000000000000) fun i j=>.int (i / j)):=opI fun i j _ _ _ _ _ hc q=>by
 have h1:(0:Int) < j:=hc.1;exact floordiv_int (by omega) (by rw[Int.fdiv_eq_ediv_of_nonneg i (by omega)];exact q) (.inl (ay7 hc.1 hc.2))
def fDiv(i j:Int):Option Int:=if 0 < j/\j < 1000000000000000000000000000000000000000000000000000000000000 then some (i / j) else none
def fMod(i j:Int):Option Int:=if 0 < j then some (i % j) else none
def fPow(i j:Int):Option Int:=if 0<=j/\j<=1000000/\i.natAbs < 18446744073709551616 then some (i ^ j.toNat) else none
theorem ae3:OpD K X (binaryOp .Sub) (gInt fSub):=OpD.mk fun hk=>by
 intro jv s σ0 H x y v u Q I rx ry z9;obtain⟨tg,F,ρ,σ,d1,d2,r,G,b1,b2,eg,q⟩:=z9;unfold gInt at eg;split at eg
 ·obtain rfl:=b1.int;obtain rfl:=b2.int;cases eg;exact ayv jv s σ0 H _ _ v u Q I rx ry ⟨_,_,rfl,rfl,Res.same G q (.int _)⟩
 ·cases eg
end
mutual
def toPy:D->PyData
 | .non=>.none
 | .bl b=>.bool b
 | .int i=>.int i
 | .str x=>.str x
 | .tup l=>.tuple (adc l)
 | .lst l=>.list (adc l)
 | .kst l=>.list (adc l)
 | .dct _=>.dict []
 | .exn _ _=>.dict []
 | .dtt _=>.dict []
def adc:List D->List PyData
 | []=>[]
 | d::r=>toPy d::adc r
end
def okD:Nat->D->Bool
 | _,.non=>true
 | _,.bl _=>true
 | _,.int _=>true
 | _,.str x=>PyData.strOk x
 | n+1,.tup l=>l.all (okD n)
 | n+1,.lst l=>l.all (okD n)
 | n+1,.kst l=>l.all (okD n)
 | _,_=>false
theorem ahe{n:Nat}(ih:∀d,okD n d=true->(toPy d).canLay0=true/\(toPy d).depth<=n):∀l:List D,l.all (okD n)=true->PyData.canLayAll0 (adc l)=true/\PyData.depthAll (adc l)<=n
 | [],_=>⟨rfl,Nat.zero_le _⟩
 | d::r,h=>by
  rw[List.all_cons,Bool.and_eq_true] at h;obtain⟨h1,h2⟩:=ih d h.1;obtain⟨h3,h4⟩:=ahe ih r h.2;refine⟨?_,?_⟩
  ·show(PyData.canLay0 (toPy d)&&PyData.canLayAll0 (adc r))=true;rw[h1,h3];rfl
  ·show max (PyData.depth (toPy d)) (PyData.depthAll (adc r))<=n;omega
theorem aa0:∀(n:Nat) (d:D),okD n d=true->(toPy d).canLay0=true/\(toPy d).depth<=n
 | n,.non,_=>⟨rfl,Nat.zero_le _⟩
 | n,.bl _,_=>⟨rfl,Nat.zero_le _⟩
 | n,.int _,_=>⟨rfl,Nat.zero_le _⟩
 | n,.str x,h=>by
  refine⟨?_,Nat.zero_le _⟩;cases n <;> exact h
 | n+1,.tup l,h=>by
  obtain⟨h1,h2⟩:=ahe (aa0 n) l h;exact⟨h1,Nat.succ_le_succ h2⟩
 | n+1,.lst l,h=>by
  obtain⟨h1,h2⟩:=ahe (aa0 n) l h;exact⟨h1,Nat.succ_le_succ h2⟩
 | n+1,.kst l,h=>by
  obtain⟨h1,h2⟩:=ahe (aa0 n) l h;exact⟨h1,Nat.succ_le_succ h2⟩
 | 0,.tup l,h=>by cases h
 | 0,.lst l,h=>by cases h
 | 0,.kst l,h=>by cases h
 | 0,.dct l,h=>by cases h
 | n+1,.dct l,h=>by cases h
 | 0,.exn _ _,h=>by cases h
 | n+1,.exn _ _,h=>by cases h
 | 0,.dtt _,h=>by cases h
 | n+1,.dtt _,h=>by cases h
def eqD(a b:D):Bool:=PyData.eqv (toPy a) (toPy b)
def eqDs:List D->List D->Bool
 | [],[]=>true
 | a::r,b::t=>eqD a b&&eqDs r t
 | _,_=>false
theorem ahy:∀a b:List D,PyData.eqvAll (adc a) (adc b)=eqDs a b
 | [],[]=>rfl
 | a::r,b::t=>by
  show(PyData.eqv (toPy a) (toPy b)&&PyData.eqvAll (adc r) (adc t))=_;rw[ahy r t];rfl
 | [],_::_=>rfl
 | _::_,[]=>rfl
section
variable{K:Fg9}{X:Cx}
section
variable{jv:List (Addr×Obj)}{σ:L2.St}{F H:Hp}{s:Shared}
mutual
theorem ww(I:Inv X jv σ H s)(g:Same F H):∀{n:Nat} {d:D} {v:V} {u:Value},Is X.K F d v->okD n d=true->RelV v u->∃as,Reads s.heap u (toPy d) as
 | _,_,_,_,.non,_,r=>by cases r;exact⟨_,.none⟩
 | _,_,_,_,.bl b,_,r=>by cases r;exact⟨_,.bool b⟩
 | _,_,_,_,.int i,_,r=>by obtain⟨t,rfl⟩:=r;exact⟨_,.int i t⟩
 | _,_,_,_,.str i,_,r=>by obtain⟨t,rfl⟩:=r;exact⟨_,.str i t⟩
 | 0,_,_,_,.tup e h,k,r=>by cases k
 | n+1,_,_,_,.tup e h,k,r=>by
  cases r;obtain⟨its,rv,p1,_⟩:=I.tuple (SqT.of (g _ _ e));obtain⟨o,ho,hc,m,hd⟩:=p1;obtain⟨as,ra⟩:=aax I g h k rv;exact⟨_,.tuple ho hc hd (by simpa using ra)⟩
 | 0,_,_,_,.lst e h,k,r=>by cases k
 | n+1,_,_,_,.lst e h,k,r=>by
  cases r;obtain⟨its,rv,p1,_⟩:=I.list (SqL.of (g _ _ e));obtain⟨o,ho,hc,m,hd⟩:=p1.isList;obtain⟨as,ra⟩:=aax I g h k rv;exact⟨_,.list ho hc hd (by simpa using ra)⟩
 | 0,_,_,_,.kst e h,k,r=>by cases k
 | n+1,_,_,_,.kst e h,k,r=>by
  cases r;obtain⟨its,rv,p1,_⟩:=I.list (L2.Same.seq g e);obtain⟨o,ho,hc,m,hd⟩:=p1.isList;obtain⟨as,ra⟩:=aax I g h k rv;exact⟨_,.list ho hc hd (by simpa using ra)⟩
 | 0,_,_,_,.dct e h,k,r=>by cases k
 | n+1,_,_,_,.dct e h,k,r=>by cases k
 | 0,_,_,_,.exn ..,k,r=>by cases k
 | n+1,_,_,_,.exn ..,k,r=>by cases k
 | 0,_,_,_,.dtt ..,k,r=>by cases k
 | n+1,_,_,_,.dtt ..,k,r=>by cases k
theorem aax(I:Inv X jv σ H s)(g:Same F H):∀{n:Nat} {ds:List D} {vs:List V} {us:List Value},IsL X.K F ds vs->ds.all (okD n)=true->Vals vs us->∃as,ReadsAll s.heap us (adc ds) as
 | _,_,_,_,.nil,_,r=>by cases r;exact⟨_,.nil⟩
 | n,_,_,_,.cons h t,k,r=>by
  rw[List.all_cons,Bool.and_eq_true] at k;cases r with
  | cons r1 r2 =>
   obtain⟨as,ra⟩:=ww I g h k.1 r1;obtain⟨bs,rb⟩:=aax I g t k.2 r2;exact⟨_,.cons ra rb⟩
end
theorem aaw(I:Inv X jv σ H s)(g:Same F H){n:Nat}{d:D}{v:V}{u:Value}(h:Bor X.K F H d v)(k:okD n d=true)(r:RelV v u):∃as,Reads s.heap u (toPy d) as:=by
 rcases h with h | ⟨a,vs,l,rfl,rfl,e,h⟩
 ·exact ww I g h k r
 ·cases r;cases n with
  | zero=>cases k
  | succ n =>
   obtain⟨its,rv,p1,_⟩:=I.list (SqL.of e);obtain⟨o,ho,hc,m,hd⟩:=p1.isList;obtain⟨as,ra⟩:=aax I g h k rv;exact⟨_,.list ho hc hd (by simpa using ra)⟩
end
def gEq(neg:Bool)(a b:D):Option Rv:=if okD 30 a&&okD 30 b then some (.v (.bl (if neg then !eqD a b else eqD a b))) else none
theorem acs(hu:X.A.units+64 < cLine):OpD K X (compareOp .Eq) (gEq false):=OpD.mk fun hk=>by
 intro jv s σ0 H x y v u Q I rx ry z9;obtain⟨tg,F,ρ,σ,d1,d2,r,G,b1,b2,eg,q⟩:=z9;subst hk;unfold gEq at eg;split at eg
 ·rename_i ho;rw[Bool.and_eq_true] at ho;cases eg;obtain⟨as,ra⟩:=aaw I G.sub b1 ho.1 rx;obtain⟨bs,rb⟩:=aaw I G.sub b2 ho.2 ry;obtain⟨c1,p1⟩:=aa0 _ _ ho.1;obtain⟨c2,p2⟩:=aa0 _ _ ho.2;exact PySem.SeqAt.compareEq_reads ra rb c1 c2 (by omega) ⟨.bl _,H,I,rfl,Res.same G q (.bl _)⟩
 ·cases eg
theorem air(hu:X.A.units+64 < cLine):OpD K X (compareOp .NotEq) (gEq true):=OpD.mk fun hk=>by
 intro jv s σ0 H x y v u Q I rx ry z9;obtain⟨tg,F,ρ,σ,d1,d2,r,G,b1,b2,eg,q⟩:=z9;subst hk;unfold gEq at eg;split at eg
 ·rename_i ho;rw[Bool.and_eq_true] at ho;cases eg;obtain⟨as,ra⟩:=aaw I G.sub b1 ho.1 rx;obtain⟨bs,rb⟩:=aaw I G.sub b2 ho.2 ry;obtain⟨c1,p1⟩:=aa0 _ _ ho.1;obtain⟨c2,p2⟩:=aa0 _ _ ho.2;exact PySem.SeqAt.compareNe_reads ra rb c1 c2 (by omega) ⟨.bl _,H,I,rfl,Res.same G q (.bl _)⟩
 ·cases eg
def itemsD:D->Option (List D)
 | .tup l=>some l
 | .lst l=>some l
 | .kst l=>some l
 | _=>none
def gIn(neg:Bool)(a b:D):Option Rv:=match itemsD b with
 | some l=>if okD 30 a&&l.all (okD 30) then some (.v (.bl (if neg then !l.any (fun y=>eqD y a) else l.any (fun y=>eqD y a)))) else none
 | none=>none
open Classical in
noncomputable def acd(h:Heap)(dx:PyData)(u:Value):Bool:=decide (∃d as,Reads h u d as/\d.canLay0=true/\PyData.eqv d dx=true)
open Classical in
theorem aek{h:Heap}{dx d:PyData}{u:Value}{as:List Addr}(r:Reads h u d as)(c:d.canLay0=true):acd h dx u=PyData.eqv d dx:=by
 unfold acd;cases e:PyData.eqv d dx with
 | true=>exact decide_eq_true ⟨d,as,r,c,e⟩
 | false =>
  refine decide_eq_false ?_
  rintro⟨d',as',r',c',e'⟩
  rw[<-PySem.SeqAt.Reads.unique d d' u as as' c r r'] at e';rw[e] at e';cases e'
theorem yr{jv:List (Addr×Obj)}{σ:L2.St}{F H:Hp}{s:Shared}(I:Inv X jv σ H s)(g:Same F H){a:D}{n:Nat}:∀{ds:List D} {vs:List V} {us:List Value},IsL X.K F ds vs->ds.all (okD n)=true->Vals vs us ->
  us.any (acd s.heap (toPy a))=ds.any (fun y=>eqD y a)/\∀u∈us,∃d as,Reads s.heap u d as/\d.canLay0=true/\d.depth<=n
 | _,_,_,.nil,_,r=>by cases r;exact⟨rfl,fun u hu=>by cases hu⟩
 | _,_,_,.cons h t,k,r=>by
  rw[List.all_cons,Bool.and_eq_true] at k;cases r with
  | cons r1 r2 =>
   obtain⟨as,ra⟩:=ww I g h k.1 r1;obtain⟨c,p⟩:=aa0 _ _ k.1;obtain⟨e,z⟩:=yr I g (a:=a) t k.2 r2;refine⟨?_,fun u hu =>?_⟩
   ·rw[List.any_cons,List.any_cons,e,aek ra c];rfl
   ·rcases List.mem_cons.mp hu with rfl | hu
    ·exact⟨_,as,ra,c,p⟩
    ·exact z u hu
theorem yp{s:Shared}{A:Around}(hu:A.units+64 < cLine){us:List Value}{a:D}{v:Value}{as:List Addr}(ra:Reads s.heap v (toPy a) as)(ka:okD 30 a=true)(z:∀u∈us,∃d as,Reads s.heap u d as/\d.canLay0=true/\d.depth<=30) :
  ∀u∈us,SeqAt.EqAt A.in1 s u v (acd s.heap (toPy a) u):=fun u hm=>by
 obtain⟨d,bs,rb,c,p⟩:=z u hm;obtain⟨c2,p2⟩:=aa0 _ _ ka;rw[aek rb c];refine PySem.SeqAt.eqAt_reads d (toPy a) A.in1 s u v bs as rb ra c c2 ?_;show A.units+1+_ < _;omega
theorem api{a b:D}{neg:Bool}{r:Rv}(h:gIn neg a b=some r):∃l,itemsD b=some l/\okD 30 a=true/\l.all (okD 30)=true/\r=.v (.bl (if neg then !l.any (fun y=>eqD y a) else l.any (fun y=>eqD y a))):=by
 unfold gIn at h;split at h
 ·rename_i l e;split at h
  ·rename_i ho;rw[Bool.and_eq_true] at ho;cases h;exact⟨l,e,ho.1,ho.2,rfl⟩
  ·cases h
 ·cases h
theorem agw{F H:Hp}{d:D}{l:List D}{x:V}(g:Same F H)(e:itemsD d=some l)(h:Bor K F H d x):∃a vs,x=.ref a/\IsL K F l vs/\(SqL K H a vs∨SqT K H a vs):=by
 cases d with
 | tup k =>
  cases e;obtain⟨a,vs,rfl,e,h⟩:=h.tup;exact⟨a,vs,rfl,h,.inr (SqT.of (g _ _ e))⟩
 | lst k =>
  cases e;obtain⟨a,vs,rfl,e,h⟩:=h.lst g;exact⟨a,vs,rfl,h,.inl (SqL.of e)⟩
 | kst k =>
  cases e;obtain⟨a,vs,rfl,e,h⟩:=h.kst;exact⟨a,vs,rfl,h,.inl (L2.Same.seq g e)⟩
 | _=>cases e
theorem aoo(hu:X.A.units+64 < cLine):OpD K X (compareOp .NotIn) (gIn true):=OpD.mk fun hk=>by
 intro jv s σ0 H x y v u Q I rx ry z9;obtain⟨tg,F,ρ,σ,d1,d2,r,G,b1,b2,eg,q⟩:=z9;subst hk;obtain⟨l,e,k1,k2,rfl⟩:=api eg;obtain⟨as,ra⟩:=aaw I G.sub b1 k1 rx;obtain⟨p,vs,rfl,hl,hs⟩:=agw G.sub e b2;cases ry;rcases hs with hs | hs
 ·obtain⟨its,rv,pl,_⟩:=I.list hs;obtain⟨ea,z⟩:=yr I G.sub (a:=d1) hl k2 rv;refine SeqAt.notIn_listAt (acd s.heap (toPy d1)) pl.isList (fun w hw=>yp hu ra k1 z w (by simpa using hw)) ⟨.bl _,H,I,rfl,?_⟩
  rw[show its.toArray.any (acd s.heap (toPy d1))=its.any (acd s.heap (toPy d1)) by simp,ea]
  exact Res.same G q (.bl _)
 ·obtain⟨its,rv,pl,_⟩:=I.tuple hs;obtain⟨ea,z⟩:=yr I G.sub (a:=d1) hl k2 rv;refine SeqAt.notIn_tupleAt (acd s.heap (toPy d1)) pl (fun w hw=>yp hu ra k1 z w (by simpa using hw)) ⟨.bl _,H,I,rfl,?_⟩
  rw[show its.toArray.any (acd s.heap (toPy d1))=its.any (acd s.heap (toPy d1)) by simp,ea]
  exact Res.same G q (.bl _)
end
end Dn
namespace Dn
open L2 Mn
section
variable{K:Fg9}{X:Cx}{e a b c:Expr}{es:List Expr}{pos p:Pos}
theorem avx:OpD K X (binaryOp .FloorDiv) (gInt fDiv):=aj7 aru fun i j k h=>by
 unfold fDiv at h;split at h
 ·cases h;exact⟨by assumption,rfl⟩
 ·cases h
theorem ab4:OpD K X (binaryOp .Mod) (gInt fMod):=aj7 ayz fun i j k h=>by
 unfold fMod at h;split at h
 ·cases h;exact⟨by assumption,rfl⟩
 ·cases h
theorem aon:OpD K X (binaryOp .Pow) (gInt fPow):=aj7 ayx fun i j k h=>by
 unfold fPow at h;split at h
 ·rename_i hc;cases h;exact⟨⟨hc.1,hc.2.1,hc.2.2⟩,rfl⟩
 ·cases h
def gMul:D->D->Option Rv
 | .int i,.int j=>(fMul i j).map fun k=>.v (.int k)
 | .tup l,.int k=>if k=1 then some (.v (.tup l)) else if l≠[]/\2<=k/\k < 9223372036854775808/\l.length*k.toNat<=capS then some (.v (.tup (List.replicate k.toNat l).flatten)) else none
 | .lst l,.int k=>if k.natAbs < 9223372036854775808/\l.length*k.toNat<=capS then some (.fr (List.replicate k.toNat l).flatten) else none
 | _,_=>none
theorem ae4:OpD K X (binaryOp .Mult) gMul:=OpD.mk fun hk=>by
 intro jv s σ0 H x y v u Q I rx ry z9;obtain⟨tg,F,ρ,σ,d1,d2,r,G,b1,b2,eg,q⟩:=z9;subst hk;unfold gMul at eg;split at eg
 ·rename_i i j;obtain rfl:=b1.int;obtain rfl:=b2.int;unfold fMul at eg;split at eg
  ·rename_i hc;cases eg;exact ayy jv s σ0 H _ _ v u Q I rx ry ⟨_,_,rfl,rfl,hc,Res.same G q (.int _)⟩
  ·cases eg
 ·rename_i l k;split at eg
  ·rename_i hk1;subst hk1;cases eg;obtain⟨a1,vs1,rfl,s1,i1⟩:=b1.tup;obtain rfl:=b2.int;exact avy jv s σ0 H _ _ v u Q I rx ry ⟨a1,vs1,rfl,rfl,G.sub _ _ s1,Res.same G q (.tup s1 i1)⟩
  split at eg
  ·rename_i hc;obtain⟨h0,h2,h3,hz⟩:=hc;cases eg;obtain⟨a1,vs1,rfl,s1,i1⟩:=b1.tup;obtain rfl:=b2.int;have l1:=i1.length;refine ars jv s σ0 H _ _ v u Q I rx ry ⟨a1,vs1,k,rfl,rfl,G.sub _ _ s1,?_,h2,h3,by rw[<-l1];exact afr hz,fun p hp=>Res.tup G q (i1.rep _) hp⟩
   intro z;subst z;cases i1;exact h0 rfl
  ·cases eg
 ·rename_i l k;split at eg
  ·rename_i hc;obtain⟨hab,hz⟩:=hc;have h0 : -9223372036854775808<=k:=by omega
   have h2:k < 9223372036854775808:=by omega
   cases eg;obtain⟨a1,vs1,rfl,s1,i1⟩:=b1.lst G.sub;obtain rfl:=b2.int;have l1:=i1.length;exact ayw jv s σ0 H _ _ v u Q I rx ry ⟨a1,k,vs1,rfl,rfl,s1,h0,h2,by rw[<-l1];exact afr hz,fun p hp=>Res.lst G q (i1.rep _) hp⟩
  ·cases eg
 ·cases eg
def gCmp(f:Int->Int->Bool):D->D->Option Rv
 | .int i,.int j=>some (.v (.bl (f i j)))
 | _,_=>none
theorem aor{op:CmpOp}{f:Int->Int->Bool}(h:OpR X (compareOp op) (rI0 fun i j=>.bl (f i j))):OpD K X (compareOp op) (gCmp f):=OpD.mk fun hk=>by
 intro jv s σ0 H x y v u Q I rx ry z9;obtain⟨tg,F,ρ,σ,d1,d2,r,G,b1,b2,eg,q⟩:=z9;unfold gCmp at eg;split at eg
 ·cases eg;obtain rfl:=b1.int;obtain rfl:=b2.int;exact h jv s σ0 H _ _ v u Q I rx ry ⟨_,_,rfl,rfl,Res.same G q (.bl _)⟩
 ·cases eg
theorem aop:OpD K X (compareOp .Lt) (gCmp fun i j=>decide (i < j)):=aor a2u
theorem aoq:OpD K X (compareOp .GtE) (gCmp fun i j=>decide (j<=i)):=aor a2v
def gNeg:D->Option D
 | .int i=>some (.int (-i))
 | _=>none
def mUn(g:D->Option D)(m:M D):M D:=m.bind fun d=>lift (g d)
theorem ac6{m:M D}(h:EV K X a m):EV K X (.UnaryOp .USub a pos) (mUn gNeg m):=EV.mk fun hk=>PE.imp (a2p axn (h hk)) fun σ H Q z9=>by
 obtain⟨tg,F,ρ,d,ρ',G,em,q⟩:=z9;obtain⟨d1,ρ1,e1,em⟩:=aq em;obtain⟨e2,rfl⟩:=gk em;refine⟨tg,F,ρ,d1,_,G,e1,fun v H' F' G' x r =>?_⟩
 cases d1 with
 | int i =>
  cases e2;cases r;exact⟨i,rfl,q _ H' F' G' x (.int _)⟩
 | _=>cases e2
def asB:D->Option Bool
 | .bl b=>some b
 | _=>none
def gNot(d:D):Option D:=(asB d).map fun k=>.bl (!k)
theorem aqq{d:D}{k:Bool}(h:asB d=some k):d=.bl k:=by
 cases d with
 | bl b=>cases h;rfl
 | _=>cases h
theorem aud{m:M D}(h:EV K X a m):EV K X (.UnaryOp .Not a pos) (mUn gNot m):=EV.mk fun hk=>PE.imp (ayo (h hk)) fun σ H Q z9=>by
 obtain⟨tg,F,ρ,d,ρ',G,em,q⟩:=z9;obtain⟨d1,ρ1,e1,em⟩:=aq em;obtain⟨e2,rfl⟩:=gk em;refine⟨tg,F,ρ,d1,_,G,e1,fun v H' F' G' x r =>?_⟩
 cases d1 with
 | bl i =>
  cases e2;cases r;exact⟨i,rfl,q _ H' F' G' x (.bl _)⟩
 | _=>cases e2
def mAnd(m1 m2:M D):M D:=m1.bind fun d=>(lift (asB d)).bind fun k=>if k=true then m2 else ret (.bl false)
theorem ajd{op}{m:M D}(h:EV K X a m):EV K X (.BoolOp op [a] pos) m:=EV.mk fun hk=>ayn (h hk)
theorem agh{m1 m2:M D}{rest:List Expr}(h1:EV K X a m1)(h2:EV K X (.BoolOp .And (b::rest) pos) m2):EV K X (.BoolOp .And (a::b::rest) pos) (mAnd m1 m2):=EV.mk fun hk=>PE.imp (ayu (h1 hk) (h2 hk)) fun σ H Q z9=>by
 obtain⟨tg,F,ρ,d,ρ',G,em,q⟩:=z9;obtain⟨d1,ρ1,e1,em⟩:=aq em;obtain⟨k,ρ2,e2,em⟩:=aq em;obtain⟨e3,rfl⟩:=gk e2;obtain rfl:=aqq e3;refine⟨tg,F,ρ,_,_,G,e1,fun v H' F' G' x r =>?_⟩
 cases r;refine⟨k,rfl,?_⟩;cases k with
 | true=>exact iteT ⟨tg,F',_,d,ρ',G',em,fun v2 H2 F2 G2 x2 r2=>q v2 H2 F2 G2 (x.trans x2) r2⟩
 | false =>
  obtain⟨rfl,rfl⟩:=jf (show ret (D.bl false) _=_ from em)
  exact iteF (q _ H' F' G' x (.bl _))
def TB(K:Fg9)(m:M Bool):TT:=fun σ H Q=>∃tg F ρ k ρ',Good K tg F H ρ σ/\m ρ=some (.ok k,ρ')/\∀H' F',Good K tg F' H' ρ' σ->Ext (Own ρ σ) (Own ρ' σ) F H F' H'->Q k H'
structure ET (K:Fg9) (X:Cx) (e:Expr) (m:M Bool):Prop where
 go:X.K=K->PT X e (TB K m)
instance {K:Fg9} {X:Cx} {e:Expr} {m:M Bool}:CoeFun (ET K X e m) fun _=>X.K=K->PT X e (TB K m):=⟨ET.go⟩
structure EW (K:Fg9) (X:Cx) (e:Expr) (m:M Bool):Prop where
 go:X.K=K->PW X e (TB K m)
instance {K:Fg9} {X:Cx} {e:Expr} {m:M Bool}:CoeFun (EW K X e m) fun _=>X.K=K->PW X e (TB K m):=⟨EW.go⟩
theorem PT.imp{t t':TT}(h:PT X e t)(w:∀σ H Q,t' σ H Q->t σ H Q):PT X e t':=fun jv s σ H Q I q=>h jv s σ H Q I (w σ H Q q)
theorem PW.imp{t t':TT}(h:PW X e t)(w:∀σ H Q,t' σ H Q->t σ H Q):PW X e t':=fun wh jv s σ H Q I q=>h wh jv s σ H Q I (w σ H Q q)
theorem EW.pt{m:M Bool}(h:EW K X e m):ET K X e m:=ET.mk fun hk=>(h hk).pt
def wu(m:M D):M Bool:=m.bind fun d=>lift (asB d)
theorem aq1{m:M D}(σ:L2.St)(H:Hp)(Q:Bool->Hp->Prop)(t:TB K (wu m) σ H Q):tB (T K (relD K) m) σ H Q:=by
 obtain⟨tg,F,ρ,k,ρ',G,em,q⟩:=t;obtain⟨d1,ρ1,e1,em⟩:=aq em;obtain⟨e3,rfl⟩:=gk em;obtain rfl:=aqq e3;refine⟨tg,F,ρ,_,_,G,e1,fun v H' F' G' x r =>?_⟩
 cases r;exact⟨k,rfl,q H' F' G' x⟩
theorem qi{m:M D}(h:EV K X e m)(he:∀whole,isTrue e X.env whole=(do let v <-whole;standAt e.pos;holding [v] (truthy v)):=by intro _;rfl):ET K X e (wu m):=ET.mk fun hk=>PT.imp (aya (h hk) he) aq1
def wz(g:D->D->Option Rv)(m:M (D×D)):M Bool:=wu (mOp g m).d
theorem aah{op:CmpOp}{g:D->D->Option Rv}{m:M (D×D)}(ho:OpD K X (compareOp op) g)(h:E2 K X a b m)(hm:behindInMarks op b=false):ET K X (.Compare a [op] [b] pos) (wz g m):=ET.mk fun hk=>by
 obtain⟨ta,tb,ha,hb,h⟩:=h hk;refine PT.imp (avc (ho hk) ha hb hm) fun σ H Q t =>?_
 obtain⟨tg,F,ρ,k,ρ',G,em,q⟩:=t;obtain⟨d1,ρ1,e1,em⟩:=aq em;obtain⟨e3,rfl⟩:=gk em;obtain rfl:=aqq e3;obtain⟨r,ρ2,e1,em⟩:=aq e1;obtain⟨er,rfl⟩:=jf em;refine alh h σ H _ ⟨tg,F,ρ,r,_,G,e1,fun v H' F' G' x w =>?_⟩
 cases r with
 | v d =>
  have er:d=.bl k:=er;subst er;have w:Is K F' (.bl k) v:=w;cases w;exact⟨k,rfl,q H' F' G' x⟩
 | fr l=>cases er
 | tf d l=>cases er
def yw(m:M Bool):M Bool:=m.bind fun k=>ret (!k)
theorem qj{m:M Bool}(h:ET K X a m):ET K X (.UnaryOp .Not a pos) (yw m):=ET.mk fun hk=>PT.imp (ayb (h hk)) fun σ H Q z9=>by
 obtain⟨tg,F,ρ,k,ρ',G,em,q⟩:=z9;obtain⟨d1,ρ1,e1,em⟩:=aq em;obtain⟨rfl,rfl⟩:=jf em;exact⟨tg,F,ρ,d1,_,G,e1,fun H' F' G' x=>q H' F' G' x⟩
def ar5(m1 m2:M Bool):M Bool:=m1.bind fun k=>if k=true then m2 else ret false
def mOrB(m1 m2:M Bool):M Bool:=m1.bind fun k=>if k=true then ret true else m2
theorem apq{m:M Bool}(h:ET K X a m):EW K X (.BoolOp .And [a] pos) m:=EW.mk fun hk=>au9 (h hk)
theorem aed{m:M Bool}(h:ET K X a m):EW K X (.BoolOp .Or [a] pos) m:=EW.mk fun hk=>ax6 (h hk)
theorem auc{m1 m2:M Bool}{rest:List Expr}(h1:ET K X a m1)(h2:EW K X (.BoolOp .And (b::rest) pos) m2):EW K X (.BoolOp .And (a::b::rest) pos) (ar5 m1 m2):=EW.mk fun hk=>PW.imp (ax7 (h1 hk) (h2 hk)) fun σ H Q z9=>by
 obtain⟨tg,F,ρ,d,ρ',G,em,q⟩:=z9;obtain⟨k,ρ1,e1,em⟩:=aq em;refine⟨tg,F,ρ,k,_,G,e1,fun H' F' G' x =>?_⟩
 cases k with
 | true=>exact iteT ⟨tg,F',_,d,ρ',G',em,fun H2 F2 G2 x2=>q H2 F2 G2 (x.trans x2)⟩
 | false =>
  obtain⟨rfl,rfl⟩:=jf (show ret false _=_ from em)
  exact iteF (q H' F' G' x)
theorem ahx{m1 m2:M Bool}{rest:List Expr}(h1:ET K X a m1)(h2:EW K X (.BoolOp .Or (b::rest) pos) m2):EW K X (.BoolOp .Or (a::b::rest) pos) (mOrB m1 m2):=EW.mk fun hk=>PW.imp (a2j (h1 hk) (h2 hk)) fun σ H Q z9=>by
 obtain⟨tg,F,ρ,d,ρ',G,em,q⟩:=z9;obtain⟨k,ρ1,e1,em⟩:=aq em;refine⟨tg,F,ρ,k,_,G,e1,fun H' F' G' x =>?_⟩
 cases k with
 | false=>exact iteF ⟨tg,F',_,d,ρ',G',em,fun H2 F2 G2 x2=>q H2 F2 G2 (x.trans x2)⟩
 | true =>
  obtain⟨rfl,rfl⟩:=jf (show ret true _=_ from em)
  exact iteT (q H' F' G' x)
def ai1(f g:Int->Int->Bool)(m1 m2 m3:M D):M D:=m1.bind fun x=>m2.bind fun y=>match x,y with
 | .int i,.int j=>if f i j=true then m3.bind fun z=>match z with
  | .int k=>ret (.bl (g j k))
  | _=>lift none
  else ret (.bl false)
 | _,_=>lift none
theorem ap3{f g:Int->Int->Bool}{m1 m2 m3:M D}(σ:L2.St)(H:Hp)(Q:VK)(t:T K (relD K) (ai1 f g m1 m2 m3) σ H Q) :
  atm (rI0 fun i j=>.bl (f i j)) (rI0 fun i j=>.bl (g i j)) (T K (relD K) m1) (T K (relD K) m2) (T K (relD K) m3) σ H Q:=by
 obtain⟨tg,F,ρ,d,ρ',G,em,q⟩:=t;obtain⟨d1,ρ1,e1,em⟩:=aq em;obtain⟨d2,ρ2,e2,em⟩:=aq em;have bad:∀{ρ:Ro},(lift (none:Option D)) ρ=some (.ok d,ρ')->False:=fun z=>by
  obtain⟨z,_⟩:=gk z;cases z
 cases d1 with
 | int i =>
  cases d2 with
  | int j =>
   refine⟨tg,F,ρ,_,ρ1,G,e1,fun v H1 F1 G1 x1 r1=>⟨tg,F1,ρ1,_,ρ2,G1,e2,fun v2 H2 F2 G2 x2 r2 =>?_⟩⟩
   cases r1;cases r2;refine⟨i,j,rfl,rfl,f i j,rfl,?_⟩;have em:(if f i j=true then m3.bind fun z=>match z with
    | .int k=>ret (.bl (g j k))
    | _=>lift none
    else ret (.bl false)) ρ2=some (.ok d,ρ'):=em
   by_cases hf:f i j=true
   ·rw[if_pos hf] at em ⊢
    obtain⟨d3,ρ3,e3,em⟩:=aq em;refine⟨tg,F2,ρ2,d3,ρ3,G2,e3,fun v3 H3 F3 G3 x3 r3 =>?_⟩
    cases d3 with
    | int k =>
     obtain⟨rfl,rfl⟩:=jf (show ret (D.bl (g j k)) _=_ from em)
     cases r3;exact⟨j,k,rfl,rfl,q _ H3 F3 G3 ((x1.trans x2).trans x3) (.bl _)⟩
    | _=>exact(bad em).elim
   ·rw[if_neg hf] at em ⊢
    obtain⟨rfl,rfl⟩:=jf em;exact q _ H2 F2 G2 (x1.trans x2) (.bl _)
  | _=>exact(bad em).elim
 | _=>cases d2 <;> exact(bad em).elim
theorem al9{op op':CmpOp}{f g:Int->Int->Bool}{m1 m2 m3:M D}(ho:OpR X (compareOp op) (rI0 fun i j=>.bl (f i j)))(ho':OpR X (compareOp op') (rI0 fun i j=>.bl (g i j)))(h1:EV K X a m1)(h2:EV K X b m2)(h3:EV K X c m3)
  (hm:lastMarks [op,op'] [b,c]=false:=by with_unfolding_all rfl):EV K X (.Compare a [op,op'] [b,c] pos) (ai1 f g m1 m2 m3):=EV.mk fun hk=>PE.imp (aro ho ho' (h1 hk) (h2 hk) (h3 hk) hm) ap3
end
section
variable{K:Fg9}{X:Cx}{e a b c:Expr}{es:List Expr}{pos p p2:Pos}
def TL(K:Fg9)(m:M (List D)):TA:=fun σ H Q=>∃tg F ρ ds ρ',Good K tg F H ρ σ/\m ρ=some (.ok ds,ρ')/\∀vs H' F',Good K tg F' H' ρ' σ->Ext (Own ρ σ) (Own ρ' σ) F H F' H'->IsL K F' ds vs->Q vs H'
structure ED (K:Fg9) (X:Cx) (es:List Expr) (m:M (List D)):Prop where
 go:X.K=K->PA X es (TL K m)
instance {K:Fg9} {X:Cx} {es:List Expr} {m:M (List D)}:CoeFun (ED K X es m) fun _=>X.K=K->PA X es (TL K m):=⟨ED.go⟩
theorem PA.imp{t t':TA}(h:PA X es t)(w:∀σ H Q,t' σ H Q->t σ H Q):PA X es t':=fun ps jv s σ H Q I q=>h ps jv s σ H Q I (w σ H Q q)
def mNil:M (List D):=ret []
def ak(m:M D)(ms:M (List D)):M (List D):=m.bind fun d=>ms.bind fun ds=>ret (d::ds)
theorem bc:ED K X [] mNil:=ED.mk fun _=>PA.imp ad4 fun σ H Q z9=>by
 obtain⟨tg,F,ρ,ds,ρ',G,em,q⟩:=z9;obtain⟨rfl,rfl⟩:=jf em;exact q [] H F G (Ext.refl _ _ _) .nil
theorem aj{m:M D}{ms:M (List D)}(h:EV K X e m)(t:ED K X es ms)(hs:starEach (e::es) X.env=(false,eval e X.env)::starEach es X.env:=by rfl):ED K X (e::es) (ak m ms):=ED.mk fun hk=>PA.imp (qw (h hk) (t hk) hs) fun σ H Q z9=>by
 obtain⟨tg,F,ρ,ds,ρ',G,em,q⟩:=z9;obtain⟨d,ρ1,e1,em⟩:=aq em;obtain⟨r,ρ2,e2,em⟩:=aq em;obtain⟨rfl,rfl⟩:=jf em;exact⟨tg,F,ρ,d,ρ1,G,e1,fun v H1 F1 G1 x1 r1=>⟨tg,F1,ρ1,r,_,G1,e2,fun vs H2 F2 G2 x2 r2=>q _ H2 F2 G2 (x1.trans x2) (.cons (r1.mono x2.sub) r2)⟩⟩
def gTup(ds:List D):Option D:=if ds.length<=capS then some (.tup ds) else none
def gLst(ds:List D):Option Rv:=if ds.length<=capS then some (.fr ds) else none
def mTup(m:M (List D)):M D:=m.bind fun ds=>lift (gTup ds)
def mLst(m:M (List D)):M Rv:=m.bind fun ds=>lift (gLst ds)
theorem dj{k}{m:M (List D)}(h:ED K X es m):EV K X (.Tuple es k pos) (mTup m):=EV.mk fun hk=>PE.imp (ayk (h hk)) fun σ H Q z9=>by
 obtain⟨tg,F,ρ,d,ρ',G,em,q⟩:=z9;obtain⟨ds,ρ1,e1,em⟩:=aq em;obtain⟨e2,rfl⟩:=gk em;unfold gTup at e2;split at e2
 ·rename_i hz;cases e2;refine⟨tg,F,ρ,ds,_,G,e1,fun vs H1 F1 G1 x1 r1=>⟨by rw[<-r1.length];exact afr hz,fun p hp=>q _ _ _ (G1.new hp _) (x1.trans (G1.newX hp _)) (.tup f9 (r1.mono (Same.new (G1.freeF hp) _)))⟩⟩
 ·cases e2
theorem jh{m:M (List D)}(h:ED K X es m):ER K X (.List es pos) (mLst m):=ER.mk fun hk=>PE.imp (ayq (h hk)) fun σ H Q z9=>by
 obtain⟨tg,F,ρ,d,ρ',G,em,q⟩:=z9;obtain⟨ds,ρ1,e1,em⟩:=aq em;obtain⟨e2,rfl⟩:=gk em;unfold gLst at e2;split at e2
 ·rename_i hz;cases e2;refine⟨tg,F,ρ,ds,_,G,e1,fun vs H1 F1 G1 x1 r1=>⟨by rw[<-r1.length];exact afr hz,fun p hp=>q _ _ _ (G1.fresh hp _) (x1.trans (G1.freshX hp _)) ⟨p,vs,rfl,.inl (x1.there p hp),G1.freeF hp,f9,r1,fun z=>G1.own_ne hp z rfl⟩⟩⟩
 ·cases e2
theorem asx{x:Str}{n:Int}{j1 j2:Nat}{p1 p2:Pos}:EV K X (.Dict [some (.Constant (.str x) j1 p1)] [.Constant (.int n) j2 p2] pos) (ret (.dct [(Sum.inr x,.int n)])):=EV.mk fun _=>PE.imp arn fun σ H Q z9=>by
 obtain⟨tg,F,ρ,d,ρ',G,em,q⟩:=z9;obtain⟨rfl,rfl⟩:=jf em;exact fun p hp=>q _ _ _ (G.new hp _) (G.newX hp _) (.dct f9 (.cons (.int n) .nil))
inductive BorL (K:Fg9) (F H:Hp):List D->List V->Prop
 | nil:BorL K F H [] []
 | cons {d:D} {v:V} {ds:List D} {vs:List V} (h:Bor K F H d v) (t:BorL K F H ds vs):BorL K F H (d::ds) (v::vs)
def TA'(K:Fg9)(m:M (List D)):TA:=fun σ H Q=>∃tg F ρ ds ρ',Good K tg F H ρ σ/\m ρ=some (.ok ds,ρ')/\∀vs H' F',Good K tg F' H' ρ' σ->Ext (Own ρ σ) (Own ρ' σ) F H F' H'->BorL K F' H' ds vs->Q vs H'
structure EA (K:Fg9) (X:Cx) (es:List Expr) (m:M (List D)):Prop where
 go:X.K=K->PA X es (TA' K m)
instance {K:Fg9} {X:Cx} {es:List Expr} {m:M (List D)}:CoeFun (EA K X es m) fun _=>X.K=K->PA X es (TA' K m):=⟨EA.go⟩
def iu(i:Nat)(ms:M (List D)):M (List D):=(di i).bind fun _=>ms.bind fun ds=>(di i).bind fun d=>ret (d::ds)
theorem du:EA K X [] mNil:=EA.mk fun _=>PA.imp ad4 fun σ H Q z9=>by
 obtain⟨tg,F,ρ,ds,ρ',G,em,q⟩:=z9;obtain⟨rfl,rfl⟩:=jf em;exact q [] H F G (Ext.refl _ _ _) .nil
theorem ea_v{m:M D}{ms:M (List D)}(h:EV K X e m)(t:EA K X es ms)(hs:starEach (e::es) X.env=(false,eval e X.env)::starEach es X.env:=by rfl):EA K X (e::es) (ak m ms):=EA.mk fun hk=>PA.imp (qw (h hk) (t hk) hs) fun σ H Q z9=>by
 obtain⟨tg,F,ρ,ds,ρ',G,em,q⟩:=z9;obtain⟨d,ρ1,e1,em⟩:=aq em;obtain⟨r,ρ2,e2,em⟩:=aq em;obtain⟨rfl,rfl⟩:=jf em;exact⟨tg,F,ρ,d,ρ1,G,e1,fun v H1 F1 G1 x1 r1=>⟨tg,F1,ρ1,r,_,G1,e2,fun vs H2 F2 G2 x2 r2=>q _ H2 F2 G2 (x1.trans x2) (.cons (.inl (r1.mono x2.sub)) r2)⟩⟩
theorem ea_n{i:Nat}{ms:M (List D)}(h:PE X e (tVar i))(t:EA K X es ms)(hs:starEach (e::es) X.env=(false,eval e X.env)::starEach es X.env:=by rfl):EA K X (e::es) (iu i ms):=EA.mk fun hk=>PA.imp (qw h (t hk) hs) fun σ H Q z9=>by
 obtain⟨tg,F,ρ,ds,ρ',G,em,q⟩:=z9;obtain⟨d0,ρ0,e0,em⟩:=aq em;obtain⟨r,ρ2,e2,em⟩:=aq em;obtain⟨d,ρ1,e1,em⟩:=aq em;obtain⟨rfl,rfl⟩:=jf em;obtain⟨rfl,v,hv,_⟩:=qb G e0;exact⟨v,hv,tg,F,ρ0,r,_,G,e2,fun vs H2 F2 G2 x2 r2=>by
  obtain⟨rfl,v',hv',b'⟩:=qb G2 e1;rw[hv] at hv';cases hv';exact q _ H2 F2 G2 x2 (.cons b' r2)⟩
def rcOf(K:Fg9)(g:List D->Option Rv):List V->Hp->VK->Prop:=fun vs H Q=>∃tg F ρ σ ds r,Good K tg F H ρ σ/\BorL K F H ds vs/\g ds=some r/\Res K tg F H ρ σ r Q
structure CallD (K:Fg9) (X:Cx) (f:Value) (g:List D->Option Rv):Prop where
 go:X.K=K->acg X f (rcOf K g)
instance {K:Fg9} {X:Cx} {f:Value} {g:List D->Option Rv}:CoeFun (CallD K X f g) fun _=>X.K=K->acg X f (rcOf K g):=⟨CallD.go⟩
def gn(g:List D->Option Rv)(m:M (List D)):M Rv:=m.bind fun ds=>lift (g ds)
theorem kh{O O1 O2:Addr->Prop}{F H F1 H1 F2 H2:Hp}{r:Rv}{v:V}(x:Ext O O1 F H F1 H1)(h:relR K r v H1 O1 F2 H2 O2):relR K r v H O F2 H2 O2:=by
 cases r with
 | v d=>exact h
 | fr l =>
  obtain⟨a,vs,ev,ha,w⟩:=h;refine⟨a,vs,ev,?_,w⟩;rcases ha with ha | ha
  ·exact .inl (x.there a ha)
  ·exact(x.own a ha).symm
 | tf d l =>
  obtain⟨t,u,a,vs,ev,ht,hd,ha,w⟩:=h;refine⟨t,u,a,vs,ev,ht,hd,?_,w⟩;rcases ha with ha | ha
  ·exact .inl (x.there a ha)
  ·exact(x.own a ha).symm
theorem amh{g:List D->Option Rv}{m:M (List D)}(σ:L2.St)(H:Hp)(Q:VK)(t:T K (relR K) (gn g m) σ H Q):tCB (rcOf K g) (TA' K m) σ H Q:=by
 obtain⟨tg,F,ρ,r,ρ',G,em,q⟩:=t;obtain⟨ds,ρ1,e1,em⟩:=aq em;obtain⟨e2,rfl⟩:=gk em;exact⟨tg,F,ρ,ds,_,G,e1,fun vs H' F' G' x' bl=>⟨tg,F',_,σ,ds,r,G',bl,e2,fun v H2 F2 G2 x2 rr=>q v H2 F2 G2 (x'.trans x2) (kh x' rr)⟩⟩
section
variable{x:Str}{id Ty:String}{g:List D->Option Rv}{m:M (List D)}
theorem bz(hc:CallD K X (.builtin id) g)(hg:Gl X x)(hm:X.mg x=none)(hv:bootBuiltins x=some (.builtin id))(ha:EA K X (e::es) m)(hn:x ≠ "__name__" := by decide)(hdb:(x==("__debug__" : Str))=false:=by decide)
  (he:starEach (e::es) X.env=(false,eval e X.env)::starEach es X.env:=by rfl) (hpl:(backTo pos (starEach es X.env)).any (·.1)=false:=by rfl):ER K X (.Call (.Name x p) (e::es) [] pos) (gn g m):=ER.mk fun hk=>PE.imp (acq (hc hk) hg hm hv (ha hk) hn hdb he hpl) amh
theorem ql(hc:CallD K X (.type Ty) g)(hg:Gl X x)(hm:X.mg x=none)(hv:bootBuiltins x=some (.type Ty))(ha:EA K X (e::es) m)(hn:x ≠ "__name__" := by decide)(hdb:(x==("__debug__" : Str))=false:=by decide)
  (he:starEach (e::es) X.env=(false,eval e X.env)::starEach es X.env:=by rfl) (hpl:(backTo pos (starEach es X.env)).any (·.1)=false:=by rfl):ER K X (.Call (.Name x p) (e::es) [] pos) (gn g m):=ER.mk fun hk=>PE.imp (aip (hc hk) hg hm hv (ha hk) hn hdb he hpl) amh
end
theorem BorL.one{F H:Hp}{d:D}{vs:List V}(h:BorL K F H [d] vs):∃v,vs=[v]/\Bor K F H d v:=by
 cases h with
 | cons h t=>cases t;exact⟨_,rfl,h⟩
theorem BorL.two{F H:Hp}{d d':D}{vs:List V}(h:BorL K F H [d,d'] vs):∃v v',vs=[v,v']/\Bor K F H d v/\Bor K F H d' v':=by
 cases h with
 | cons h t =>
  obtain⟨v',rfl,h'⟩:=t.one;exact⟨_,_,rfl,h,h'⟩
def g1(f:D->Option Rv):List D->Option Rv
 | [d]=>f d
 | _=>none
def g2(f:D->D->Option Rv):List D->Option Rv
 | [d,d']=>f d d'
 | _=>none
theorem uv{f:D->Option Rv}{w:Value} (h:X.K=K->∀(jv:List (Addr×Obj)) (s:Shared) (σ0:L2.St) (H:Hp) (x:V) (u:Value) (Q:VK) (tg:Nat->Addr) (F:Hp) (ρ:Ro) (σ:L2.St) (d:D) (r:Rv),Inv X jv σ0 H s->RelV x u->Good K tg F H ρ σ->Bor K F H d x->f d=some r->Res K tg F H ρ σ r Q ->
  wpAny (model X.prog X.w) X.A (call w [u]) (EP X jv σ0 Q) X.xe s):CallD K X w (g1 f):=CallD.mk fun hk=>by
 intro jv s σ0 H xs us Q I r z9;obtain⟨tg,F,ρ,σ,ds,rv,G,bl,eg,q⟩:=z9
 match ds,eg with
 | [d],eg =>
  obtain⟨v,rfl,bv⟩:=bl.one;obtain⟨u,rfl,ru⟩:=vals1 r;exact h hk jv s σ0 H v u Q tg F ρ σ d rv I ru G bv eg q
theorem j5:CallD K X (.builtin "len") (g1 fun d=>(itemsD d).map fun l=>.v (.int l.length)):=uv fun hk jv s σ0 H x u Q tg F ρ σ d r I ru G bd eg q=>by
 subst hk;cases e:itemsD d with
 | none=>rw[e] at eg;cases eg
 | some l =>
  rw[e] at eg;cases eg;obtain⟨a,vs,rfl,hl,hs⟩:=agw G.sub e bd;have q':=Res.same G q (.int _);rw[hl.length] at q';exact ajl jv s σ0 H [.ref a] [u] Q I (.cons ru .nil) ⟨a,vs,rfl,hs,q'⟩
def aai:List D->Option (List Bool)
 | []=>some []
 | .bl b::r=>(aai r).map (b :: ·)
 | _::_=>none
theorem ajr:∀{l:List D} {bs:List Bool},aai l=some bs->l=bs.map D.bl
 | [],_,h=>by cases h;rfl
 | .bl b::r,bs,h=>by
  have h':(aai r).map (b :: ·)=some bs:=h;cases e:aai r with
  | none=>rw[e] at h';cases h'
  | some t =>
   rw[e] at h';cases h';rw[ajr e];rfl
 | .non::_,_,h=>by cases h
 | .int _::_,_,h=>by cases h
 | .str _::_,_,h=>by cases h
 | .tup _::_,_,h=>by cases h
 | .lst _::_,_,h=>by cases h
 | .kst _::_,_,h=>by cases h
 | .dct _::_,_,h=>by cases h
@[simp] theorem yq(bs:List Bool):aai (bs.map D.bl)=some bs:=by
 induction bs with
 | nil=>rfl
 | cons b r ih=>show(aai (r.map D.bl)).map (b :: ·)=_;rw[ih];rfl
def gAll:D->Option Rv
 | .lst l=>(aai l).map fun bs=>.v (.bl (bs.all id))
 | _=>none
theorem agn(hc:X.calm=true):CallD K X (.builtin "all") (g1 gAll):=uv fun hk jv s σ0 H x u Q tg F ρ σ d r I ru G bd eg q=>by
 subst hk;cases d with
 | lst l =>
  have eg:(aai l).map (fun bs=>Rv.v (.bl (bs.all id)))=some r:=eg
  cases e:aai l with
  | none=>rw[e] at eg;cases eg
  | some bs =>
   rw[e] at eg;cases eg;obtain⟨a,vs,rfl,ea,hl⟩:=bd.lst G.sub;rw[ajr e] at hl;rw[hl.bl_inv] at ea;exact as9 hc jv s σ0 H [.ref a] [u] Q I (.cons ru .nil) ⟨a,bs,rfl,SqL.of ea,Res.same G q (.bl _)⟩
 | _=>cases eg
def asp:D->Option Rv
 | .int i=>some (.v (.int i))
 | .bl k=>some (.v (.int (if k then 1 else 0)))
 | _=>none
theorem a0k:CallD K X (.type "int") (g1 asp):=uv fun hk jv s σ0 H x u Q tg F ρ σ d r I ru G bd eg q=>by
 cases d with
 | int i =>
  cases eg;obtain rfl:=bd.int;exact ajn jv s σ0 H [_] [u] Q I (.cons ru .nil) (.inl ⟨i,rfl,Res.same G q (.int _)⟩)
 | bl k =>
  cases eg;obtain rfl:=bd.bl;exact ajn jv s σ0 H [_] [u] Q I (.cons ru .nil) (.inr ⟨k,rfl,Res.same G q (.int _)⟩)
 | _=>cases eg
theorem abm:CallD K X (.type "tuple") (g1 fun d=>(itemsD d).map fun l=>.v (.tup l)):=uv fun hk jv s σ0 H x u Q tg F ρ σ d r I ru G bd eg q=>by
 subst hk;cases d with
 | tup l =>
  cases eg;obtain⟨a,vs,rfl,ea,hl⟩:=bd.tup;exact zx jv s σ0 H [_] [u] Q I (.cons ru .nil) ⟨a,vs,rfl,.inr ⟨SqT.of (G.sub _ _ ea),Res.same G q (.tup ea hl)⟩⟩
 | lst l =>
  cases eg;obtain⟨a,vs,rfl,ea,hl⟩:=bd.lst G.sub;exact zx jv s σ0 H [_] [u] Q I (.cons ru .nil) ⟨a,vs,rfl,.inl ⟨SqL.of ea,fun p hp=>Res.tup G q hl hp⟩⟩
 | kst l =>
  cases eg;obtain⟨a,vs,rfl,ea,hl⟩:=bd.kst;exact zx jv s σ0 H [_] [u] Q I (.cons ru .nil) ⟨a,vs,rfl,.inl ⟨L2.Same.seq G.sub ea,fun p hp=>Res.tup G q hl hp⟩⟩
 | _=>cases eg
theorem ap7:CallD K X (.type "list") (g1 fun d=>(itemsD d).map fun l=>.fr l):=uv fun hk jv s σ0 H x u Q tg F ρ σ d r I ru G bd eg q=>by
 subst hk;cases e:itemsD d with
 | none=>rw[e] at eg;cases eg
 | some l =>
  rw[e] at eg;cases eg;obtain⟨a,vs,rfl,hl,hs⟩:=agw G.sub e bd;exact ajk jv s σ0 H [_] [u] Q I (.cons ru .nil) ⟨a,vs,rfl,hs,fun p hp=>Res.lst G q hl hp⟩
theorem auj{f:D->D->Option Rv}{w:Value} (h:X.K=K->∀(jv:List (Addr×Obj)) (s:Shared) (σ0:L2.St) (H:Hp) (x y:V) (u v:Value) (Q:VK) (tg:Nat->Addr) (F:Hp) (ρ:Ro) (σ:L2.St) (d d':D) (r:Rv),Inv X jv σ0 H s->RelV x u->RelV y v->Good K tg F H ρ σ->Bor K F H d x->Bor K F H d' y->f d d'=some r->Res K tg F H ρ σ r Q ->
  wpAny (model X.prog X.w) X.A (call w [u,v]) (EP X jv σ0 Q) X.xe s):CallD K X w (g2 f):=CallD.mk fun hk=>by
 intro jv s σ0 H xs us Q I r z9;obtain⟨tg,F,ρ,σ,ds,rv,G,bl,eg,q⟩:=z9
 match ds,eg with
 | [d,d'],eg =>
  obtain⟨v,v',rfl,bv,bv'⟩:=bl.two;obtain⟨u,w,rfl,ru,rw'⟩:=vals2 r;exact h hk jv s σ0 H v v' u w Q tg F ρ σ d d' rv I ru rw' G bv bv' eg q
theorem a0j(hc:X.calm=true):CallD K X (.builtin "max") (g2 (gInt fun i j=>some (if j > i then j else i))):=auj fun hk jv s σ0 H x y u v Q tg F ρ σ d d' r I ru rv G bd bd' eg q=>by
 unfold gInt at eg;split at eg
 ·cases eg;obtain rfl:=bd.int;obtain rfl:=bd'.int;exact aqb hc jv s σ0 H [_,_] [u,v] Q I (.cons ru (.cons rv .nil)) ⟨_,_,rfl,Res.same G q (.int _)⟩
 ·cases eg
theorem ajo:acg X (.builtin "divmod") (fun xs H Q=>∃i j,xs=[.int i,.int j]/\(0 < j/\j < 1000000000000000000000000000000000000000000000000000000000000)/\∀p,H p=none->Q (.ref p) (upd H p (.tup [.int (i / j),.int (i % j)]))):=by
 intro jv s σ H xs us Q I r h;obtain⟨i,j,rfl,hj,q⟩:=h;obtain⟨u,w',rfl,⟨t,rfl⟩,⟨t',rfl⟩⟩:=vals2 r;have h1:=hj.1;refine divmod_int (by omega) ?_ (.inl (ay7 hj.1 hj.2))
 rw[Int.fdiv_eq_ediv_of_nonneg i (by omega),Int.fmod_eq_emod_of_nonneg i (by omega)]
 refine⟨.ref s.heap.objs.size,_,?_,rfl,q _ (I.hok.fresh (Nat.le_refl _))⟩;exact I.laid (fun b o e=>Heap.get?_push_of_some _ e) (Nat.le_refl _) ⟨by simp only[List.length_cons,List.length_nil];rw[sizeLine_eq];decide,[.int (i / j) s.toks,.int (i % j) (s.toks+1)],.cons ⟨_,rfl⟩ (.cons ⟨_,rfl⟩ .nil),⟨_,Heap.get?_push_size s.heap rfl,rfl,rfl,0,rfl⟩⟩
def aht:D->D->Option Rv
 | .int i,.int j=>if 0 < j/\j < 1000000000000000000000000000000000000000000000000000000000000 then some (.v (.tup [.int (i / j),.int (i % j)])) else none
 | _,_=>none
theorem ap8:CallD K X (.builtin "divmod") (g2 aht):=auj fun hk jv s σ0 H x y u v Q tg F ρ σ d d' r I ru rv G bd bd' eg q=>by
 unfold aht at eg;split at eg
 ·split at eg
  ·rename_i hc;cases eg;obtain rfl:=bd.int;obtain rfl:=bd'.int;exact ajo jv s σ0 H [_,_] [u,v] Q I (.cons ru (.cons rv .nil)) ⟨_,_,rfl,hc,fun p hp=>Res.tup G q (.cons (.int _) (.cons (.int _) .nil)) hp⟩
  ·cases eg
 ·cases eg
inductive Ty where
 | int | bool | tuple | list | str | dict
def Ty.nm:Ty->String
 | .int => "int" | .bool => "bool" | .tuple => "tuple" | .list => "list" | .str => "str" | .dict => "dict"
def tyD:D->Value
 | .non=>.type "NoneType"
 | .bl _=>.type "bool"
 | .int _=>.type "int"
 | .str _=>.type "str"
 | .tup _=>.type "tuple"
 | .lst _=>.type "list"
 | .kst _=>.type "list"
 | .dct _=>.type "dict"
 | .exn _ _=>.type "NoneType"
 | .dtt _=>.type "dict"
def isTy:Ty->D->Bool
 | .int,.int _=>true
 | .int,.bl _=>true
 | .bool,.bl _=>true
 | .tuple,.tup _=>true
 | .list,.lst _=>true
 | .list,.kst _=>true
 | .str,.str _=>true
 | .dict,.dct _=>true
 | .dict,.dtt _=>true
 | _,_=>false
theorem at3(t:Ty)(d:D):PySem.W.kitOne K (tyD d) (.type t.nm)=some (isTy t d):=by
 cases d <;> cases t <;> kernel_rfl
theorem aqc{X:Cx}:acg X (.builtin "isinstance") (fun xs H Q=>∃F d x t,xs=[x,.ty (Ty.nm t)]/\Same F H/\Bor X.K F H d x/\Q (.bl (isTy t d)) H):=by
 intro jv s σ H xs us Q I r z9;obtain⟨F,d,x,t,e,g,h,q⟩:=z9;subst e;obtain⟨u,w',rfl,r1,r2⟩:=vals2 r;obtain rfl:w'=Value.type t.nm:=r2;have fin:∀tk,EP X jv σ Q (.bool (isTy t d)) { s with toks:=tk }:=fun tk=>⟨.bl _,H,I.tok tk,rfl,q⟩
 have go:TyOf X.K H x (tyD d)->wpAny (model X.prog X.w) X.A (call (.builtin "isinstance") [u,.type t.nm]) (EP X jv σ Q) X.xe s:=fun ty=>apc I r1 ty (at3 t d) fin
 cases d with
 | non=>obtain rfl:=h.non;exact go .non
 | bl b=>obtain rfl:=h.bl;exact go (.bl b)
 | int b=>obtain rfl:=h.int;exact go (.int b)
 | str b=>obtain rfl:=h.str;exact go (.str b)
 | tup b=>obtain⟨a,vs,rfl,e,_⟩:=h.tup;exact go (.tup (g _ _ e))
 | lst b=>obtain⟨a,vs,rfl,e,_⟩:=h.lst g;exact go (.lst e)
 | kst b =>
  obtain⟨a,vs,rfl,e,_⟩:=h.kst;cases(show u=Value.ref a from r1)
  obtain⟨its,_,pl,_⟩:=I.list (L2.Same.seq g e);obtain⟨o,ho,hc,n,hd⟩:=pl.isList;exact PySem.W.kia_one PySem.W.kitx_list I.kIn ⟨o,ho,hc⟩ (at3 t (.kst b)) (fun z=>nomatch z) fin
 | dct b =>
  rcases h with h | ⟨a,vs,l',e1,_⟩
  ·cases h with
   | dct e h=>exact go (.dK (g _ _ e))
  ·cases e1
 | dtt b =>
  rcases h with h | ⟨a,vs,l',e1,_⟩
  ·cases h with
   | dtt e=>exact go (.dT (g _ _ e))
  ·cases e1
 | exn c fs =>
  rcases h with h | ⟨a,vs,l',e1,_⟩
  ·cases h with
   | @exn a C c dx fs e hc hk hf =>
    cases(show u=Value.ref a from r1)
    obtain⟨⟨oe,ws,h1,h2,h3,h4⟩,_⟩:=(show ue X.prog X.w H s.heap a (.ext (exO a C dx)) from I.hok a _ (g _ _ e))
    have hno:PySem.W.notCls oe=true:=by unfold PySem.W.notCls;rw[h4]
    have ia:∃ox od,PySem.W.InstAt s.heap a ox C od:=by
     rcases hf with⟨rfl,_⟩ | ⟨d,rfl,hd⟩
     ·exact⟨oe,none,h1,h2,hno,by rw[h3];trivial⟩
     ·obtain⟨mA,⟨od,_,_,e1,_⟩,_⟩:=(show ue X.prog X.w H s.heap d (.xd _) from I.hok d _ (g _ _ hd))
      exact⟨oe,some od,h1,h2,hno,by rw[h3];exact e1⟩
    have kq:PySem.W.kitOne X.K (.ref C) (.type t.nm)=some false:=by
     have h5:PySem.W.subIn X.K (.ref C) (.type t.nm)=some false:=hk.no _ (by cases t <;> simp[Ty.nm])
     have h6:PySem.W.kitMeta t.nm=true:=by cases t <;> kernel_rfl
     unfold PySem.W.kitOne PySem.W.kitCls;rw[if_neg (by simp)]
     show(if PySem.W.kitMeta t.nm=true then PySem.W.subIn X.K (.ref C) (.type t.nm) else none)=some false
     rw[if_pos h6];exact h5
    have e7:isTy t (.exn c fs)=false:=by cases t <;> rfl
    exact PySem.W.kia_one (alv hk) I.kIn ia kq (fun z=>nomatch z) fun tk=>e7▸fin tk
  ·cases e1
def mIsi(t:Ty)(m:M D):M D:=m.bind fun d=>ret (.bl (isTy t d))
theorem ac7{t:Ty}{tn:Expr}{m:M D}{x:Str}(ht:PE X tn (tC (.ty t.nm)))(hg:Gl X x)(hm:X.mg x=none)(hv:bootBuiltins x=some (.builtin "isinstance"))(h:EB K X e m)(hn:x ≠ "__name__" := by decide)(hdb:(x==("__debug__" : Str))=false:=by decide)
  (h1:starEach [tn] X.env=(false,eval tn X.env)::starEach [] X.env:=by rfl) (he:starEach [e,tn] X.env=(false,eval e X.env)::starEach [tn] X.env:=by rfl) (hpl:(backTo pos (starEach [tn] X.env)).any (·.1)=false:=by rfl) :
  EV K X (.Call (.Name x p) [e,tn] [] pos) (mIsi t m):=EV.mk fun hk=>by
 refine PE.imp (acq aqc hg hm hv (qw (h hk) (qw ht ad4 h1) he) hn hdb he hpl) fun σ H Q z9 =>?_
 obtain⟨tg,F,ρ,d,ρ',G,em,q⟩:=z9;obtain⟨d1,ρ1,e1,em⟩:=aq em;obtain⟨rfl,rfl⟩:=jf em;subst hk;exact⟨tg,F,ρ,d1,_,G,e1,fun v H' F' G' x bv=>⟨F',d1,v,t,rfl,G'.sub,bv,q _ H' F' G' x (.bl _)⟩⟩
def gIx(d i:D):Option Rv:=match i with
 | .int k=>(itemsD d).bind fun l=>(atI l k).map fun x=>.v x
 | _=>none
theorem a0r{F:Hp}{l:List D}{vs:List V}{k:Int}{d:D}(h:IsL K F l vs)(e:atI l k=some d):∃v,atI vs k=some v/\Is K F d v:=by
 unfold atI at e ⊢
 rw[h.length] at e;cases q:ixN vs.length k with
 | none=>rw[q] at e;cases e
 | some j =>
  rw[q] at e;obtain⟨v,e1,e2⟩:=h.get (i:=j) e;exact⟨v,e1,e2⟩
theorem ixd:X.K=K->IxR X (rOf K gIx):=fun hk=>by
 intro value slice jv s σ0 H x y v u Q I rx ry z9 hs;obtain⟨tg,F,ρ,σ,d1,d2,r,G,b1,b2,eg,q⟩:=z9;subst hk;cases d2 with
 | int k =>
  have eg:(itemsD d1).bind (fun l=>(atI l k).map fun x=>Rv.v x)=some r:=eg
  cases e:itemsD d1 with
  | none=>rw[e] at eg;cases eg
  | some l =>
   rw[e] at eg;have eg:(atI l k).map (fun x=>Rv.v x)=some r:=eg
   cases e2:atI l k with
   | none=>rw[e2] at eg;cases eg
   | some d =>
    rw[e2] at eg;cases eg;obtain⟨a,vs,rfl,hl,hq⟩:=agw G.sub e b1;obtain rfl:=b2.int;obtain⟨z,hz,iz⟩:=a0r hl e2;rcases hq with hq | hq
    ·exact apa value slice jv s σ0 H _ _ v u Q I rx ry ⟨a,vs,k,z,rfl,rfl,hq,hz,Res.same G q iz⟩ hs
    ·exact azx value slice jv s σ0 H _ _ v u Q I rx ry ⟨a,vs,k,z,rfl,rfl,hq,hz,Res.same G q iz⟩ hs
 | _=>cases eg
theorem j8{m:M (D×D)}(h:E2 K X a b m)(hs:ak1 b):ER K X (.Subscript a b pos) (mOp gIx m):=ER.mk fun hk=>by
 obtain⟨ta,tb,ha,hb,h⟩:=h hk;exact PE.imp (ayr (ixd hk) ha hb hs) (alh h)
def TOp(K:Fg9)(m:M (Option Int)):TO:=fun σ H Q=>∃tg F ρ o ρ',Good K tg F H ρ σ/\m ρ=some (.ok o,ρ')/\∀H' F',Good K tg F' H' ρ' σ->Ext (Own ρ σ) (Own ρ' σ) F H F' H'->Q o H'
structure EO (K:Fg9) (X:Cx) (e:Option Expr) (m:M (Option Int)):Prop where
 go:X.K=K->PO X e (TOp K m)
instance {K:Fg9} {X:Cx} {e:Option Expr} {m:M (Option Int)}:CoeFun (EO K X e m) fun _=>X.K=K->PO X e (TOp K m):=⟨EO.go⟩
theorem PO.imp{eo:Option Expr}{t t':TO}(h:PO X eo t)(w:∀σ H Q,t' σ H Q->t σ H Q):PO X eo t':=fun jv s σ H Q I q=>h jv s σ H Q I (w σ H Q q)
theorem xr:EO K X none (ret none):=EO.mk fun _=>PO.imp avk fun σ H Q z9=>by
 obtain⟨tg,F,ρ,o,ρ',G,em,q⟩:=z9;obtain⟨rfl,rfl⟩:=jf em;exact q H F G (Ext.refl _ _ _)
def asI:D->Option Int
 | .int i=>some i
 | _=>none
theorem ajw{d:D}{k:Int}(h:asI d=some k):d=.int k:=by
 cases d with
 | int b=>cases h;rfl
 | _=>cases h
def acz(m:M D):M (Option Int):=m.bind fun d=>lift ((asI d).map some)
theorem uq{m:M D}(h:EV K X e m):EO K X (some e) (acz m):=EO.mk fun hk=>PO.imp (avj (h hk)) fun σ H Q z9=>by
 obtain⟨tg,F,ρ,o,ρ',G,em,q⟩:=z9;obtain⟨d,ρ1,e1,em⟩:=aq em;obtain⟨e2,rfl⟩:=gk em;refine⟨tg,F,ρ,d,_,G,e1,fun v H' F' G' x r =>?_⟩
 cases d with
 | int i =>
  cases e2;cases r;exact⟨i,rfl,q H' F' G' x⟩
 | _=>cases e2
def cutD(l:List D)(lo hi:Option Int):List D:=(l.drop (HT.sIx l.length 0 lo)).take (HT.sIx l.length l.length hi - HT.sIx l.length 0 lo)
theorem apx{F:Hp}{l:List D}{vs:List V}(h:IsL K F l vs)(lo hi:Option Int):IsL K F (cutD l lo hi) (cutV vs lo hi):=by
 unfold cutD cutV;rw[h.length];exact(h.drop _).take _
def gCut(d:D)(lo hi:Option Int):Option Rv:=match d with
 | .tup l=>some (.v (.tup (cutD l lo hi)))
 | .lst l=>some (.fr (cutD l lo hi))
 | .kst l=>some (.fr (cutD l lo hi))
 | _=>none
def rsOf(K:Fg9):V->Option Int->Option Int->Hp->VK->Prop:=fun x lo hi H Q=>∃tg F ρ σ d r,Good K tg F H ρ σ/\Bor K F H d x/\gCut d lo hi=some r/\Res K tg F H ρ σ r Q
theorem sld(hk:X.K=K):SlR X (rsOf K):=by
 intro jv s σ0 H x v vl vu lo hi sl Q I rx hs pl pu z9;obtain⟨tg,F,ρ,σ,d,r,G,bd,eg,q⟩:=z9;subst hk;cases d with
 | tup l =>
  cases eg;obtain⟨a,vs,rfl,ea,hl⟩:=bd.tup
  by_cases hw:HT.sIx vs.length 0 lo=0/\HT.sIx vs.length vs.length hi=vs.length
  ·have ec:cutD l lo hi=l:=by
    unfold cutD;rw[hl.length,hw.1,hw.2,List.drop_zero,Nat.sub_zero,<-hl.length,List.take_length]
   rw[ec] at q;cases rx;obtain⟨its,r,ht,hz⟩:=I.tuple (SqT.of (G.sub _ _ ea));have hlen:its.toArray.size=vs.length:=by rw[List.size_toArray];exact r.length.symm
   refine⟨"tuple", _,PyProof.Rows.slot_tuple_getitem.lookup,ht.typeIs,?_⟩;exact ab6 ht hs pl pu (by rw[hlen];exact hw.1) (by rw[hlen];exact hw.2) ⟨.ref a,H,I,rfl,Res.same G q (.tup ea hl)⟩
  ·exact axy jv s σ0 H _ v vl vu lo hi sl Q I rx hs pl pu ⟨a,vs,rfl,SqT.of (G.sub _ _ ea),hw,fun p hp=>Res.tup G q (apx hl lo hi) hp⟩
 | lst l =>
  cases eg;obtain⟨a,vs,rfl,ea,hl⟩:=bd.lst G.sub;exact an5 jv s σ0 H _ v vl vu lo hi sl Q I rx hs pl pu ⟨a,vs,rfl,SqL.of ea,fun p hp=>Res.lst G q (apx hl lo hi) hp⟩
 | kst l =>
  cases eg;obtain⟨a,vs,rfl,ea,hl⟩:=bd.kst;exact an5 jv s σ0 H _ v vl vu lo hi sl Q I rx hs pl pu ⟨a,vs,rfl,L2.Same.seq G.sub ea,fun p hp=>Res.lst G q (apx hl lo hi) hp⟩
 | _=>cases eg
def adt(i:Nat)(ml mh:M (Option Int)):M Rv:=(di i).bind fun _=>ml.bind fun lo=>mh.bind fun hi=>(di i).bind fun d=>lift (gCut d lo hi)
theorem vz{i:Nat}{ml mh:M (Option Int)}{lo hi:Option Expr}(h:PE X a (tVar i))(hl:EO K X lo ml)(hh:EO K X hi mh):ER K X (.Subscript a (.Slice lo hi none p2) pos) (adt i ml mh):=ER.mk fun hk=>PE.imp (arl (sld hk) h (hl hk) (hh hk)) fun σ H Q z9=>by
 obtain⟨tg,F,ρ,r,ρ',G,em,q⟩:=z9;obtain⟨d0,ρ0,e0,em⟩:=aq em;obtain⟨o1,ρ2,e2,em⟩:=aq em;obtain⟨o2,ρ3,e3,em⟩:=aq em;obtain⟨d,ρ4,e1,em⟩:=aq em;obtain⟨e4,rfl⟩:=gk em;obtain⟨rfl,v,hv,_⟩:=qb G e0;refine⟨v,hv,tg,F,ρ0,o1,ρ2,G,e2,fun H2 F2 G2 x2=>⟨tg,F2,ρ2,o2,_,G2,e3,fun H3 F3 G3 x3 =>?_⟩⟩
 obtain⟨rfl,v',hv',b'⟩:=qb G3 e1;rw[hv] at hv';cases hv';exact⟨tg,F3,_,σ,d,r,G3,b',e4,fun v' H4 F4 G4 x4 rr=>q v' H4 F4 G4 ((x2.trans x3).trans x4) (kh (x2.trans x3) rr)⟩
end
inductive Fl where
 | nx | ret (r:Rv) | brk | cont | exc (x:Exn)
abbrev Sd:=Ro->Option (Fl×Ro)
section
variable{K:Fg9}{X:Cx}{e a b c tgt:Expr}{es:List Expr}{pos p p2:Pos}{st:Stmt}{ss:List Stmt}
def FlOk(K:Fg9)(tg:Nat->Addr)(ρ:Ro)(σ:L2.St)(F H:Hp)(E:Ends)(fl:Fl)(ρ':Ro):Prop:=match fl with
 | .nx=>∀σ' H' F',Good K tg F' H' ρ' σ'->Ext (Own ρ σ) (Own ρ' σ') F H F' H'->E.nx σ' H'
 | .brk=>∀σ' H' F',Good K tg F' H' ρ' σ'->Ext (Own ρ σ) (Own ρ' σ') F H F' H'->E.bk σ' H'
 | .cont=>∀σ' H' F',Good K tg F' H' ρ' σ'->Ext (Own ρ σ) (Own ρ' σ') F H F' H'->E.ct σ' H'
 | .ret r=>∀v σ' H' F',Good K tg F' H' ρ' σ'->Ext (Own ρ σ) (Own ρ' σ') F H F' H'->relR K r v H (Own ρ σ) F' H' (Own ρ' σ')->E.rt v H'
 | .exc _=>False
def TSd(K:Fg9)(g:Sd):TS:=fun E σ H=>∃tg F ρ fl ρ',Good K tg F H ρ σ/\g ρ=some (fl,ρ')/\FlOk K tg ρ σ F H E fl ρ'
structure SV (K:Fg9) (X:Cx) (st:Stmt) (g:Sd):Prop where
 go:X.K=K->PS X st (TSd K g)
instance {K:Fg9} {X:Cx} {st:Stmt} {g:Sd}:CoeFun (SV K X st g) fun _=>X.K=K->PS X st (TSd K g):=⟨SV.go⟩
structure SVs (K:Fg9) (X:Cx) (ss:List Stmt) (g:Sd):Prop where
 go:X.K=K->PSs X ss (TSd K g)
instance {K:Fg9} {X:Cx} {ss:List Stmt} {g:Sd}:CoeFun (SVs K X ss g) fun _=>X.K=K->PSs X ss (TSd K g):=⟨SVs.go⟩
theorem PS.imp{t t':TS}(h:PS X st t)(w:∀E σ H,t' E σ H->t E σ H):PS X st t':=fun jv s σ H E I q=>h jv s σ H E I (w E σ H q)
theorem PSs.imp{t t':TS}(h:PSs X ss t)(w:∀E σ H,t' E σ H->t E σ H):PSs X ss t':=fun jv s σ H E I q=>h jv s σ H E I (w E σ H q)
theorem FlOk.back{tg:Nat->Addr}{ρ ρ1 ρ':Ro}{σ σ1:L2.St}{F H F1 H1:Hp}{E:Ends}{fl:Fl}(x:Ext (Own ρ σ) (Own ρ1 σ1) F H F1 H1)(h:FlOk K tg ρ σ F H E fl ρ'):FlOk K tg ρ1 σ1 F1 H1 E fl ρ':=by
 cases fl with
 | nx=>exact fun σ' H' F' G' x'=>h σ' H' F' G' (x.trans x')
 | brk=>exact fun σ' H' F' G' x'=>h σ' H' F' G' (x.trans x')
 | cont=>exact fun σ' H' F' G' x'=>h σ' H' F' G' (x.trans x')
 | ret r=>exact fun v σ' H' F' G' x' rr=>h v σ' H' F' G' (x.trans x') (kh x rr)
 | exc _=>exact h
def dNx:Sd:=fun ρ=>some (.nx,ρ)
noncomputable def dSeq(g k:Sd):Sd:=fun ρ=>match g ρ with
 | some (.nx,ρ1)=>k ρ1
 | r=>r
theorem j7:SVs K X [] dNx:=SVs.mk fun _=>PSs.imp ave fun E σ H z9=>by
 obtain⟨tg,F,ρ,fl,ρ',G,em,q⟩:=z9;cases em;exact q σ H F G (Ext.refl _ _ _)
theorem bh{g:Sd}(h:SV K X st g):SVs K X [st] g:=SVs.mk fun hk=>avd (h hk)
theorem az{g k:Sd}(h:SV K X st g)(t:SVs K X ss k):SVs K X (st::ss) (dSeq g k):=SVs.mk fun hk=>PSs.imp (ald (h hk) (t hk)) fun E σ H z9=>by
 obtain⟨tg,F,ρ,fl,ρ',G,em,q⟩:=z9;unfold dSeq at em;split at em
 ·rename_i ρ1 e1;exact⟨tg,F,ρ,.nx,ρ1,G,e1,fun σ' H' F' G' x=>⟨tg,F',ρ1,fl,ρ',G',em,q.back x⟩⟩
 ·rename_i hn;refine⟨tg,F,ρ,fl,ρ',G,em,?_⟩;cases fl with
  | nx=>exact absurd em (hn ρ')
  | brk=>exact q
  | cont=>exact q
  | ret r=>exact q
  | exc _=>exact q
noncomputable def dM{α:Type}(m:M α)(k:α->Sd):Sd:=fun ρ=>match m ρ with
 | some (.ok x,ρ1)=>k x ρ1
 | some (.exc x,ρ1)=>some (.exc x,ρ1)
 | none=>none
theorem aa9{α:Type}{m:M α}{k:α->Sd}{ρ ρ':Ro}{fl:Fl}{P:Prop}(h:dM m k ρ=some (fl,ρ'))(hx:FlOk K tg ρ0 σ0 F0 H0 E0' fl ρ')(go:∀x ρ1,m ρ=some (.ok x,ρ1)->k x ρ1=some (fl,ρ')->P):P:=by
 unfold dM at h;split at h
 ·exact go _ _ (by assumption) h
 ·cases h;exact(show False from hx).elim
 ·cases h
noncomputable def dRet(m:M Rv):Sd:=dM m fun r ρ=>some (.ret r,ρ)
theorem dz{m:M Rv}(h:ER K X e m):SV K X (.Return (some e) pos) (dRet m):=SV.mk fun hk=>PS.imp (aye (h hk)) fun E σ H ⟨tg,F,ρ,fl,ρ',G,em,q⟩=>aa9 em q fun r ρ1 e1 em=>by
 cases em;exact⟨tg,F,ρ,r,_,G,e1,fun v H' F' G' x rr=>q v σ H' F' G' x rr⟩
noncomputable def dIf(m:M Bool)(g k:Sd):Sd:=dM m fun z=>if z=true then g else k
theorem aaj{m:M Bool}{g k:Sd}{ss':List Stmt}(h:ET K X c m)(h1:SVs K X ss g)(h2:SVs K X ss' k):SV K X (.If c ss ss' pos) (dIf m g k):=SV.mk fun hk=>PS.imp (a2m (h hk) (h1 hk) (h2 hk)) fun E σ H ⟨tg,F,ρ,fl,ρ',G,em,q⟩=>aa9 em q fun z ρ1 e1 em=>by
 refine⟨tg,F,ρ,z,ρ1,G,e1,fun H' F' G' x =>?_⟩
 cases z with
 | true=>exact iteT ⟨tg,F',ρ1,fl,ρ',G',em,q.back x⟩
 | false=>exact iteF ⟨tg,F',ρ1,fl,ρ',G',em,q.back x⟩
def aei{α:Type}(m:M α):Sd:=dM m fun _ ρ=>some (.nx,ρ)
theorem xm{m:M Rv}(h:ER K X e m)(hs:swapsWith e none pos.line X.env=pure false:=by rfl):SV K X (.Expr e pos) (aei m):=SV.mk fun hk=>PS.imp (avf (h hk) hs) fun E σ H ⟨tg,F,ρ,fl,ρ',G,em,q⟩=>aa9 em q fun r ρ1 e1 em=>by
 cases em;exact⟨tg,F,ρ,r,_,G,e1,fun v H' F' G' x rr=>q σ H' F' G' x⟩
section
variable{tg:Nat->Addr}{F H:Hp}{ρ:Ro}{σ:L2.St}
theorem ab3{i:Nat}{s:Sl}{v:V}{b:Addr}(hl:ρ.length=σ.length)(h:Own (List.set ρ i s) (List.set σ i (some v)) b):Own ρ σ b∨((∃t l,s=.own t l)/\v=.ref b):=by
 obtain⟨j,⟨t,l,e⟩,q⟩:=h;rw[List.getElem?_set] at e q
 by_cases hj:i=j
 ·subst hj;rw[if_pos rfl] at e q;split at e
  ·rename_i hi;rw[if_pos (by rw[<-hl];exact hi)] at q
   cases e;cases q;exact .inr ⟨⟨t,l,rfl⟩,rfl⟩
  ·cases e
 ·rw[if_neg hj] at e q;exact .inl ⟨j,⟨t,l,e⟩,q⟩
theorem Good.put(G:Good K tg F H ρ σ){s:Sl}{v:V}(i:Nat)(h:SlOk K tg F H s (some v))(n:∀t l a,s=.own t l->v=.ref a->¬Own ρ σ a):Good K tg F H (List.set ρ i s) (List.set σ i (some v)) where
 sub:=G.sub
 len:=by rw[List.length_set,List.length_set];exact G.len
 sl:=fun j s' o e q=>by
  rw[List.getElem?_set] at e q
  by_cases hj:i=j
  ·subst hj;rw[if_pos rfl] at e q;split at e
   ·rename_i hi;rw[if_pos (by rw[<-G.len];exact hi)] at q
    cases e;cases q;exact h
   ·cases e
  ·rw[if_neg hj] at e q;exact G.sl j s' o e q
 inj:=fun j k a ⟨⟨t,l,e⟩,q⟩ ⟨⟨t',l',e'⟩,q'⟩=>by
  rw[List.getElem?_set] at e q e' q'
  by_cases hj:i=j
  ·subst hj;rw[if_pos rfl] at e q
   by_cases hk:i=k
   ·exact hk
   ·rw[if_neg hk] at e' q';split at e
    ·rename_i hi;rw[if_pos (by rw[<-G.len];exact hi)] at q
     cases e;cases q;exact absurd ⟨k,⟨t',l',e'⟩,q'⟩ (n t l a rfl rfl)
    ·cases e
  ·rw[if_neg hj] at e q
   by_cases hk:i=k
   ·subst hk;rw[if_pos rfl] at e' q';split at e'
    ·rename_i hi;rw[if_pos (by rw[<-G.len];exact hi)] at q'
     cases e';cases q';exact absurd ⟨j,⟨t,l,e⟩,q⟩ (n t' l' a rfl rfl)
    ·cases e'
   ·rw[if_neg hk] at e' q';exact G.inj j k a ⟨⟨t,l,e⟩,q⟩ ⟨⟨t',l',e'⟩,q'⟩
def Rv.sl:Rv->Sl
 | .v d=>.val d
 | .fr l=>.own none l
 | .tf _ _=>.emp
theorem Good.store{F0 H0:Hp}{O:Addr->Prop}(G:Good K tg F H ρ σ)(x:Ext O (Own ρ σ) F0 H0 F H){r:Rv}{v:V}(i:Nat)(h:relR K r v H0 O F H (Own ρ σ)) :
  Good K tg F H (List.set ρ i r.sl) (List.set σ i (some v))/\Ext O (Own (List.set ρ i r.sl) (List.set σ i (some v))) F0 H0 F H:=by
 cases r with
 | v d =>
  refine⟨G.put i ⟨v,rfl,h⟩ (fun t l a e=>by cases e),x.sub,x.new,x.keep,fun b w =>?_,x.there⟩
  rcases ab3 G.len w with w | ⟨⟨t,l,e⟩,_⟩
  ·exact x.own b w
  ·cases e
 | fr l =>
  obtain⟨a,vs,rfl,ha,hf,hh,hl,hn⟩:=h;refine⟨G.put i ⟨a,vs,rfl,hf,hh,hl,fun k e=>by cases e⟩ (fun t l' b _ e2=>by cases e2;exact hn),x.sub,x.new,x.keep,fun b w =>?_,x.there⟩
  rcases ab3 G.len w with w | ⟨_,e⟩
  ·exact x.own b w
  ·cases e;exact ha.symm
 | tf d l =>
  refine⟨G.put i trivial (fun t l a e=>by cases e),x.sub,x.new,x.keep,fun b w =>?_,x.there⟩
  rcases ab3 G.len w with w | ⟨⟨t,l,e⟩,_⟩
  ·exact x.own b w
  ·cases e
end
def dSet(i:Nat)(m:M Rv):Sd:=dM m fun r ρ=>some (.nx,List.set ρ i r.sl)
theorem ik{i:Nat}{x:Str}{m:M Rv}(hN:X.N.Nodup)(hi:X.N[i]? = some x)(hx:Loc X.env.scope x)(h:ER K X e m)(hs:swapsWith e (some (.Name x p)) pos.line X.env=pure false:=by rfl)(hf:X.fn x=true∨X.env.scope.names.lookup x=some .local:=by first | exact .inl rfl | exact .inr rfl | assumption) :
  SV K X (.Assign [.Name x p] e pos) (dSet i m):=SV.mk fun hk=>PS.imp (ayd hN hi hx (h hk) hs hf) fun E σ H ⟨tg,F,ρ,fl,ρ',G,em,q⟩=>aa9 em q fun r ρ1 e1 em=>by
 cases em;refine⟨tg,F,ρ,r,ρ1,G,e1,fun v H' F' G' x rr =>?_⟩
 obtain⟨G2,x2⟩:=G'.store x i rr;exact q _ H' F' G2 x2
def TGd(K:Fg9)(b:D->Ro->Option Ro):TG:=fun v σ H Q=>∃tg F ρ d ρ',Good K tg F H ρ σ/\Is K F d v/\b d ρ=some ρ'/\∀σ' H' F',Good K tg F' H' ρ' σ'->Ext (Own ρ σ) (Own ρ' σ') F H F' H'->Q σ' H'
structure GV (K:Fg9) (X:Cx) (e:Expr) (b:D->Ro->Option Ro):Prop where
 go:X.K=K->PG X e (TGd K b)
instance {K:Fg9} {X:Cx} {e:Expr} {b:D->Ro->Option Ro}:CoeFun (GV K X e b) fun _=>X.K=K->PG X e (TGd K b):=⟨GV.go⟩
theorem PG.imp{t t':TG}(h:PG X e t)(w:∀v σ H Q,t' v σ H Q->t v σ H Q):PG X e t':=fun jv s σ H v u Q I r q=>h jv s σ H v u Q I r (w v σ H Q q)
def bu(i:Nat):D->Ro->Option Ro:=fun d ρ=>some (List.set ρ i (.val d))
theorem Good.storeV{tg:Nat->Addr}{F H:Hp}{ρ:Ro}{σ:L2.St}(G:Good K tg F H ρ σ){d:D}{v:V}(i:Nat)(h:Is K F d v):Good K tg F H (List.set ρ i (.val d)) (List.set σ i (some v))/\Ext (Own ρ σ) (Own (List.set ρ i (.val d)) (List.set σ i (some v))) F H F H :=
 G.store (r:=.v d) (Ext.refl _ _ _) i h
theorem cj{i:Nat}{x:Str}(hN:X.N.Nodup)(hi:X.N[i]? = some x)(hx:Loc X.env.scope x)(hf:X.fn x=true∨X.env.scope.names.lookup x=some .local:=by first | exact .inl rfl | exact .inr rfl | assumption):GV K X (.Name x pos) (bu i):=GV.mk fun _=>PG.imp (avp hN hi hx hf) fun v σ H Q z9=>by
 obtain⟨tg,F,ρ,d,ρ',G,h,em,q⟩:=z9;cases em;obtain⟨G2,x2⟩:=G.storeV i h;exact q _ H F G2 x2
def TGsd(K:Fg9)(b:List D->Ro->Option Ro):TGs:=fun vs σ H Q=>∃tg F ρ ds ρ',Good K tg F H ρ σ/\IsL K F ds vs/\b ds ρ=some ρ'/\∀σ' H' F',Good K tg F' H' ρ' σ'->Ext (Own ρ σ) (Own ρ' σ') F H F' H'->Q σ' H'
structure GVs (K:Fg9) (X:Cx) (es:List Expr) (b:List D->Ro->Option Ro):Prop where
 go:X.K=K->PGs X es (TGsd K b)
instance {K:Fg9} {X:Cx} {es:List Expr} {b:List D->Ro->Option Ro}:CoeFun (GVs K X es b) fun _=>X.K=K->PGs X es (TGsd K b):=⟨GVs.go⟩
theorem PGs.imp{t t':TGs}(h:PGs X es t)(w:∀v σ H Q,t' v σ H Q->t v σ H Q):PGs X es t':=fun jv s σ H v u Q I r q=>h jv s σ H v u Q I r (w v σ H Q q)
def bNil:List D->Ro->Option Ro:=fun ds ρ=>match ds with
 | []=>some ρ
 | _=>none
def ji(b:D->Ro->Option Ro)(bs:List D->Ro->Option Ro):List D->Ro->Option Ro:=fun ds ρ=>match ds with
 | d::r=>(b d ρ).bind (bs r)
 | _=>none
theorem ul:GVs K X [] bNil:=GVs.mk fun _=>PGs.imp avo fun vs σ H Q z9=>by
 obtain⟨tg,F,ρ,ds,ρ',G,h,em,q⟩:=z9;cases ds with
 | nil=>cases em;cases h;exact⟨rfl,q σ H F G (Ext.refl _ _ _)⟩
 | cons _ _=>cases em
theorem gf{b:D->Ro->Option Ro}{bs:List D->Ro->Option Ro}(h1:GV K X e b)(h2:GVs K X es bs)(hs:(assignEach (e::es) X.env).map (·.2)=assign e X.env::(assignEach es X.env).map (·.2):=by rfl):GVs K X (e::es) (ji b bs):=GVs.mk fun hk=>PGs.imp (arj (h1 hk) (h2 hk) hs) fun vs σ H Q z9=>by
 obtain⟨tg,F,ρ,ds,ρ',G,h,em,q⟩:=z9;cases h with
 | nil=>cases em
 | @cons d v ds vs hd ht =>
  have em:(b d ρ).bind (bs ds)=some ρ':=em;cases e1:b d ρ with
  | none=>rw[e1] at em;cases em
  | some ρ1 =>
   rw[e1] at em;exact⟨v,vs,rfl,tg,F,ρ,d,ρ1,G,hd,e1,fun σ' H' F' G' x=>⟨tg,F',ρ1,ds,ρ',G',ht.mono x.sub,em,fun σ2 H2 F2 G2 x2=>q σ2 H2 F2 G2 (x.trans x2)⟩⟩
def bTup(n:Nat)(bs:List D->Ro->Option Ro):D->Ro->Option Ro:=fun d ρ=>match d with
 | .tup l=>if l.length=n then bs l ρ else none
 | _=>none
theorem aae{k n:Nat}{bs:List D->Ro->Option Ro}(hc:X.calm=true)(h:GVs K X es bs)(hn:(assignEach es X.env).length=n:=by rfl)(hst:(assignEach es X.env).findIdx? (·.1)=none:=by rfl):GV K X (.Tuple es k pos) (bTup n bs):=GV.mk fun hk=>PG.imp (ayi hc (h hk) hn hst) fun v σ H Q z9=>by
 obtain⟨tg,F,ρ,d,ρ',G,hd,em,q⟩:=z9;cases hd with
 | @tup a vs ds e hl =>
  have em:(if ds.length=n then bs ds ρ else none)=some ρ':=em
  split at em
  ·rename_i hz;exact⟨a,vs,rfl,SqT.of (G.sub _ _ e),by rw[<-hl.length];exact hz,tg,F,ρ,ds,ρ',G,hl,em,q⟩
  ·cases em
 | _=>cases em
def dAsg(m:M D)(b:D->Ro->Option Ro):Sd:=dM m fun d ρ=>(b d ρ).map fun ρ'=>(.nx,ρ')
theorem aid{m:M D}{b:D->Ro->Option Ro}(h:EV K X e m)(hg:GV K X tgt b)(hs:swapsWithSole [tgt] e pos.line X.env=pure false:=by rfl)(hw:swappedStores [tgt] e X.env=pure none:=by rfl)
  (h1:(assignEach [tgt] X.env).map (·.2)=[assign tgt X.env]:=by rfl):SV K X (.Assign [tgt] e pos) (dAsg m b):=SV.mk fun hk=>PS.imp (atr (h hk) (hg hk) hs hw h1) fun E σ H ⟨tg,F,ρ,fl,ρ',G,em,q⟩=>aa9 em q fun d ρ1 e1 em=>by
 refine⟨tg,F,ρ,d,ρ1,G,e1,fun v H' F' G' x r =>?_⟩
 cases e2:b d ρ1 with
 | none=>rw[e2] at em;cases em
 | some ρ2 =>
  rw[e2] at em;cases em;exact⟨tg,F',ρ1,d,_,G',r,e2,fun σ2 H2 F2 G2 x2=>q σ2 H2 F2 G2 (x.trans x2)⟩
theorem Good.mut{tg:Nat->Addr}{F H:Hp}{ρ:Ro}{σ:L2.St}(G:Good K tg F H ρ σ){i:Nat}{t:Option Nat}{l l':List D}{a:Addr}{ys:List V}(e:(ρ:List Sl)[i]? = some (.own t l))(q:σ[i]? = some (some (.ref a)))(h:IsL K F l' ys) :
  Good K tg F (upd H a (.lst ys)) (List.set ρ i (.own t l')) σ/\Ext (Own ρ σ) (Own (List.set ρ i (.own t l')) σ) F H F (upd H a (.lst ys)):=by
 obtain⟨a',vs,e1,hf,hh,hl,ht⟩:=G.sl i _ _ e q;cases e1;have ow:∀j b,Owns (List.set ρ i (.own t l')) σ j b->Owns ρ σ j b:=fun j b ⟨⟨t2,l2,e2⟩,q2⟩=>by
  rw[List.getElem?_set] at e2
  by_cases hj:i=j
  ·subst hj;exact⟨⟨t,l,e⟩,q2⟩
  ·rw[if_neg hj] at e2;exact⟨⟨t2,l2,e2⟩,q2⟩
 have me:Own ρ σ a:=⟨i,⟨t,l,e⟩,q⟩;refine⟨⟨fun b o z =>?_,by rw[List.length_set];exact G.len,fun j s o e2 q2 =>?_,fun j k b w1 w2=>G.inj j k b (ow _ _ w1) (ow _ _ w2)⟩,Same.refl F,fun _ _ z=>.inl z,fun b o z n =>?_,fun b ⟨j,w⟩=>.inl ⟨j,ow j b w⟩,fun b z =>?_⟩
 ·have hb:b≠a:=fun z2=>by
   subst z2;rw[hf] at z;cases z
  rw[b8 hb];exact G.sub b o z
 ·rw[List.getElem?_set] at e2
  by_cases hj:i=j
  ·subst hj;rw[if_pos rfl] at e2;split at e2
   ·cases e2;rw[q] at q2;cases q2;exact⟨a,ys,rfl,hf,f9,h,ht⟩
   ·cases e2
  ·rw[if_neg hj] at e2;have z:=G.sl j s o e2 q2;cases s with
   | emp=>trivial
   | val d=>exact z
   | lol ts=>exact z
   | lnk k=>exact z
   | box c fs =>
    obtain⟨b,C,dx,fvs,e1,e2,e3,e4⟩:=z;have hb:b≠a:=fun z2=>by
     subst z2;rw[e3] at hh;cases hh
    exact⟨b,C,dx,fvs,e1,e2,by rw[b8 hb];exact e3,e4⟩
   | own t2 l2 =>
    obtain⟨b,ws,e3,hf3,hh3,hl3,ht3⟩:=z;have hb:b≠a:=fun z2=>by
     subst z2;exact hj (G.inj i j b ⟨⟨t,l,e⟩,q⟩ ⟨⟨t2,l2,e2⟩,by rw[q2,e3]⟩)
    exact⟨b,ws,e3,hf3,by rw[b8 hb];exact hh3,hl3,ht3⟩
 ·have hb:b≠a:=fun z2=>n (z2▸me)
  rw[b8 hb];exact z
 ·by_cases hb:b=a
  ·subst hb;rw[f9] at z;cases z
  ·rw[b8 hb] at z;exact z
def mOwn(i:Nat):M (List D):=fun ρ=>match ρ[i]? with
 | some (.own _ l)=>some (.ok l,ρ)
 | _=>none
theorem ae2{tg:Nat->Addr}{F H:Hp}{ρ ρ':Ro}{σ:L2.St}(G:Good K tg F H ρ σ){i:Nat}{l:List D}(em:mOwn i ρ=some (.ok l,ρ')):ρ'=ρ/\∃t a xs,(ρ:List Sl)[i]? = some (.own t l)/\σ[i]? = some (some (.ref a))/\H a=some (.lst xs)/\IsL K F l xs:=by
 unfold mOwn at em;split at em
 ·rename_i t l' e';cases em;obtain⟨o,ho,a,vs,rfl,hf,hh,hl,_⟩:=G.at e';exact⟨rfl,t,a,vs,e',ho,hh,hl⟩
 ·cases em
def aa2(i:Nat)(l':List D):M Unit:=fun ρ=>match ρ[i]? with
 | some (.own t _)=>some (.ok (),List.set ρ i (.own t l'))
 | _=>none
def mMut(i:Nat)(g:List D->List D->Option (D×List D))(ms:M (List D)):M D:=(mOwn i).bind fun _=>ms.bind fun ds=>(mOwn i).bind fun l=>(lift (g l ds)).bind fun r=>(aa2 i r.2).bind fun _=>ret r.1
def MutD(K:Fg9)(r:V->List V->Hp->VK->Prop)(g:List D->List D->Option (D×List D)):Prop :=
 ∀(F H:Hp) (a:Addr) (xs vs:List V) (l ds:List D) (d:D) (l':List D) (Q:VK),Same F H->H a=some (.lst xs)->xs.length<=capS->IsL K F l xs->IsL K F ds vs->g l ds=some (d,l')->(∀v ys,Is K F d v->IsL K F l' ys->Q v (upd H a (.lst ys)))->r (.ref a) vs H Q
theorem ahi{tg:Nat->Addr}{F H:Hp}{ρ ρ2:Ro}{σ:L2.St}(G:Good K tg F H ρ σ){i:Nat}{l':List D}{u:Unit}{a:Addr}{ys:List V}(e:aa2 i l' ρ=some (.ok u,ρ2))(q:σ[i]? = some (some (.ref a)))(h:IsL K F l' ys) :
  Good K tg F (upd H a (.lst ys)) ρ2 σ/\Ext (Own ρ σ) (Own ρ2 σ) F H F (upd H a (.lst ys)):=by
 unfold aa2 at e;split at e
 ·rename_i t l e';cases e;exact G.mut e' q h
 ·cases e
theorem al7{i:Nat}{name:Str}{id:String}{r:V->List V->Hp->VK->Prop}{g:List D->List D->Option (D×List D)}{ms:M (List D)}{apos cpos:Pos}(hr:MutD K r g)(slot:Slot "list" name id)(hty:typeOf (.builtin id)=pure (.type "method_descriptor"))(hm:MtR X id r)(ho:PE X a (tVar i))(ha:ED K X (e::es) ms)
  (hbase:attributeBase a name X.env (eval a X.env)=eval a X.env:=by rfl)
  (hfew:((backTo cpos (starEach (e::es) X.env)).all (fun x => !x.1)&&(backToKw cpos (keywordEach [] X.env)).all (fun x=>x.1.isSome)
   && decide ((e::es).length+([]:List Keyword).length+(if ([]:List Keyword).isEmpty then 0 else 1) < 30))=true:=by rfl)
  (hline:(apos.endLine==cpos.line)=true:=by rfl) (hs:starEach (e::es) X.env=(false,eval e X.env)::starEach es X.env:=by rfl) (hplain:(backTo cpos (starEach es X.env)).any (·.1)=false:=by rfl) :
  EV K X (.Call (.Attribute a name apos) (e::es) [] cpos) (mMut i g ms):=EV.mk fun hk=>by
 intro jv s σ H Q I z9;obtain⟨tg,F,ρ,d,ρ',G,em,q⟩:=z9;obtain⟨l0,ρ0,e0,em1⟩:=aq em;obtain⟨ds,ρ1,e1,em2⟩:=aq em1;obtain⟨l,ρ2,e2,em3⟩:=aq em2;obtain⟨x,ρ3,e3,em4⟩:=aq em3;obtain⟨u,ρ4,e4,em5⟩:=aq em4;obtain⟨rfl,rfl⟩:=jf em5;obtain⟨eg,rfl⟩:=gk e3;obtain⟨rfl,t0,b,xs0,es0,hv,hh0,hl0⟩:=ae2 G e0;refine aol (r:=fun x vs H Q=>(∀b xs,x=.ref b->H b=some (.lst xs)->xs.length<=capS)->r x vs H Q) PySem.F.plainAttrs_list slot hty (fun jv s σ H x xs v us Q I rx rv h=>hm jv s σ H x xs v us Q I rx rv (h fun b xs _ hb =>?_)) ho (ha hk) hbase hfew hline hs hplain jv s σ H Q I ?_
 ·obtain⟨z,_⟩:=I.lstM hb;rw[sizeLine_eq] at z;exact z
 refine⟨_,hv,.inl ⟨rfl,_,SqL.of hh0⟩,tg,F,ρ0,ds,ρ1,G,e1,fun vs H1 F1 G1 x1 r1 cap =>?_⟩
 obtain⟨rfl,t,a',xs,es',hv',hh,hl⟩:=ae2 G1 e2;rw[hv] at hv';cases hv';refine hr F1 H1 _ xs vs l ds x.1 x.2 Q G1.sub hh (cap _ _ rfl hh) hl r1 eg fun w ys iw il =>?_
 obtain⟨G2,x2⟩:=ahi G1 e4 hv il;exact q w _ F1 G2 (x1.trans x2) iw
def acb(l ds:List D):Option (D×List D):=match ds with
 | [d]=>if l.length < capS then some (.non,l++[d]) else none
 | _=>none
theorem adq:MutD K aof acb:=by
 intro F H a xs vs l ds d l' Q g hh hc hl hd eg q
 match ds,eg with
 | [d1],eg =>
  have eg:(if l.length < capS then some (D.non,l++[d1]) else none)=some (d,l'):=eg
  split at eg
  ·rename_i hz;cases eg;cases hd with
   | cons h t =>
    cases t;exact⟨a,xs,_,rfl,rfl,hh,by rw[sizeLine_eq,<-hl.length];exact hz,q _ _ .non (hl.append (.cons h .nil))⟩
  ·cases eg
def dSub(i:Nat)(mi m:M D):Sd:=dM m fun d=>dM (mOwn i) fun _=>dM mi fun k=>dM (mOwn i) fun l=>dM (lift ((asI k).bind (ixN l.length))) fun j=>dM (aa2 i (l.set j d)) fun _=>dNx
theorem an3{i:Nat}{mi m:M D}(h:EV K X e m)(ho:PE X a (tVar i))(hi:EV K X b mi)(hs:swapsWithSole [.Subscript a b p] e pos.line X.env=pure false:=by rfl)(hw:swappedStores [.Subscript a b p] e X.env=pure none:=by rfl)
  (h1:(assignEach [.Subscript a b p] X.env).map (·.2)=[assign (.Subscript a b p) X.env]:=by rfl)
  (ha:∀v,assign (.Subscript a b p) X.env v=(do
   let ov <-holding [v] (eval a X.env)
   let iv <-holding [v,ov] (eval b X.env)
   standAt p
   holding [v,ov,iv] (setItem ov iv v)
   release [v,ov,iv] []):=by intro _;rfl):SV K X (.Assign [.Subscript a b p] e pos) (dSub i mi m):=SV.mk fun hk=>PS.imp (atr (h hk) (atv ho (hi hk) set_list ha) hs hw h1) fun E σ H ⟨tg,F,ρ,fl,ρ',G,em,q⟩ =>
 aa9 em q fun d ρ1 e1 em=>aa9 em q fun l0 ρ0 e0 em=>aa9 em q fun k ρ2 e2 em=>aa9 em q fun l ρ3 e3 em=>aa9 em q fun j ρ4 e4 em=>aa9 em q fun u ρ5 e5 em=>by
 cases em;obtain⟨e6,rfl⟩:=gk e4;refine⟨tg,F,ρ,d,ρ1,G,e1,fun v H1 F1 G1 x1 r1 =>?_⟩
 obtain⟨rfl,t0,a0,xs0,es0,hv,hh0,hl0⟩:=ae2 G1 e0;refine⟨_,hv,tg,F1,_,k,ρ2,G1,e2,fun w H2 F2 G2 x2 r2 =>?_⟩
 obtain⟨rfl,t,a1,xs,es1,hv',hh,hl⟩:=ae2 G2 e3;rw[hv] at hv';cases hv';cases ek:asI k with
 | none=>rw[ek] at e6;cases e6
 | some n =>
  rw[ek] at e6;obtain rfl:=ajw ek;cases r2;obtain⟨G3,x3⟩:=ahi G2 e5 hv (hl.set (r1.mono x2.sub) j);exact⟨_,xs,n,j,rfl,rfl,hh,by rw[<-hl.length];exact e6,q _ _ F2 G3 ((x1.trans x2).trans x3)⟩
def dAug(f:Int->Int->Int)(i:Nat)(m:M D):Sd:=dM (mVar i) fun x=>dM m fun y=>dM (lift ((asI x).bind fun n=>(asI y).map fun k=>D.int (f n k))) fun z ρ=>some (.nx,List.set ρ i (.val z))
theorem axw{f:Int->Int->Int}{op:Operator}{i:Nat}{x:Str}{m:M D}(hN:X.N.Nodup)(hi:X.N[i]? = some x)(hx:Loc X.env.scope x)(h:EV K X e m)(ho:PIp X op (ipI f))(hf:X.fn x=true∨X.env.scope.names.lookup x=some .local:=by first | exact .inl rfl | exact .inr rfl | assumption) :
  SV K X (.AugAssign (.Name x p) op e pos) (dAug f i m):=SV.mk fun hk=>PS.imp (ayg hN hi hx (h hk) ho hf) fun E σ H ⟨tg,F,ρ,fl,ρ',G,em,q⟩=>aa9 em q fun d ρ1 e1 em=>aa9 em q fun d2 ρ2 e2 em=>aa9 em q fun z ρ3 e3 em=>by
 cases em;obtain⟨e4,rfl⟩:=gk e3;cases ed:asI d with
 | none=>rw[ed] at e4;cases e4
 | some n =>
  rw[ed] at e4;obtain rfl:=ajw ed;cases ed2:asI d2 with
  | none=>rw[ed2] at e4;cases e4
  | some k =>
   rw[ed2] at e4;obtain rfl:=ajw ed2;cases e4;unfold mVar at e1;split at e1
   ·rename_i d' es';cases e1;obtain⟨o,ho',v,rfl,hv⟩:=G.at es';cases hv;refine⟨_,ho',tg,F,ρ,_,_,G,e2,fun y H1 F1 G1 x1 r1 =>?_⟩
    cases r1;obtain⟨G2,x2⟩:=G1.storeV i (Is.int (f n k));exact⟨n,k,rfl,rfl,q _ H1 F1 G2 (x1.trans x2)⟩
   ·cases e1
   ·cases e1
end
section
variable{K:Fg9}{X:Cx}{e a b c tgt iter elt:Expr}{es:List Expr}{pos p p2:Pos}{st:Stmt}{ss:List Stmt}
theorem _root_.Mn.ItOf.imp{J:It}{xs:List V}{S S':Hp->Prop}(Z:ItOf J xs S)(h:∀H,S' H->S H):ItOf J xs S':=⟨fun i H q=>Z.go i H (h H q),fun i H x H' q=>Z.yld i H x H' (h H q),fun i H q=>Z.stop i H (h H q)⟩
def Alt(K:Fg9)(F:Hp)(d:D)(x:V)(H H':Hp):Prop:=(H'=H/\Is K F d x)∨∃q vs ds,H q=none/\x=.ref q/\H'=upd H q (.tup vs)/\d=.tup ds/\IsL K F ds vs
structure ItD (K:Fg9) (J:It) (l:List D) (F:Hp):Prop where
 go:∀i H,Same F H->i < l.length->J.go i H
 yld:∀i H x H' d,Same F H->J.yld i H x H'->l[i]? = some d->Alt K F d x H H'
 stop:∀H,Same F H->J.stop l.length H
theorem ItD.of{J:It}{l:List D}{vs:List V}{F:Hp}(il:IsL K F l vs)(Z:ItOf J vs fun H2=>Same F H2):ItD K J l F where
 go:=fun i H s hi=>Z.go i H s (by rw[<-il.length];exact hi)
 yld:=fun i H x H' d s y hd=>by
  obtain⟨v,hv,iv⟩:=il.get hd;obtain⟨e,z⟩:=Z.yld i H x H' s y;have:=z (List.getElem?_eq_some_iff.mp hv).1;rw[hv] at this;cases this;exact .inl ⟨e,iv⟩
 stop:=fun H s=>Z.stop _ H s (by rw[<-il.length];exact Nat.le_refl _)
theorem ah9{tg:Nat->Addr}{O:Addr->Prop}{F H F1 F2 H2 H3:Hp}{ρ2:Ro}{σ2:L2.St}{d:D}{x:V}(G2:Good K tg F2 H2 ρ2 σ2)(x2:Ext O (Own ρ2 σ2) F H F2 H2)(s2:Same F1 F2)(a:Alt K F1 d x H2 H3) :
  ∃F3,Good K tg F3 H3 ρ2 σ2/\Ext O (Own ρ2 σ2) F H F3 H3/\Same F1 F3/\Is K F3 d x/\Ext (Own ρ2 σ2) (Own ρ2 σ2) F2 H2 F3 H3:=by
 rcases a with⟨rfl,id⟩ | ⟨q,vs,ds,hq,rfl,rfl,rfl,il⟩
 ·exact⟨F2,G2,x2,s2,id.mono s2,Ext.refl _ _ _⟩
 ·have z:=G2.newX hq (.tup vs);exact⟨_,G2.new hq _,x2.trans z,s2.trans z.sub,.tup f9 (il.mono (s2.trans z.sub)),z⟩
theorem awt{J:It}{l:List D}{F:Hp}(Z:ItD K J l F){g:TG}{tb:TS}{D':Ends}{σ:L2.St}{H:Hp}(Pv:Nat->L2.St->Hp->Prop)(h0:Pv 0 σ H)(hl:∀i σ H,i<=l.length->Pv i σ H->Same F H)
  (hs:∀i d x σ H H',l[i]? = some d->Pv i σ H->Alt K F d x H H'->g x σ H' fun σ2 H2=>tb { D' with nx:=Pv (i+1),ct:=Pv (i+1),bk:=D'.nx } σ2 H2) (hd:∀σ H,Pv l.length σ H->D'.nx σ H) :
  ∃W:Nat->Nat->L2.St->Hp->Prop,(∃m,W 0 m σ H)/\∀i m σ H,W i m σ H ->
   (J.stop i H/\D'.nx σ H)∨(J.go i H/\∃N:L2.St->Hp->Prop,(∀σ' H',N σ' H'->∃m',m' < m/\W (i+1) m' σ' H')/\∀x H',J.yld i H x H'->g x σ H' fun σ2 H2=>tb { D' with nx:=N,ct:=N,bk:=D'.nx } σ2 H2):=by
 refine⟨fun i m σ H=>m=l.length - i/\i<=l.length/\Pv i σ H,⟨l.length,by simp,Nat.zero_le _,h0⟩,?_⟩
 rintro i m σ H ⟨rfl,hi,p⟩
 have q:=hl i σ H hi p
 by_cases hlt:i < l.length
 ·exact .inr ⟨Z.go i H q hlt,Pv (i+1),fun σ' H' p'=>⟨l.length - (i+1),by omega,rfl,hlt,p'⟩,fun x H' y=>hs i _ x σ H H' (List.getElem?_eq_getElem hlt) p (Z.yld i H x H' _ q y (List.getElem?_eq_getElem hlt))⟩
 ·have e:i=l.length:=by omega
  subst e;exact .inl ⟨Z.stop H q,hd σ H p⟩
theorem amf{J:It}{l:List D}{F:Hp}(Z:ItD K J l F){d:Addr}{g:TG}{ti:TT}{te:TE}{Q:VK}{σ0:L2.St}{H1:Hp}(Pv:Nat->List V->L2.St->Hp->Prop)(h0:Pv 0 [] σ0 (upd H1 d (.lst [])))
  (hl:∀i ys σ H,i<=l.length->Pv i ys σ H->Same F H/\H d=some (.lst ys))
  (hs:∀i e x ys σ H H' (M:List V->L2.St->Hp->Prop),l[i]? = some e->Pv i ys σ H->Alt K F e x H H'->(∀ys' σ' H',Pv (i+1) ys' σ' H'->M ys' σ' H') ->
   g x σ H' fun σ4 H4=>ti σ4 H4 fun b H5=>if b=true then te σ4 H5 fun y H6=>H6 d=some (.lst ys)/\ys.length < sizeLine/\M (ys++[y]) σ4 (upd H6 d (.lst (ys++[y]))) else M ys σ4 H5)
  (hd:∀ys σ H,Pv l.length ys σ H->Q (.ref d) H):a0v J g ti te Q d σ0 H1:=by
 refine⟨fun i m ys σ H=>m=l.length - i/\i<=l.length/\Pv i ys σ H,⟨l.length,by simp,Nat.zero_le _,h0⟩,?_⟩
 rintro i m ys σ H ⟨rfl,hi,p⟩
 obtain⟨q,e⟩:=hl i ys σ H hi p;refine⟨e,?_⟩
 by_cases hlt:i < l.length
 ·exact .inr ⟨Z.go i H q hlt,fun x H' y=>hs i _ x ys σ H H' (fun ys' σ' H'=>∃m',m' < l.length - i/\(m'=l.length - (i+1)/\i+1<=l.length/\Pv (i+1) ys' σ' H')) (List.getElem?_eq_getElem hlt) p (Z.yld i H x H' _ q y (List.getElem?_eq_getElem hlt)) fun ys' σ' H' p'=>⟨l.length - (i+1),by omega,rfl,hlt,p'⟩⟩
 ·have e:i=l.length:=by omega
  subst e;exact .inl ⟨Z.stop H q,hd ys σ H p⟩
def TIt(K:Fg9)(m:M (List D)):TI:=fun σ H R=>∃tg F ρ l ρ',Good K tg F H ρ σ/\m ρ=some (.ok l,ρ')/\∀J H' F',Good K tg F' H' ρ' σ->Ext (Own ρ σ) (Own ρ' σ) F H F' H'->ItD K J l F'->R J H'
structure IT (K:Fg9) (X:Cx) (tgt iter:Expr) (m:M (List D)):Prop where
 go:X.K=K->PI X tgt iter (TIt K m)
instance {K:Fg9} {X:Cx} {tgt iter:Expr} {m:M (List D)}:CoeFun (IT K X tgt iter m) fun _=>X.K=K->PI X tgt iter (TIt K m):=⟨IT.go⟩
def qe(m:M D):M (List D):=m.bind fun d=>lift (itemsD d)
theorem vo{m:M D}(h:EV K X iter m):IT K X tgt iter (qe m):=IT.mk fun hk=>by
 intro jv s σ H R I z9;obtain⟨tg,F,ρ,l,ρ',G,em,q⟩:=z9;obtain⟨d,ρ1,e1,em⟩:=aq em;obtain⟨e2,rfl⟩:=gk em;have h:=h hk;subst hk;cases d with
 | tup k =>
  cases e2;refine ayh h jv s σ H R I ⟨tg,F,ρ,_,_,G,e1,fun v H' F' G' x r =>?_⟩
  cases r with
  | @tup a vs _ e hl=>exact⟨a,rfl,⟨vs,SqT.of (G'.sub _ _ e)⟩,q _ H' F' G' x (.of hl (asf.imp fun H2 g=>SqT.of (g _ _ e)))⟩
 | lst k =>
  cases e2;refine aok h jv s σ H R I ⟨tg,F,ρ,_,_,G,e1,fun v H' F' G' x r =>?_⟩
  cases r with
  | @lst a vs _ e hl=>exact⟨a,rfl,⟨vs,SqL.of (G'.sub _ _ e)⟩,q _ H' F' G' x (.of hl (alw.imp fun H2 g=>SqL.of (g _ _ e)))⟩
 | kst k =>
  cases e2;refine aok h jv s σ H R I ⟨tg,F,ρ,_,_,G,e1,fun v H' F' G' x r =>?_⟩
  cases r with
  | @kst a vs _ e hl=>exact⟨a,rfl,⟨vs,L2.Same.seq G'.sub e⟩,q _ H' F' G' x (.of hl (alw.imp fun H2 g=>L2.Same.seq g e))⟩
 | _=>cases e2
def fc(lo:Int)(n:Nat):List D:=(List.range n).map fun i=>D.int (lo+(i:Nat))
theorem arb{F:Hp}(lo:Int)(n:Nat):IsL K F (fc lo n) (ups lo n):=by
 have e1:fc lo n=((List.range n).map fun i=>lo+((i:Nat):Int)).map D.int:=by unfold fc;rw[List.map_map];rfl
 have e2:ups lo n=((List.range n).map fun i=>lo+((i:Nat):Int)).map V.int:=by unfold ups;rw[List.map_map];rfl
 rw[e1,e2];exact ac1 _
theorem a0u{j:Int}(h:j.natAbs < 4611686018427387904) : -2 ^ 62<=j/\j < 2 ^ 62:=by
 have e:(2:Int) ^ 62=4611686018427387904:=by decide
 rw[e];omega
def jq:List D->Option (List D)
 | [.int j]=>if j.natAbs < 4611686018427387904 then some (fc 0 j.toNat) else none
 | _=>none
def mGet{α β:Type}(g:α->Option β)(m:M α):M β:=m.bind fun ds=>lift (g ds)
theorem qg{m:M (List D)}(hg:Gl X "range")(hm:X.mg "range" = none)(h:ED K X [a] m)(hs:starEach [a] X.env=[(false,eval a X.env)]:=by rfl):IT K X tgt (.Call (.Name "range" p) [a] [] pos) (mGet jq m):=IT.mk fun hk=>by
 intro jv s σ H R I z9;obtain⟨tg,F,ρ,l,ρ',G,em,q⟩:=z9;obtain⟨ds,ρ1,e1,em⟩:=aq em;obtain⟨e2,rfl⟩:=gk em;refine aoj hg hm (h hk) hs jv s σ H R I ⟨tg,F,ρ,ds,_,G,e1,fun vs H' F' G' x r =>?_⟩
 unfold jq at e2;split at e2
 ·split at e2
  ·rename_i j hc;cases e2;cases r with
   | cons h t =>
    cases t;cases h;exact⟨_,rfl,(a0u hc).1,(a0u hc).2,q _ H' F' G' x (.of (arb 0 _) (ash.imp fun _ _=>trivial))⟩
  ·cases e2
 ·cases e2
noncomputable def forD(b:D->Ro->Option Ro)(g:Sd):List D->Sd
 | [],ρ=>some (.nx,ρ)
 | d::ds,ρ=>match b d ρ with
  | none=>none
  | some ρ1=>match g ρ1 with
   | some (.nx,ρ2)=>forD b g ds ρ2
   | some (.cont,ρ2)=>forD b g ds ρ2
   | some (.brk,ρ2)=>some (.nx,ρ2)
   | some (.ret r,ρ2)=>some (.ret r,ρ2)
   | some (.exc x,ρ2)=>some (.exc x,ρ2)
   | none=>none
def dFor(m:M (List D))(b:D->Ro->Option Ro)(g:Sd):Sd:=dM m (forD b g)
theorem zy{m:M (List D)}{b:D->Ro->Option Ro}{g:Sd}(hp:PassesOwn (model X.prog X.w) X.A X.env X.xe)(hc:X.calm=true)(hi:IT K X tgt iter m)(hg:GV K X tgt b)(hb:SVs K X ss g)
  (hs:∀x,foldedSetIterable iter X.env x=pure x:=by intro _;rfl):SV K X (.For tgt iter ss [] pos) (dFor m b g):=SV.mk fun hk=>PS.imp (ayf hp hc (hi hk) (hg hk) (hb hk) hs) fun E σ H ⟨tg,F,ρ,fl,ρ',G,em,q⟩=>aa9 em q fun l ρ1 e1 em=>by
 refine⟨tg,F,ρ,l,ρ1,G,e1,fun J H1 F1 G1 x1 Z =>?_⟩
 refine awt Z (fun i σ2 H2=>∃F2 ρ2,Good K tg F2 H2 ρ2 σ2/\Ext (Own ρ σ) (Own ρ2 σ2) F H F2 H2/\Same F1 F2/\forD b g (l.drop i) ρ2=some (fl,ρ')) ⟨F1,ρ1,G1,x1,Same.refl _,em⟩ (fun i σ2 H2 _ ⟨F2,ρ2,G2,_,s2,_⟩=>s2.trans G2.sub) ?_ ?_
 ·rintro i d x σ2 H2' H2 hd ⟨F2',ρ2,G2',x2',s2',em2⟩ al
  obtain⟨F2,G2,x2,s2,id,_⟩:=ah9 G2' x2' s2' al;have hlt:i < l.length:=(List.getElem?_eq_some_iff.mp hd).1;have ed:l[i]=d:=(List.getElem?_eq_some_iff.mp hd).2;rw[List.drop_eq_getElem_cons hlt,ed] at em2;unfold forD at em2;split at em2
  ·cases em2
  ·rename_i ρ3 e3;refine⟨tg,F2,ρ2,d,ρ3,G2,id,e3,fun σ3 H3 F3 G3 x3 =>?_⟩
   have again:∀{ρ4:Ro},forD b g (l.drop (i+1)) ρ4=some (fl,ρ')->∀σ' H' F',Good K tg F' H' ρ4 σ'->Ext (Own ρ3 σ3) (Own ρ4 σ') F3 H3 F' H' ->
     ∃F2 ρ2,Good K tg F2 H' ρ2 σ'/\Ext (Own ρ σ) (Own ρ2 σ') F H F2 H'/\Same F1 F2/\forD b g (l.drop (i+1)) ρ2=some (fl,ρ') :=
    fun{ρ4} e4 σ' H' F' G' x'=>⟨F',ρ4,G',(x2.trans x3).trans x',(s2.trans x3.sub).trans x'.sub,e4⟩
   split at em2
   ·rename_i ρ4 e4;exact⟨tg,F3,ρ3,.nx,ρ4,G3,e4,again em2⟩
   ·rename_i ρ4 e4;exact⟨tg,F3,ρ3,.cont,ρ4,G3,e4,again em2⟩
   ·rename_i ρ4 e4;cases em2;exact⟨tg,F3,ρ3,.brk,_,G3,e4,fun σ' H' F' G' x'=>q σ' H' F' G' ((x2.trans x3).trans x')⟩
   ·rename_i r ρ4 e4;cases em2;exact⟨tg,F3,ρ3,.ret r,_,G3,e4,fun v σ' H' F' G' x' rr=>q v σ' H' F' G' ((x2.trans x3).trans x') (kh (x2.trans x3) rr)⟩
   ·cases em2;exact(show False from q).elim
   ·cases em2
 ·rintro σ2 H2 ⟨F2,ρ2,G2,x2,s2,em2⟩
  rw[List.drop_eq_nil_of_le (Nat.le_refl _)] at em2;cases em2;exact q σ2 H2 F2 G2 x2
noncomputable def whileD(c:M Bool)(g:Sd):Nat->Sd
 | 0,_=>none
 | n+1,ρ=>match c ρ with
  | some (.ok true,ρ1)=>match g ρ1 with
   | some (.nx,ρ2)=>whileD c g n ρ2
   | some (.cont,ρ2)=>whileD c g n ρ2
   | some (.brk,ρ2)=>some (.nx,ρ2)
   | some (.ret r,ρ2)=>some (.ret r,ρ2)
   | some (.exc x,ρ2)=>some (.exc x,ρ2)
   | none=>none
  | some (.ok false,ρ1)=>some (.nx,ρ1)
  | some (.exc x,ρ1)=>some (.exc x,ρ1)
  | none=>none
theorem aq3{m:M Bool}{g:Sd}(n:Nat)(hp:PassesOwn (model X.prog X.w) X.A X.env X.xe)(hc:ET K X c m)(hb:SVs K X ss g):SV K X (.While c ss [] pos) (whileD m g n):=SV.mk fun hk=>PS.imp (arc hp (hc hk) (hb hk)) fun E σ H z9=>by
 obtain⟨tg,F,ρ,fl,ρ',G,em,q⟩:=z9;refine⟨fun k σ2 H2=>∃F2 ρ2,Good K tg F2 H2 ρ2 σ2/\Ext (Own ρ σ) (Own ρ2 σ2) F H F2 H2/\whileD m g k ρ2=some (fl,ρ'),⟨n,F,ρ,G,Ext.refl _ _ _,em⟩,?_⟩
 rintro k σ2 H2 ⟨F2,ρ2,G2,x2,em2⟩
 cases k with
 | zero=>cases em2
 | succ k =>
  unfold whileD at em2;split at em2
  ·rename_i ρ3 e3;refine⟨tg,F2,ρ2,true,ρ3,G2,e3,fun H3 F3 G3 x3=>iteT ?_⟩
   refine⟨fun σ' H'=>∃F2 ρ2,Good K tg F2 H' ρ2 σ'/\Ext (Own ρ σ) (Own ρ2 σ') F H F2 H'/\whileD m g k ρ2=some (fl,ρ'),fun σ' H' h=>⟨k,Nat.lt_succ_self k,h⟩,?_⟩
   split at em2
   ·rename_i ρ4 e4;exact⟨tg,F3,ρ3,.nx,ρ4,G3,e4,fun σ' H' F' G' x'=>⟨F',ρ4,G',(x2.trans x3).trans x',em2⟩⟩
   ·rename_i ρ4 e4;exact⟨tg,F3,ρ3,.cont,ρ4,G3,e4,fun σ' H' F' G' x'=>⟨F',ρ4,G',(x2.trans x3).trans x',em2⟩⟩
   ·rename_i ρ4 e4;cases em2;exact⟨tg,F3,ρ3,.brk,_,G3,e4,fun σ' H' F' G' x'=>q σ' H' F' G' ((x2.trans x3).trans x')⟩
   ·rename_i r ρ4 e4;cases em2;exact⟨tg,F3,ρ3,.ret r,_,G3,e4,fun v σ' H' F' G' x' rr=>q v σ' H' F' G' ((x2.trans x3).trans x') (kh (x2.trans x3) rr)⟩
   ·cases em2;exact(show False from q).elim
   ·cases em2
  ·rename_i ρ3 e3;cases em2;exact⟨tg,F2,ρ2,false,_,G2,e3,fun H3 F3 G3 x3=>iteF (q σ2 H3 F3 G3 (x2.trans x3))⟩
  ·cases em2;exact(show False from q).elim
  ·cases em2
end
def ai3(ρ:Ro)(i:Nat)(o:Option Nat)(d:Option D):Sl:=match o with
 | some j=>match ρ[j]? with
  | some (.val d)=>.val d
  | some (.own _ l)=>.own (some i) l
  | _=>.emp
 | none=>match d with
  | some d=>.val d
  | none=>.emp
def lend(ρ:Ro)(js:List (Option Nat))(ds:List (Option D)):Ro:=(List.zip js ds).mapIdx fun i p=>ai3 ρ i p.1 p.2
def okJs(ρ:Ro):List (Option Nat)->Bool
 | []=>true
 | none::r=>okJs ρ r
 | some j::r=>(match ρ[j]? with
  | some (.own _ _) => !r.contains (some j)
  | _=>true)&&okJs ρ r
theorem ahf{ρ:Ro}:∀{js:List (Option Nat)} {i i' j:Nat} {t:Option Nat} {l:List D},okJs ρ js=true->js[i]? = some (some j)->js[i']? = some (some j)->ρ[j]? = some (.own t l)->i=i'
 | [],_,_,_,_,_,_,h,_,_=>by simp at h
 | o::r,0,0,_,_,_,_,_,_,_=>rfl
 | o::r,0,i'+1,j,t,l,hk,h,h',e=>by
  simp at h h';subst h;unfold okJs at hk;rw[e,Bool.and_eq_true] at hk;have:=List.mem_of_getElem? h';simp[this] at hk
 | o::r,i+1,0,j,t,l,hk,h,h',e=>by
  simp at h h';subst h';unfold okJs at hk;rw[e,Bool.and_eq_true] at hk;have:=List.mem_of_getElem? h;simp[this] at hk
 | none::r,i+1,i'+1,j,t,l,hk,h,h',e=>by
  rw[ahf (js:=r) (i:=i) (i':=i') (j:=j) (by unfold okJs at hk;exact hk) (by simpa using h) (by simpa using h') e]
 | some k::r,i+1,i'+1,j,t,l,hk,h,h',e=>by
  unfold okJs at hk;rw[Bool.and_eq_true] at hk;rw[ahf (js:=r) (i:=i) (i':=i') (j:=j) hk.2 (by simpa using h) (by simpa using h') e]
def putS(js:List (Option Nat))(ps:Ro)(j:Nat)(s:Sl):Sl:=match js.findIdx? (fun o=>o==some j) with
 | none=>s
 | some i=>match s with
  | .own t _=>match ps[i]? with
   | some (.own (some i') l')=>if i'=i then .own t l' else .emp
   | _=>.emp
  | s=>s
def putB(ρ:Ro)(js:List (Option Nat))(ps:Ro):Ro:=ρ.mapIdx fun j s=>putS js ps j s
def tgOf(τ:L2.St)(i:Nat):Addr:=match τ[i]? with
 | some (some (.ref a))=>a
 | _=>0
section
variable{K:Fg9}{tg:Nat->Addr}{F H F' H':Hp}{ρ ps:Ro}{σ τ:L2.St}{js:List (Option Nat)}{ds:List (Option D)}{O':Addr->Prop}
theorem alq{i:Nat}{s:Sl}(h:(lend ρ js ds:List Sl)[i]? = some s):∃o d,js[i]? = some o/\ds[i]? = some d/\s=ai3 ρ i o d:=by
 unfold lend at h;rw[List.getElem?_mapIdx] at h;cases e:(List.zip js ds)[i]? with
 | none=>rw[e] at h;cases h
 | some p =>
  rw[e] at h;cases h;rw[List.getElem?_zip_eq_some] at e;exact⟨p.1,p.2,e.1,e.2,rfl⟩
theorem ar6{i:Nat}{t:Option Nat}{l:List D}(h:(lend ρ js ds:List Sl)[i]? = some (.own t l)):∃j t',js[i]? = some (some j)/\ρ[j]? = some (.own t' l)/\t=some i:=by
 obtain⟨o,d,e1,e2,e3⟩:=alq h;unfold ai3 at e3;cases o with
 | none=>cases d <;> cases e3
 | some j =>
  simp only at e3;cases e:ρ[j]? with
  | none=>rw[e] at e3;cases e3
  | some s =>
   rw[e] at e3;cases s with
   | emp=>cases e3
   | val _=>cases e3
   | box _ _=>cases e3
   | lol _=>cases e3
   | lnk _=>cases e3
   | own t' l'=>cases e3;exact⟨j,t',e1,e,rfl⟩
structure Lent (K:Fg9) (F:Hp) (σ τ:L2.St) (js:List (Option Nat)) (ds:List (Option D)):Prop where
 l1:τ.length=js.length
 l2:ds.length=js.length
 h1:∀(i j:Nat) (o:Option V),js[i]? = some (some j)->σ[j]? = some o->τ[i]? = some o
 h2:∀(i:Nat) (d:D),js[i]? = some none->ds[i]? = some (some d)->∃v,τ[i]? = some (some v)/\Is K F d v
theorem Good.σ_at(G:Good K tg F H ρ σ){j:Nat}{s:Sl}(e:(ρ:List Sl)[j]? = some s):∃o,σ[j]? = some o:=by
 obtain⟨o,h,_⟩:=G.at e;exact⟨o,h⟩
theorem yx(G:Good K tg F H ρ σ)(L:Lent K F σ τ js ds){i:Nat}{a:Addr}(h:Owns (lend ρ js ds) τ i a):∃j,js[i]? = some (some j)/\Owns ρ σ j a:=by
 obtain⟨⟨t,l,e⟩,q⟩:=h;obtain⟨j,t',e1,e2,_⟩:=ar6 e;obtain⟨o,ho⟩:=G.σ_at e2;have:=L.h1 i j o e1 ho;rw[q] at this;cases this;exact⟨j,e1,⟨t',l,e2⟩,ho⟩
theorem yg(G:Good K tg F H ρ σ)(hk:okJs ρ js=true)(L:Lent K F σ τ js ds):Good K (tgOf τ) F H (lend ρ js ds) τ where
 sub:=G.sub
 len:=by
  unfold lend;rw[List.length_mapIdx,List.length_zip,L.l2,L.l1];omega
 sl:=fun i s o e q=>by
  obtain⟨oj,d,e1,e2,rfl⟩:=alq e;unfold ai3;cases oj with
  | none =>
   cases d with
   | none=>trivial
   | some d =>
    obtain⟨v,h1,h2⟩:=L.h2 i d e1 e2;rw[q] at h1;cases h1;exact⟨v,rfl,h2⟩
  | some j =>
   simp only;cases e3:ρ[j]? with
   | none=>trivial
   | some s =>
    obtain⟨o',ho,w⟩:=G.at e3;have:=L.h1 i j o' e1 ho;rw[q] at this;cases this;cases s with
    | emp=>trivial
    | val d=>exact w
    | box _ _=>trivial
    | lol _=>trivial
    | lnk _=>trivial
    | own t l =>
     obtain⟨a,vs,rfl,hf,hh,hl,_⟩:=w;refine⟨a,vs,rfl,hf,hh,hl,fun k e =>?_⟩
     cases e;unfold tgOf;rw[q]
 inj:=fun i i' a w w'=>by
  obtain⟨j,e,v⟩:=yx G L w;obtain⟨j',e',v'⟩:=yx G L w';have:=G.inj j j' a v v';subst this;obtain⟨⟨t,l,z⟩,_⟩:=v;exact ahf hk e e' z
structure Fin (K:Fg9) (F' H':Hp) (τ:L2.St) (ps:Ro) (O':Addr->Prop):Prop where
 at':∀(i:Nat) (l:List D),(ps:List Sl)[i]? = some (.own (some i) l)->O' (tgOf τ i)/\F' (tgOf τ i)=none/\∃vs,H' (tgOf τ i)=some (.lst vs)/\IsL K F' l vs
theorem ag5{j:Nat}{s:Sl}(h:(putB ρ js ps:List Sl)[j]? = some s):∃s0:Sl,(ρ:List Sl)[j]? = some s0/\((∃t l,s0=Sl.own t l/\∃i:Nat,js[i]? = some (some j)/\((∃l',(ps:List Sl)[i]? = some (Sl.own (some i) l')/\s=Sl.own t l')∨s=Sl.emp)) ∨
  (s=s0/\∀t l,s0=Sl.own t l->∀i:Nat,js[i]? ≠ some (some j))):=by
 unfold putB at h;rw[List.getElem?_mapIdx] at h;cases e:(ρ:List Sl)[j]? with
 | none=>rw[e] at h;cases h
 | some s0 =>
  rw[e] at h;refine⟨s0,rfl,?_⟩;have h:putS js ps j s0=s:=Option.some.inj h;unfold putS at h;cases ei:js.findIdx? (fun o=>o==some j) with
  | none =>
   rw[ei] at h;have h:s0=s:=h;refine .inr ⟨h.symm,fun _ _ _ i z =>?_⟩
   rw[List.findIdx?_eq_none_iff] at ei;have:=ei _ (List.mem_of_getElem? z);simp at this
  | some i =>
   rw[ei] at h;cases s0 with
   | emp=>exact .inr ⟨(show Sl.emp=s from h).symm,fun t l z=>by cases z⟩
   | val d=>exact .inr ⟨(show Sl.val d=s from h).symm,fun t l z=>by cases z⟩
   | box c fs=>exact .inr ⟨(show Sl.box c fs=s from h).symm,fun t l z=>by cases z⟩
   | lol ts=>exact .inr ⟨(show Sl.lol ts=s from h).symm,fun t l z=>by cases z⟩
   | lnk k=>exact .inr ⟨(show Sl.lnk k=s from h).symm,fun t l z=>by cases z⟩
   | own t l =>
    refine .inl ⟨t,l,rfl,i,?_,?_⟩
    ·obtain⟨hi,hb,_⟩:=List.findIdx?_eq_some_iff_getElem.mp ei;rw[List.getElem?_eq_getElem hi];exact congrArg some (eq_of_beq hb)
    ·have h:(match (ps:List Sl)[i]? with
      | some (.own (some i') l')=>if i'=i then Sl.own t l' else .emp
      | _=>.emp)=s:=h
     cases ep:(ps:List Sl)[i]? with
     | none=>rw[ep] at h;exact .inr h.symm
     | some sp =>
      rw[ep] at h;cases sp with
      | emp=>exact .inr h.symm
      | val _=>exact .inr h.symm
      | box _ _=>exact .inr h.symm
      | lol _=>exact .inr h.symm
      | lnk _=>exact .inr h.symm
      | own t' l' =>
       cases t' with
       | none=>exact .inr h.symm
       | some i' =>
        have h2:(if i'=i then Sl.own t l' else .emp)=s:=h
        by_cases z:i'=i
        ·subst z;rw[if_pos rfl] at h2;exact .inl ⟨l',rfl,h2.symm⟩
        ·rw[if_neg z] at h2;exact .inr h2.symm
theorem abn{j:Nat}{a:Addr}(h:Owns (putB ρ js ps) σ j a):Owns ρ σ j a:=by
 obtain⟨⟨t,l,e⟩,q⟩:=h;obtain⟨s0,e0,h | ⟨rfl,_⟩⟩:=ag5 e
 ·obtain⟨t',l',rfl,i,_,⟨l2,_,z⟩ | z⟩:=h
  ·exact⟨⟨t',l',e0⟩,q⟩
  ·cases z
 ·exact⟨⟨t,l,e0⟩,q⟩
theorem abe(G:Good K tg F H ρ σ)(L:Lent K F σ τ js ds)(x:Ext (Own (lend ρ js ds) τ) O' F H F' H')(s':Same F' H')(fin:Fin K F' H' τ ps O'):Good K tg F' H' (putB ρ js ps) σ where
 sub:=s'
 len:=by
  unfold putB;rw[List.length_mapIdx];exact G.len
 sl:=fun j s o e q=>by
  obtain⟨s0,e0,h | ⟨rfl,hn⟩⟩:=ag5 e
  ·obtain⟨t,l,rfl,i,ei,⟨l',ep,rfl⟩ | rfl⟩:=h
   ·obtain⟨a,vs,rfl,hf,hh,hl,ht⟩:=G.sl j _ _ e0 q;obtain⟨_,hf',ws,hh',hl'⟩:=fin.at' i l' ep;have:=L.h1 i j _ ei q;have et:tgOf τ i=a:=by
     unfold tgOf;rw[this]
    rw[et] at hf' hh';exact⟨a,ws,rfl,hf',hh',hl',ht⟩
   ·trivial
  ·have w:=G.sl j _ _ e0 q;cases s with
   | emp=>trivial
   | val d =>
    obtain⟨v,h1,h2⟩:=w;exact⟨v,h1,h2.mono x.sub⟩
   | lol ts =>
    obtain⟨a,h1,h2⟩:=w;exact⟨a,h1,x.sub _ _ h2⟩
   | lnk k=>exact w
   | box c fs =>
    obtain⟨a,C,dx,fvs,e1,e2,e3,e4,e7,e5,e6⟩:=w;have no:¬Own (lend ρ js ds) τ a:=fun⟨i,z⟩=>by
     obtain⟨j',_,v⟩:=yx G L z;obtain⟨_,vs,hv⟩:=G.ownAt ⟨j',v⟩;rw[e3] at hv;cases hv
    have hf:F' a=none:=by
     cases z:F' a with
     | none=>rfl
     | some o =>
      rcases x.new a o z with z | z | z
      ·rw[e2] at z;cases z
      ·rw[e3] at z;cases z
      ·exact absurd z no
    exact⟨a,C,dx,fvs,e1,hf,x.keep a _ e3 no,e4,e7,e5,fun f d h=>(e6 f d h).imp fun v h=>⟨h.1,h.2.mono x.sub⟩⟩
   | own t l =>
    obtain⟨a,vs,rfl,hf,hh,hl,ht⟩:=w;have no:¬Own (lend ρ js ds) τ a:=fun⟨i,z⟩=>by
     obtain⟨j',e1,v⟩:=yx G L z;have:=G.inj j' j a v ⟨⟨t,l,e0⟩,q⟩;subst this;exact hn t l rfl i e1
    refine⟨a,vs,rfl,?_,x.keep a _ hh no,hl.mono x.sub,ht⟩;cases z:F' a with
    | none=>rfl
    | some o =>
     rcases x.new a o z with z | z | z
     ·rw[hf] at z;cases z
     ·rw[hh] at z;cases z
     ·exact absurd z no
 inj:=fun i j a w w'=>G.inj i j a (abn w) (abn w')
theorem yz(G:Good K tg F H ρ σ)(L:Lent K F σ τ js ds){a:Addr}(h:Own (lend ρ js ds) τ a):Own ρ σ a:=by
 obtain⟨i,h⟩:=h;obtain⟨j,_,h⟩:=yx G L h;exact⟨j,h⟩
theorem adb(G:Good K tg F H ρ σ)(L:Lent K F σ τ js ds)(x:Ext (Own (lend ρ js ds) τ) O' F H F' H'):Ext (Own ρ σ) (Own (putB ρ js ps) σ) F H F' H' where
 sub:=x.sub
 new:=fun a o e=>by
  rcases x.new a o e with z | z | z
  ·exact .inl z
  ·exact .inr (.inl z)
  ·exact .inr (.inr (yz G L z))
 keep:=fun a o e n=>x.keep a o e fun z=>n (yz G L z)
 own:=fun a ⟨j,w⟩=>.inl ⟨j,abn w⟩
 there:=x.there
theorem aql(G:Good K tg F H ρ σ)(L:Lent K F σ τ js ds)(fin:Fin K F' H' τ ps O'){a:Addr}(ha:H a=none∨Own (lend ρ js ds) τ a)(hn:¬O' a):¬Own (putB ρ js ps) σ a:=fun⟨j,w⟩=>by
 have v:=abn w;obtain⟨⟨t,l2,e⟩,q⟩:=w;obtain⟨s0,e0,z | ⟨rfl,hno⟩⟩:=ag5 e
 ·obtain⟨t',l',rfl,i,ei,⟨l3,ep,z⟩ | z⟩:=z
  ·have et:tgOf τ i=a:=by
    unfold tgOf;rw[L.h1 i j _ ei q]
   have:=(fin.at' i l3 ep).1;rw[et] at this;exact hn this
  ·cases z
 ·rcases ha with ha | ⟨i,z⟩
  ·obtain⟨a',vs',ea,_,e2,_⟩:=G.sl j _ _ e0 q;cases ea;rw[ha] at e2;cases e2
  ·obtain⟨j',e1,v'⟩:=yx G L z;have:=G.inj j' j a v' v;subst this;exact hno t l2 rfl i e1
theorem ah7(G:Good K tg F H ρ σ)(L:Lent K F σ τ js ds)(fin:Fin K F' H' τ ps O'){r:Rv}{v:V}(h:relR K r v H (Own (lend ρ js ds) τ) F' H' O'):relR K r v H (Own ρ σ) F' H' (Own (putB ρ js ps) σ):=by
 cases r with
 | v d=>exact h
 | fr l =>
  obtain⟨a,vs,rfl,ha,hf,hh,hl,hn⟩:=h;exact⟨a,vs,rfl,ha.imp id (yz G L),hf,hh,hl,aql G L fin ha hn⟩
 | tf d l =>
  obtain⟨t,u,a,vs,rfl,ht,hd,ha,hf,hh,hl,hn⟩:=h;exact⟨t,u,a,vs,rfl,ht,hd,ha.imp id (yz G L),hf,hh,hl,aql G L fin ha hn⟩
end
abbrev Fd:=Ro->Option (Out Rv×Ro)
noncomputable def fnD(nl np:Nat)(g:Sd):Fd:=fun as=>match g (as++List.replicate (nl - np) .emp) with
 | some (.ret r,ρ)=>some (.ok r,ρ.take np)
 | some (.nx,ρ)=>some (.ok (.v .non),ρ.take np)
 | some (.exc x,ρ)=>some (.exc x,ρ.take np)
 | _=>none
def spOf(K:Fg9)(n:Nat)(f:Fd):Sp:=fun vs H Q _=>vs.length=n/\∃F as r ps,Good K (tgOf (vs.map some)) F H as (vs.map some)/\f as=some (.ok r,ps) /\
 ∀v H' F' O',Same F' H'->Ext (Own as (vs.map some)) O' F H F' H'->Fin K F' H' (vs.map some) ps O'->relR K r v H (Own as (vs.map some)) F' H' O'->Q v H'
section
variable{K:Fg9}
theorem avw{as:Ro}{τ:L2.St}{n:Nat}{a:Addr}(hl:as.length=τ.length)(h:Own (as++List.replicate n .emp) (τ++List.replicate n none) a):Own as τ a:=by
 obtain⟨i,⟨t,l,e⟩,q⟩:=h
 by_cases hi:i < as.length
 ·rw[List.getElem?_append_left hi] at e;rw[List.getElem?_append_left (by omega)] at q
  exact⟨i,⟨t,l,e⟩,q⟩
 ·rw[List.getElem?_append_right (by omega),List.getElem?_replicate] at e
  split at e <;> cases e
theorem arq{as:Ro}{τ:L2.St}{n:Nat}{a:Addr}(hl:as.length=τ.length)(h:Own as τ a):Own (as++List.replicate n .emp) (τ++List.replicate n none) a:=by
 obtain⟨i,⟨t,l,e⟩,q⟩:=h;have hi:=(List.getElem?_eq_some_iff.mp e).1;exact⟨i,⟨t,l,by rw[List.getElem?_append_left hi];exact e⟩,by rw[List.getElem?_append_left (by omega)];exact q⟩
theorem ye{as:Ro}{τ:L2.St}{n:Nat}(hl:as.length=τ.length):Own (as++List.replicate n .emp) (τ++List.replicate n none)=Own as τ:=funext fun a=>propext ⟨avw hl,arq hl⟩
theorem Good.app{tg:Nat->Addr}{F H:Hp}{as:Ro}{τ:L2.St}(G:Good K tg F H as τ)(n:Nat):Good K tg F H (as++List.replicate n .emp) (τ++List.replicate n none) where
 sub:=G.sub
 len:=by rw[List.length_append,List.length_append,G.len,List.length_replicate,List.length_replicate]
 sl:=fun i s o e q=>by
  have hl:=G.len
  by_cases hi:i < as.length
  ·rw[List.getElem?_append_left hi] at e;rw[List.getElem?_append_left (by omega)] at q
   exact G.sl i s o e q
  ·rw[List.getElem?_append_right (by omega),List.getElem?_replicate] at e
   split at e
   ·cases e;trivial
   ·cases e
 inj:=fun i j a w w'=>by
  have hl:=G.len;have f:∀k,Owns (as++List.replicate n .emp) (τ++List.replicate n none) k a->Owns as τ k a:=fun k ⟨⟨t,l,e⟩,q⟩=>by
   by_cases hi:k < as.length
   ·rw[List.getElem?_append_left hi] at e;rw[List.getElem?_append_left (by omega)] at q
    exact⟨⟨t,l,e⟩,q⟩
   ·rw[List.getElem?_append_right (by omega),List.getElem?_replicate] at e
    split at e <;> cases e
  exact G.inj i j a (f i w) (f j w')
theorem a4c{P:Program}{w:World}{mg:Str->Option Value}{base:Heap}{x qual:Str}{st:Stmt}{f:Addr}{fd:FuncData}{N ps:List Str}{k:Nat}{g:Sd}(F:Fun K x qual st f fd)(S:FnScope N ps (ao st))
  (body:∀(cdv:Value) (A:Around) (outer:List Env) (s:Shared) (H:Hp) (E:XK),Room k (A.deeper (envOfC qual (ao st) s.heap.objs.size f cdv))->SVs K (cxOf CX0 P w K mg base N qual (ao st) f cdv A outer s H E).nox (ir st) g) :
  FnOk P w K mg base CX0 (k+1) f fd ps (spOf K ps.length (fnD N.length ps.length g)):=by
 refine F.ok S (fun vs H Q E h=>h.1) (fun cdv A outer s H vs Q E hr h=>⟨_,body cdv A outer s H E hr rfl,?_⟩)
 obtain⟨hn,F,as,r,ps',G,em,q⟩:=h;have hl:as.length=(vs.map some).length:=G.len;have G1:=G.app (N.length - vs.length);have es:start N vs=vs.map some++List.replicate (N.length - vs.length) none:=rfl;rw[es];unfold fnD at em;rw[<-hn] at em;have fin:∀{ρ':Ro} {σ':L2.St} {F' H':Hp},Good K (tgOf (vs.map some)) F' H' ρ' σ'->Fin K F' H' (vs.map some) (ρ'.take vs.length) (Own ρ' σ'):=fun{ρ' σ' F' H'} G'=>⟨fun i l e=>by
  have hi:=(List.getElem?_eq_some_iff.mp e).1;rw[List.length_take] at hi;rw[List.getElem?_take_of_lt (by omega)] at e
  obtain⟨o,ho,a,ws,rfl,hf,hh,hl,ht⟩:=G'.at e;rw[ht i rfl];exact⟨⟨i,⟨_,_,e⟩,ho⟩,hf,ws,hh,hl⟩⟩
 split at em
 ·rename_i r' ρ' e;cases em;refine⟨_,F,_,.ret r,ρ',G1,e,fun v σ' H' F' G' x' rr =>?_⟩
  rw[ye hl] at x' rr;exact q v H' F' (Own ρ' σ') G'.sub x' (fin G') rr
 ·rename_i ρ' e;cases em;refine⟨_,F,_,.nx,ρ',G1,e,fun σ' H' F' G' x' =>?_⟩
  rw[ye hl] at x';exact q .non H' F' (Own ρ' σ') G'.sub x' (fin G') .non
 ·cases em
 ·cases em
end
section
variable{K:Fg9}{X:Cx}{e a b c tgt iter elt:Expr}{es:List Expr}{pos p p2:Pos}
inductive AR (K:Fg9) (F:Hp) (σ:L2.St):List (Option Nat)->List (Option D)->List V->Prop
 | nil:AR K F σ [] [] []
 | ex {d:D} {v:V} {js:List (Option Nat)} {ds:List (Option D)} {vs:List V} (h:Is K F d v) (t:AR K F σ js ds vs):AR K F σ (none::js) (some d::ds) (v::vs)
 | nm {j:Nat} {v:V} {js:List (Option Nat)} {ds:List (Option D)} {vs:List V} (h:σ[j]? = some (some v)) (t:AR K F σ js ds vs):AR K F σ (some j::js) (none::ds) (v::vs)
theorem AR.lent{F:Hp}{σ:L2.St}:∀{js:List (Option Nat)} {ds:List (Option D)} {vs:List V},AR K F σ js ds vs->Lent K F σ (vs.map some) js ds
 | _,_,_,.nil=>⟨rfl,rfl,fun i j o h=>by simp at h,fun i d h=>by simp at h⟩
 | _,_,_,.ex h t=>by
  have L:=t.lent;refine⟨by simp[by simpa using L.l1],by simp[L.l2],fun i j o h q =>?_,fun i d h q =>?_⟩
  ·cases i with
   | zero=>simp at h
   | succ i=>simpa using L.h1 i j o (by simpa using h) q
  ·cases i with
   | zero=>simp at q;subst q;exact⟨_,rfl,‹_›⟩
   | succ i=>simpa using L.h2 i d (by simpa using h) (by simpa using q)
 | _,_,_,.nm h t=>by
  have L:=t.lent;refine⟨by simp[by simpa using L.l1],by simp[L.l2],fun i j o h' q =>?_,fun i d h' q =>?_⟩
  ·cases i with
   | zero =>
    simp at h';subst h';rw[h] at q;cases q;rfl
   | succ i=>simpa using L.h1 i j o (by simpa using h') q
  ·cases i with
   | zero=>simp at h'
   | succ i=>simpa using L.h2 i d (by simpa using h') (by simpa using q)
theorem AR.length{F:Hp}{σ:L2.St}{js:List (Option Nat)}{ds:List (Option D)}{vs:List V}(h:AR K F σ js ds vs):vs.length=js.length:=by
 have:=h.lent.l1
 simpa using this
def TAg(K:Fg9)(js:List (Option Nat))(m:M (List (Option D))):TA:=fun σ H Q=>∃tg F ρ ds ρ',Good K tg F H ρ σ/\m ρ=some (.ok ds,ρ')/\∀vs H' F',Good K tg F' H' ρ' σ->Ext (Own ρ σ) (Own ρ' σ) F H F' H'->AR K F' σ js ds vs->Q vs H'
structure EG (K:Fg9) (X:Cx) (es:List Expr) (js:List (Option Nat)) (m:M (List (Option D))):Prop where
 go:X.K=K->PA X es (TAg K js m)
instance {K:Fg9} {X:Cx} {es:List Expr} {js:List (Option Nat)} {m:M (List (Option D))}:CoeFun (EG K X es js m) fun _=>X.K=K->PA X es (TAg K js m):=⟨EG.go⟩
def gm:M (List (Option D)):=ret []
def bw(m:M D)(ms:M (List (Option D))):M (List (Option D)):=m.bind fun d=>ms.bind fun ds=>ret (some d::ds)
def dh(j:Nat)(ms:M (List (Option D))):M (List (Option D)):=(di j).bind fun _=>ms.bind fun ds=>ret (none::ds)
theorem cu:EG K X [] [] gm:=EG.mk fun _=>PA.imp ad4 fun σ H Q z9=>by
 obtain⟨tg,F,ρ,ds,ρ',G,em,q⟩:=z9;obtain⟨rfl,rfl⟩:=jf em;exact q [] H F G (Ext.refl _ _ _) .nil
theorem eg_v{m:M D}{js:List (Option Nat)}{ms:M (List (Option D))}(h:EV K X e m)(t:EG K X es js ms)(hs:starEach (e::es) X.env=(false,eval e X.env)::starEach es X.env:=by rfl):EG K X (e::es) (none::js) (bw m ms):=EG.mk fun hk=>PA.imp (qw (h hk) (t hk) hs) fun σ H Q z9=>by
 obtain⟨tg,F,ρ,ds,ρ',G,em,q⟩:=z9;obtain⟨d,ρ1,e1,em⟩:=aq em;obtain⟨r,ρ2,e2,em⟩:=aq em;obtain⟨rfl,rfl⟩:=jf em;exact⟨tg,F,ρ,d,ρ1,G,e1,fun v H1 F1 G1 x1 r1=>⟨tg,F1,ρ1,r,_,G1,e2,fun vs H2 F2 G2 x2 r2=>q _ H2 F2 G2 (x1.trans x2) (.ex (r1.mono x2.sub) r2)⟩⟩
theorem eg_n{j:Nat}{js:List (Option Nat)}{ms:M (List (Option D))}(h:PE X e (tVar j))(t:EG K X es js ms)(hs:starEach (e::es) X.env=(false,eval e X.env)::starEach es X.env:=by rfl):EG K X (e::es) (some j::js) (dh j ms):=EG.mk fun hk=>PA.imp (qw h (t hk) hs) fun σ H Q z9=>by
 obtain⟨tg,F,ρ,ds,ρ',G,em,q⟩:=z9;obtain⟨d0,ρ0,e0,em⟩:=aq em;obtain⟨r,ρ2,e2,em⟩:=aq em;obtain⟨rfl,rfl⟩:=jf em;obtain⟨rfl,v,hv,_⟩:=qb G e0;exact⟨v,hv,tg,F,ρ0,r,_,G,e2,fun vs H2 F2 G2 x2 r2=>q _ H2 F2 G2 x2 (.nm hv r2)⟩
noncomputable def mFn(f:Fd)(js:List (Option Nat))(ms:M (List (Option D))):M Rv:=ms.bind fun ds ρ=>if okJs ρ js=true then match f (lend ρ js ds) with
  | some (.ok r,ps)=>some (.ok r,putB ρ js ps)
  | some (.exc x,ps)=>some (.exc x,putB ρ js ps)
  | none=>none
 else none
theorem aty{f:Fd}{js:List (Option Nat)}{ms:M (List (Option D))}{ρ ρ':Ro}{r:Rv}(h:mFn f js ms ρ=some (.ok r,ρ')):∃ds ρ1 ps,ms ρ=some (.ok ds,ρ1)/\okJs ρ1 js=true/\f (lend ρ1 js ds)=some (.ok r,ps)/\ρ'=putB ρ1 js ps:=by
 obtain⟨ds,ρ1,e1,em⟩:=aq h;have em:(if okJs ρ1 js=true then match f (lend ρ1 js ds) with
  | some (.ok r,ps)=>some (Out.ok r,putB ρ1 js ps)
  | some (.exc x,ps)=>some (.exc x,putB ρ1 js ps)
  | none=>none
  else none)=some (.ok r,ρ'):=em
 split at em
 ·rename_i hk;split at em
  ·rename_i r' ps e2;cases em;exact⟨ds,ρ1,ps,e1,hk,e2,rfl⟩
  ·cases em
  ·cases em
 ·cases em
theorem gr{f:Fd}{n k:Nat}{x:Str}{pn:List Str}{js:List (Option Nat)}{ms:M (List (Option D))}(F:Dfn X.prog X.w X.K X.mg X.base x pn k (spOf K n f))(hr:Room k X.A)(hg:Gl X x)(ha:EG K X (e::es) js ms)(hn:js.length=n:=by rfl)(hdb:(x==("__debug__" : Str))=false:=by decide)
  (he:starEach (e::es) X.env=(false,eval e X.env)::starEach es X.env:=by rfl) (hpl:(backTo pos (starEach es X.env)).any (·.1)=false:=by rfl):ER K X (.Call (.Name x p) (e::es) [] pos) (mFn f js ms):=ER.mk fun hk=>PE.imp (a2r F hr hg (ha hk) hdb he hpl) fun σ H Q z9=>by
 obtain⟨tg,F,ρ,r,ρ',G,em,q⟩:=z9;obtain⟨ds,ρ1,ps,e1,hj,e2,rfl⟩:=aty em;refine⟨tg,F,ρ,ds,ρ1,G,e1,fun vs H1 F1 G1 x1 ar =>?_⟩
 have L:=ar.lent;show spOf K n f (vs++[]) H1 Q E0;rw[List.append_nil];refine⟨by rw[ar.length];exact hn,F1,_,r,ps,yg G1 hj L,e2,fun v H' F' O' s' x' fin rr =>?_⟩
 exact q v H' F' (abe G1 L x' s' fin) (x1.trans (adb G1 L x')) (kh x1 (ah7 G1 L fin rr))
structure EIf (K:Fg9) (X:Cx) (ifs:List Expr) (m:M Bool):Prop where
 go:X.K=K->PIf X ifs (TB K m)
instance {K:Fg9} {X:Cx} {ifs:List Expr} {m:M Bool}:CoeFun (EIf K X ifs m) fun _=>X.K=K->PIf X ifs (TB K m):=⟨EIf.go⟩
theorem lq:EIf K X [] (ret true):=EIf.mk fun _ jv s σ H Q I z9=>by
 obtain⟨tg,F,ρ,k,ρ',G,em,q⟩:=z9;obtain⟨rfl,rfl⟩:=jf em;exact avl jv s σ H Q I (q H F G (Ext.refl _ _ _))
noncomputable def compD(b:D->Ro->Option Ro)(mc:M Bool)(me:M D):List D->List D->M (List D)
 | [],ys=>ret ys
 | d::ds,ys=>fun ρ=>match b d ρ with
  | none=>none
  | some ρ1=>(mc.bind fun k=>if k=true then me.bind fun y=>compD b mc me ds (ys++[y]) else compD b mc me ds ys) ρ1
theorem afp{b:D->Ro->Option Ro}{mc:M Bool}{me:M D}:∀{l ys yf:List D} {ρ ρ':Ro},compD b mc me l ys ρ=some (.ok yf,ρ')->ys.length<=yf.length
 | [],ys,yf,ρ,ρ',h=>by
  obtain⟨rfl,_⟩:=jf (show ret ys ρ=_ from h)
  exact Nat.le_refl _
 | d::ds,ys,yf,ρ,ρ',h=>by
  unfold compD at h;split at h
  ·cases h
  ·obtain⟨k,ρ2,e2,h⟩:=aq h;split at h
   ·obtain⟨y,ρ3,e3,h⟩:=aq h;have:=afp h;rw[List.length_append] at this;omega
   ·exact afp h
def vm(src:List (Option Nat))(mi:M (List D))(b:D->Ro->Option Ro)(mc:M Bool)(me:M D):M Rv:=mi.bind fun l ρ=>if okJs ρ src=true then match compD b mc me l [] (lend ρ src (src.map fun _=>none)) with
  | some (.ok ys,ps)=>if ys.length<=capS then some (.ok (.fr ys),putB ρ src ps) else none
  | some (.exc x,ps)=>some (.exc x,putB ρ src ps)
  | none=>none
 else none
theorem ar4{src:List (Option Nat)}{mi:M (List D)}{b:D->Ro->Option Ro}{mc:M Bool}{me:M D}{ρ ρ':Ro}{r:Rv}(h:vm src mi b mc me ρ=some (.ok r,ρ')):∃l ρ1 ys ps,mi ρ=some (.ok l,ρ1)/\okJs ρ1 src=true/\compD b mc me l [] (lend ρ1 src (src.map fun _=>none))=some (.ok ys,ps)/\ys.length<=capS/\r=.fr ys/\ρ'=putB ρ1 src ps:=by
 obtain⟨l,ρ1,e1,em⟩:=aq h;have em:(if okJs ρ1 src=true then match compD b mc me l [] (lend ρ1 src (src.map fun _=>none)) with
  | some (.ok ys,ps)=>if ys.length<=capS then some (Out.ok (Rv.fr ys),putB ρ1 src ps) else none
  | some (.exc x,ps)=>some (.exc x,putB ρ1 src ps)
  | none=>none
  else none)=some (.ok r,ρ'):=em
 split at em
 ·rename_i hk;split at em
  ·rename_i ys ps e2;split at em
   ·rename_i hz;cases em;exact⟨l,ρ1,ys,ps,e1,hk,e2,hz,rfl,rfl⟩
   ·cases em
  ·cases em
  ·cases em
 ·cases em
theorem aio{F:Hp}{σ:L2.St}(src:List (Option Nat)):Lent K F σ (pick src σ) src (src.map fun _=>none):=by
 refine⟨by simp[pick],by simp,fun i j o h q =>?_,fun i d h q =>?_⟩
 ·unfold pick;rw[List.getElem?_map,h];show some ((σ[j]?).bind id)=some o;rw[q];rfl
 ·rw[List.getElem?_map,h] at q;cases q
theorem Ext.upd{O O':Addr->Prop}{F H F' H':Hp}{d:Addr}{o:HO}(x:Ext O O' F H F' H')(h:H d=none):Ext O O' F H F' (upd H' d o) :=
 ⟨x.sub,x.new,fun a u e n=>by rw[b8 (ig e h)];exact x.keep a u e n,x.own,fun a e=>by
  by_cases ha:a=d
  ·subst ha;exact h
  ·rw[b8 ha] at e;exact x.there a e⟩
theorem Good.upd{tg:Nat->Addr}{F H:Hp}{ρ:Ro}{σ:L2.St}{d:Addr}(G:Good K tg F H ρ σ)(hf:F d=none)(hn:¬Own ρ σ d)(o:HO)(hi:∀C dx fs,H d≠some (.ins C dx fs)):Good K tg F (upd H d o) ρ σ :=
 G.grow (Same.refl F) (fun b u e=>by
  have hb:b≠d:=fun z=>by
   subst z;rw[hf] at e;cases e
  rw[b8 hb];exact G.sub b u e) (fun a w=>⟨(G.ownAt w).1,by
  have hb:a≠d:=fun z=>hn (z▸w)
  rw[b8 hb]⟩) fun a C dx fvs h1 h2=>⟨h1,by
  have hb:a≠d:=fun z=>hi C dx fvs (z▸h2)
  rw[b8 hb]⟩
theorem ame{mi:M (List D)}{bb:D->Ro->Option Ro}{mc:M Bool}{me:M D}{src:List (Option Nat)}(σ:L2.St)(H:Hp)(Q:VK)(t:T K (relR K) (vm src mi bb mc me) σ H Q):aq2 (TIt K mi) (TGd K bb) (TB K mc) (T K (relD K) me) src σ H Q:=by
 obtain⟨tg,F,ρ,r,ρ',G,em,q⟩:=t;obtain⟨l,ρ1,yf,ps,e1,hj,e2,hz,rfl,rfl⟩:=ar4 em;refine⟨tg,F,ρ,l,ρ1,G,e1,fun J H1 F1 G1 x1 Z dd hd =>?_⟩
 have L:Lent K F1 σ (pick src σ) src (src.map fun _=>none):=aio src
 have Gl:=yg G1 hj L;have own0:¬Own (lend ρ1 src (src.map fun _=>none)) (pick src σ) dd:=fun z=>Gl.own_ne hd z rfl
 refine amf Z (fun i ys σc Hc=>∃Fc ρc yd,Good K (tgOf (pick src σ)) Fc Hc ρc σc/\Ext (Own (lend ρ1 src (src.map fun _=>none)) (pick src σ)) (Own ρc σc) F1 H1 Fc Hc/\Fc dd=none/\¬Own ρc σc dd/\Hc dd=some (.lst ys)/\IsL K Fc yd ys/\compD bb mc me (l.drop i) yd ρc=some (.ok yf,ps))
  ⟨F1,_,[],Gl.upd (G1.freeF hd) own0 _ (fun _ _ _ z=>by rw[hd] at z;cases z),(Ext.refl _ _ _).upd hd,G1.freeF hd,own0,f9,.nil,e2⟩ ?_ ?_ ?_
 ·rintro i ys σc Hc _ ⟨Fc,ρc,yd,Gc,xc,_,_,hdd,_,_⟩
  exact⟨xc.sub.trans Gc.sub,hdd⟩
 ·rintro i d x ys σc Hc0 Hc M hdl ⟨Fc0,ρc,yd,Gc0,xc0,fd0,od0,hdd0,iy0,ec⟩ al hM
  obtain⟨Fc,Gc,xc,_,idl,xa⟩:=ah9 Gc0 xc0 xc0.sub al;have iy:=iy0.mono xa.sub;have hlt:i < l.length:=(List.getElem?_eq_some_iff.mp hdl).1;have edl:l[i]=d:=(List.getElem?_eq_some_iff.mp hdl).2;rw[List.drop_eq_getElem_cons hlt,edl] at ec;unfold compD at ec;have step:∀{F2 H2:Hp} {ρ2 ρ3:Ro} {σ2 σ3:L2.St} {F3 H3:Hp},F2 dd=none->¬Own ρ2 σ2 dd->H2 dd=some (.lst ys)->Ext (Own ρ2 σ2) (Own ρ3 σ3) F2 H2 F3 H3->F3 dd=none/\¬Own ρ3 σ3 dd/\H3 dd=some (.lst ys):=fun{F2 H2 ρ2 ρ3 σ2 σ3 F3 H3} h1 h2 h3 x3=>by
   refine⟨?_,fun z =>?_,x3.keep _ _ h3 h2⟩
   ·cases z:F3 dd with
    | none=>rfl
    | some o =>
     rcases x3.new _ _ z with z | z | z
     ·rw[h1] at z;cases z
     ·rw[h3] at z;cases z
     ·exact absurd z h2
   ·rcases x3.own _ z with z | z
    ·exact h2 z
    ·rw[h3] at z;cases z
  obtain⟨fd,od,hdd⟩:=step fd0 od0 hdd0 xa;split at ec
  ·cases ec
  ·rename_i ρ2 eb;refine⟨_,Fc,ρc,d,ρ2,Gc,idl,eb,fun σ2 H2 F2 G2 x2 =>?_⟩
   obtain⟨k,ρ3,ek,ec⟩:=aq ec;obtain⟨fd2,od2,hdd2⟩:=step fd od hdd x2;refine⟨_,F2,ρ2,k,ρ3,G2,ek,fun H3 F3 G3 x3 =>?_⟩
   obtain⟨fd3,od3,hdd3⟩:=step fd2 od2 hdd2 x3;cases k with
   | false =>
    refine iteF (hM _ _ _ ⟨F3,ρ3,yd,G3,(xc.trans x2).trans x3,fd3,od3,hdd3,(iy.mono x2.sub).mono x3.sub,ec⟩)
   | true =>
    obtain⟨y,ρ4,ey,ec⟩:=aq ec;refine iteT ⟨_,F3,ρ3,y,ρ4,G3,ey,fun v H4 F4 G4 x4 iv =>?_⟩
    obtain⟨fd4,od4,hdd4⟩:=step fd3 od3 hdd3 x4;refine⟨hdd4,?_,hM _ _ _ ⟨F4,ρ4,yd++[y],G4.upd fd4 od4 _ (fun _ _ _ z=>by rw[hdd4] at z;cases z),(((xc.trans x2).trans x3).trans x4).upd hd,fd4,od4,f9,?_,ec⟩⟩
    ·have:=afp ec;rw[List.length_append,iy.length] at this;rw[sizeLine_eq];exact Nat.lt_of_lt_of_le (by simpa using Nat.lt_succ_self ys.length) (Nat.le_trans this hz)
    ·exact(((iy.mono x2.sub).mono x3.sub).mono x4.sub).append (.cons iv .nil)
 ·rintro ys σc Hc ⟨Fc,ρc,yd,Gc,xc,fd,od,hdd,iy,ec⟩
  rw[List.drop_eq_nil_of_le (Nat.le_refl _)] at ec;obtain⟨rfl,rfl⟩:=jf (show ret yd ρc=_ from ec)
  have fin:Fin K Fc Hc (pick src σ) ps (Own ps σc):=⟨fun i l' e=>by
   obtain⟨o,ho,a,ws,rfl,hf,hh,hl,ht⟩:=Gc.at e;rw[ht i rfl];exact⟨⟨i,⟨_,_,e⟩,ho⟩,hf,ws,hh,hl⟩⟩
  refine q _ Hc Fc (abe G1 L xc Gc.sub fin) (x1.trans (adb G1 L xc)) ⟨dd,ys,rfl,.inl (x1.there dd hd),fd,hdd,iy,fun⟨j,w⟩ =>?_⟩
  exact G1.own_ne hd ⟨j,abn w⟩ rfl
theorem ou{ifs:List Expr}{scope:Scope}{mi:M (List D)}{bb:D->Ro->Option Ro}{mc:M Bool}{me:M D}(fr N:List Str)(src:List (Option Nat))(hc:X.calm=true)(hi:IT K X tgt iter mi)
  (hg:∀fp s H,GV K (cxC X N scope fr fp s H) tgt bb) (ht:∀fp s H,EIf K (cxC X N scope fr fp s H) ifs mc) (he:∀fp s H,EV K (cxC X N scope fr fp s H) elt me)
  (hok:afo X.env X.N scope fr N src=true:=by rfl) (hkind:scope.kind=.function:=by rfl) (hclos:closureFor scope X.env=pure (xf X.env fr):=by rfl)
  (hs:∀x,foldedSetIterable iter X.env x=pure x:=by intro _;rfl):ER K X (.ListComp elt [⟨tgt,iter,ifs,0⟩] scope pos) (vm src mi bb mc me):=ER.mk fun hk=>by
 have hkc:∀fp s H,(cxC X N scope fr fp s H).K=K:=fun _ _ _=>hk
 refine PE.imp (avs fr N src hc (hi hk) (fun fp s H=>(hg fp s H).go (hkc _ _ _)) (fun fp s H=>(ht fp s H).go (hkc _ _ _)) (fun fp s H=>(he fp s H).go (hkc _ _ _)) hok hkind hclos hs) ame
end
end Dn
namespace Mn
open L2
theorem aog{X:Cx}{tg iter elt:Expr}{ifs:List Expr}{scope:Scope}{cpos pos px:Pos}{wi:TI}{g:TG}{ti:TT}{te:TE}{i:Nat}{x:Str}(fr N:List Str)(src:List (Option Nat))(hN:X.N.Nodup)(hxi:X.N[i]? = some x)(hx:Loc X.env.scope x)(hc:X.calm=true)(hi:PI X tg iter wi)
  (hg:∀fp s H,PG (cxC X N scope fr fp s H) tg g) (ht:∀fp s H,PIf (cxC X N scope fr fp s H) ifs ti) (he:∀fp s H,PE (cxC X N scope fr fp s H) elt te)
  (hsw:swapsWith (.ListComp elt [⟨tg,iter,ifs,0⟩] scope cpos) (some (.Name x px)) pos.line X.env=pure true:=by rfl)
  (hok:afo X.env X.N scope fr N src=true:=by rfl) (hkind:scope.kind=.function:=by rfl) (hclos:closureFor scope X.env=pure (xf X.env fr):=by rfl)
  (hs:∀x,foldedSetIterable iter X.env x=pure x:=by intro _;rfl) (hf:X.fn x=true∨X.env.scope.names.lookup x=some .local:=by first | exact .inl rfl | exact .inr rfl | assumption) :
  PS X (.Assign [.Name x px] (.ListComp elt [⟨tg,iter,ifs,0⟩] scope cpos) pos) (tAsg (aq2 wi g ti te src) (awl i)):=by
 have C:=CompOk.of hok;intro jv s σ H D I h;rw[exec_Assign_Name_used _ _ _ _ hsw];refine wpAny_bind (wpAny_standAt (wpAny_bind ?_));show wpAny _ _ (comprehension (.ListComp elt [⟨tg,iter,ifs,0⟩] scope cpos) scope X.env (firstIterPos [⟨tg,iter,ifs,0⟩] cpos) (newList []) (firstAsync [⟨tg,iter,ifs,0⟩]) (firstIter [⟨tg,iter,ifs,0⟩] X.env) (some (assign (.Name x px) X.env)) >>= fun _=>pure ()) _ _ _
 refine wpAny_bind (wpAny_comprehension_free (use:=some (assign (.Name x px) X.env)) (Q:=fun _ s'=>wpAny (model X.prog X.w) X.A (pure ()) (fun _ s''=>wpAny (model X.prog X.w) X.A (pure Flow.next) (SP X jv D) X.xe s'') X.xe s') rfl hs hclos hkind C.loc (wpAny_mono (hi jv s σ H _ I h) (fun v s1 h1=>wpAny_mono h1 (fun itv s2 h2 =>?_) fun _ _ e=>e) fun _ _ e=>e))
 obtain⟨it,fp,tn,J,H2,e,I2,T,st2,f2,q2⟩:=h2;subst e;have hd0:H2 s2.heap.objs.size=none:=I2.hok.fresh (Nat.le_refl _);obtain⟨W,⟨m0,w0⟩,turn⟩:=q2 s2.heap.objs.size hd0;refine wpAny_newObj_type ?_;generalize hs3:({ s2 with heap:=s2.heap.push { cls:=.type "list", dict:=none,data:=.seq ([]:List Value).toArray } }:Shared)=s3
 have keep2:∀b o,s2.heap.get? b=some o->s3.heap.get? b=some o:=fun b o e=>by rw[<-hs3];exact Heap.get?_push_of_some _ e
 have I3:Inv X jv σ (upd H2 s2.heap.objs.size (.lst [])) s3:=by
  rw[<-hs3];exact I2.laid (t':=s2.toks) (fun b u q=>Heap.get?_push_of_some _ q) (Nat.le_refl _) ⟨Nat.zero_le _,[],0,.nil,Heap.get?_push_size _ rfl⟩
 have ne0:∀b∈fp,b≠s2.heap.objs.size:=fun b hb=>by
  obtain⟨o,e,_⟩:=T.obj _ _ st2 b hb;exact Nat.ne_of_lt (Heap.lt_size e)
 have f3:∀b∈fp,FpOk X jv (upd H2 s2.heap.objs.size (.lst [])) b:=fun b hb=>⟨by rw[b8 (ne0 b hb)];exact(f2 b hb).1,(f2 b hb).2⟩
 have lt3:∀b∈fp,b < s3.heap.objs.size:=fun b hb=>by
  obtain⟨o,e,_⟩:=T.obj _ _ st2 b hb;exact Heap.lt_size (keep2 b o e)
 refine wpAny_newFunctionEnv C.cell (by intro y hy;simp at hy) (fun h₁ hns₁ hsb₁ =>?_) hkind
 have keep3:∀b o,s3.heap.get? b=some o->h₁.get? b=some o:=fun b o e=>hsb₁.extBut b o (Nat.ne_of_lt (Heap.lt_size e)) (Heap.get?_push_of_some _ e)
 have st4:tn 0 h₁:=T.keep _ _ _ st2 fun b hb o e=>keep3 b o (keep2 b o e)
 have I4:=alx (tk:=s3.toks+([]:List (Str×Value)).length) I3 C hkind f3 lt3 hns₁ keep3;have loop:=ajh (X:=cxC X N scope fr fp s3 (upd H2 s2.heap.objs.size (.lst []))) (iter:=iter) (scope:=scope) (pos:=cpos) (d:=s2.heap.objs.size) (Q:=fun v H1=>D.nx (σ.set i (some v)) H1)
  (R:=compPost (model X.prog X.w) X.A X.xe (some (assign (.Name x px) X.env)) (fun _ s'=>wpAny (model X.prog X.w) X.A (pure ()) (fun _ s''=>wpAny (model X.prog X.w) X.A (pure Flow.next) (SP X jv D) X.xe s'') X.xe s') (.ref s2.heap.objs.size) s3.heap.objs.size) hc rfl T
  (fun H' hn b hb=>⟨hn b hb,Nat.ne_of_lt (lt3 b hb),I4.ok.exfs b hb,.inl hb,(I4.ok.exf b hb).2,fun p hp=>absurd (show p∈([]:List (Addr×Obj)) from hp) (by simp)⟩)
  (hg fp s3 _) (ht fp s3 _) (he fp s3 _) turn w0 I4 st4 (fun b hb=>(f3 b hb).1) (fun σ' H' s' I6 qn=>by
   obtain⟨m6,hn6,_⟩:=I6.loc;have fC:FpOk X jv H' s3.heap.objs.size:=I3.fpOk (Nat.le_refl _) I6.free;have I7:Inv X jv σ H' s':=aly I3 f3 I6 (Heap.SameBut.refl ..);refine wpAny_assign_Name (aie I7 hN hxi hx (v:=.ref s2.heap.objs.size) rfl (fun s8 I8 ⟨a,sb,ha⟩ =>?_) hf)
   have hne:s3.heap.objs.size≠a:=by
    rcases ha with rfl | ha
    ·exact fC.2.1
    ·exact(fC.2.2.2.2.1 x a ha).symm
   obtain⟨o6,es6,ep6,g6,r6⟩:=hn6;refine⟨m6,⟨o6,es6,ep6,(sb.2 _ hne).trans g6,r6⟩,fun h9 sb9=>wpAny_pure (wpAny_pure ⟨_,H',?_,qn⟩)⟩
   exact I8.turned (t':=s8.toks) (it:=s3.heap.objs.size) (fun b o hb e=>(sb9.2 b hb).trans e) fC.1 fC.2.1 fC.2.2.2.1 fC.2.2.2.2.1 fC.2.2.2.2.2)
 exact codeAny_compStart_list loop (T.self _ 0 _ _ _ st4 loop)
end Mn
namespace Dn
open L2 Mn
section
variable{K:Fg9}{X:Cx}{tgt iter elt:Expr}{pos p:Pos}
theorem au1{i:Nat}{x:Str}{ifs:List Expr}{scope:Scope}{cpos:Pos}{mi:M (List D)}{bb:D->Ro->Option Ro}{mc:M Bool}{me:M D}(fr N:List Str)(src:List (Option Nat))(hN:X.N.Nodup)(hxi:X.N[i]? = some x)(hx:Loc X.env.scope x)(hc:X.calm=true)(hi:IT K X tgt iter mi)
  (hg:∀fp s H,GV K (cxC X N scope fr fp s H) tgt bb) (ht:∀fp s H,EIf K (cxC X N scope fr fp s H) ifs mc) (he:∀fp s H,EV K (cxC X N scope fr fp s H) elt me)
  (hsw:swapsWith (.ListComp elt [⟨tgt,iter,ifs,0⟩] scope cpos) (some (.Name x p)) pos.line X.env=pure true:=by rfl)
  (hok:afo X.env X.N scope fr N src=true:=by rfl) (hkind:scope.kind=.function:=by rfl) (hclos:closureFor scope X.env=pure (xf X.env fr):=by rfl)
  (hs:∀x,foldedSetIterable iter X.env x=pure x:=by intro _;rfl) (hf:X.fn x=true∨X.env.scope.names.lookup x=some .local:=by first | exact .inl rfl | exact .inr rfl | assumption) :
  SV K X (.Assign [.Name x p] (.ListComp elt [⟨tgt,iter,ifs,0⟩] scope cpos) pos) (dSet i (vm src mi bb mc me)):=SV.mk fun hk=>by
 have hkc:∀fp s H,(cxC X N scope fr fp s H).K=K:=fun _ _ _=>hk
 refine PS.imp (aog fr N src hN hxi hx hc (hi hk) (fun fp s H=>(hg fp s H).go (hkc _ _ _)) (fun fp s H=>(ht fp s H).go (hkc _ _ _)) (fun fp s H=>(he fp s H).go (hkc _ _ _)) hsw hok hkind hclos hs hf) fun E σ H ⟨tg,F,ρ,fl,ρ',G,em,q⟩=>aa9 em q fun r ρ1 e1 em =>?_
 cases em;refine ame σ H _ ⟨tg,F,ρ,r,ρ1,G,e1,fun v H' F' G' x rr =>?_⟩
 obtain⟨G2,x2⟩:=G'.store x i rr;exact q _ H' F' G2 x2
end
@[irreducible] def fuel:Nat:=1000000000
section
variable{K:Fg9}{X:Cx}{e a b c:Expr}{es:List Expr}{pos p p2:Pos}
end
def ak2(f:Fd):Prop:=∀ns:List Int,ns.length<=63->∃ps,f [.val (.kst (ns.map D.int))]=some (.ok (.v (.bl true)),ps)
theorem axx{K:Fg9}{f:Fd}(h:ak2 f)(H:Hp)(a:Addr)(ns:List Int)(hn:ns.length<=63)(hS:SqL K H a (ns.map V.int)):spOf K 1 f [.ref a] H (fun v _=>v=.bl true) fun _ _ _=>False:=by
 obtain⟨ps,e⟩:=h ns hn;refine⟨rfl,H,_,_,ps,⟨Same.refl H,rfl,fun i s o e1 e2 =>?_,fun i j b ⟨⟨t,l,e1⟩,_⟩ _=>by cases i <;> simp at e1⟩,e,fun v H' F' O' _ _ _ rr =>?_⟩
 ·cases i with
  | zero =>
   simp at e1 e2;subst e1 e2;exact⟨_,rfl,.kst hS (ac1 ns)⟩
  | succ i=>simp at e1
 ·have rr:Is K F' (.bl true) v:=rr;cases rr;rfl
theorem walk{l:PySem.W.OpenLaw}{q:Program}{loose:List Str}{XP:(Str->Option Value)->Heap->Prop}{YP:World->Heap->Prop}{d:DefRec}{K:Params->Fg9}{f:Fd}{k:Nat}(ht:ak2 f)(hn:l.most=some 63)(hdf:d.params.defaults=[])(hr:Room k callerA)
  (hY:∀(w:World) (h:Heap),YP w h->(K w.params).In h)
  (F:∀(w:World) (mg:Str->Option Value) (fa:Addr) (h:Heap),(K w.params).In h->h.Ns mainGlobals mg->mg d.name=some (.ref fa) ->
   ∃fd:FuncData,(∀(s:Shared) (u:Value),BindsTo s fd ⟨[u],[]⟩ [("script", u)])/\∀base:Heap,(K w.params).In base->base.Ns mainGlobals mg->FnOk l.prog w (K w.params) mg base CX0 k fa fd ["script"] (spOf (K w.params) 1 f)) :
  PySem.W.WalkO q loose XP YP l.row.toRowW d [] (fun f vs=>PySem.call f vs) :=
 L2.aun (n:=63) (k:=k) (x := "script") (CX:=fun _=>CX0) (sp:=fun w=>spOf (K w.params) 1 f) hn (by decide) hdf hr hY F (fun _ H a ns hl _ hS=>axx ht H a ns hl hS) fun _ _ _ _ _ z=>z
section
variable{α β:Type}(ρ:Ro)
@[simp] theorem a4x(a:α):ret a ρ=some (.ok a,ρ):=rfl
@[simp] theorem a3i(o:Option α):lift o ρ=match o with
 | some a=>some (.ok a,ρ)
 | none=>none:=rfl
@[simp] theorem a4n(m:M α)(k:α->M β):M.bind m k ρ=match m ρ with
 | some (.ok a,ρ1)=>k a ρ1
 | some (.exc x,ρ1)=>some (.exc x,ρ1)
 | none=>none:=rfl
@[simp] theorem v_ap(m:M D):M.v m ρ=(m.bind fun d=>ret (.v d)) ρ:=rfl
@[simp] theorem d_ap(m:M Rv):M.d m ρ=(m.bind fun r=>ret r.d) ρ:=rfl
@[simp] theorem a5m(d:D):(Rv.v d).d=d:=rfl
@[simp] theorem a4w(l:List D):(Rv.fr l).d=.lst l:=rfl
@[simp] theorem a4v(d:D)(l:List D):(Rv.tf d l).d=.tup [d,.lst l]:=rfl
@[simp] theorem a5l(d:D):(Rv.v d).sl=.val d:=rfl
@[simp] theorem a4u(l:List D):(Rv.fr l).sl=.own none l:=rfl
@[simp] theorem a2w(i:Nat):mVar i ρ=match ρ[i]? with
 | some (.val d)=>some (.ok d,ρ)
 | some (.own none l)=>some (.ok (.lst l),ρ.set i (.val (.lst l)))
 | _=>none:=rfl
@[simp] theorem a0y(i:Nat):di i ρ=match ρ[i]? with
 | some (.val d)=>some (.ok d,ρ)
 | some (.own _ l)=>some (.ok (.lst l),ρ)
 | _=>none:=rfl
@[simp] theorem a04(i:Nat):aow i ρ=match ρ[i]? with
 | some (.val d)=>some (.ok (.v d),ρ)
 | some (.own none l)=>some (.ok (.fr l),ρ.set i .emp)
 | _=>none:=rfl
@[simp] theorem a2y(i:Nat):mOwn i ρ=match ρ[i]? with
 | some (.own _ l)=>some (.ok l,ρ)
 | _=>none:=rfl
@[simp] theorem aza(i:Nat)(l':List D):aa2 i l' ρ=match ρ[i]? with
 | some (.own t _)=>some (.ok (),List.set ρ i (.own t l'))
 | _=>none:=rfl
@[simp] theorem a02(m1 m2:M D):gq m1 m2 ρ=(m1.bind fun x=>m2.bind fun y=>ret (x,y)) ρ:=rfl
@[simp] theorem azb(i:Nat)(m2:M D):cg i m2 ρ=((di i).bind fun _=>m2.bind fun y=>(di i).bind fun x=>ret (x,y)) ρ:=rfl
@[simp] theorem a5a(g:D->D->Option Rv)(m:M (D×D)):mOp g m ρ=(m.bind fun p=>lift (g p.1 p.2)) ρ:=rfl
@[simp] theorem a4z(g:D->Option D)(m:M D):mUn g m ρ=(m.bind fun d=>lift (g d)) ρ:=rfl
@[simp] theorem a3g(m1 m2:M D):mAnd m1 m2 ρ=(m1.bind fun d=>(lift (asB d)).bind fun k=>if k=true then m2 else ret (.bl false)) ρ:=rfl
@[simp] theorem a0z(m:M D):wu m ρ=(m.bind fun d=>lift (asB d)) ρ:=rfl
@[simp] theorem ay9(g:D->D->Option Rv)(m:M (D×D)):wz g m ρ=wu (mOp g m).d ρ:=rfl
@[simp] theorem a03(m:M Bool):yw m ρ=(m.bind fun k=>ret (!k)) ρ:=rfl
@[simp] theorem a1b(m1 m2:M Bool):ar5 m1 m2 ρ=(m1.bind fun k=>if k=true then m2 else ret false) ρ:=rfl
@[simp] theorem a2z(m1 m2:M Bool):mOrB m1 m2 ρ=(m1.bind fun k=>if k=true then ret true else m2) ρ:=rfl
@[simp] theorem a5c(c:Prop)[Decidable c](m1 m2:M α):(if c then m1 else m2) ρ=if c then m1 ρ else m2 ρ:=by split <;> rfl
@[simp] theorem a3n(c:Prop)[Decidable c](m1 m2:Sd):(if c then m1 else m2) ρ=if c then m1 ρ else m2 ρ:=by split <;> rfl
@[simp] theorem a5k(b:Bool):asB (.bl b)=some b:=rfl
@[simp] theorem a4r(b:Int):asI (.int b)=some b:=rfl
@[simp] theorem a3x(b:Bool):gNot (.bl b)=some (.bl (!b)):=rfl
@[simp] theorem a1d(b:Int):gNeg (.int b)=some (.int (-b)):=rfl
@[simp] theorem a1q(i j:Int):gAdd (.int i) (.int j)=some (.v (.int (i+j))):=rfl
@[simp] theorem a1o(l k:List D):gAdd (.tup l) (.tup k)=if l.length+k.length<=capS then some (.v (.tup (l++k))) else none:=rfl
@[simp] theorem a1p(l k:List D):gAdd (.lst l) (.lst k)=if l.length+k.length<=capS then some (.fr (l++k)) else none:=rfl
@[simp] theorem a1i(f:Int->Int->Option Int)(i j:Int):gInt f (.int i) (.int j)=(f i j).map fun k=>.v (.int k):=rfl
@[simp] theorem a4e(i j:Int):fSub i j=some (i - j):=rfl
@[simp] theorem a1g(i j:Int):gMul (.int i) (.int j)=(fMul i j).map fun k=>.v (.int k):=rfl
@[simp] theorem a1e(l:List D)(k:Int):gMul (.tup l) (.int k)=if k=1 then some (.v (.tup l)) else if l≠[]/\2<=k/\k < 9223372036854775808/\l.length*k.toNat<=capS then some (.v (.tup (List.replicate k.toNat l).flatten)) else none:=rfl
@[simp] theorem a1f(l:List D)(k:Int):gMul (.lst l) (.int k)=if k.natAbs < 9223372036854775808/\l.length*k.toNat<=capS then some (.fr (List.replicate k.toNat l).flatten) else none:=rfl
@[simp] theorem a1n(f:Int->Int->Bool)(i j:Int):gCmp f (.int i) (.int j)=some (.v (.bl (f i j))):=rfl
@[simp] theorem a3d(t:Ty)(m:M D):mIsi t m ρ=(m.bind fun d=>ret (.bl (isTy t d))) ρ:=rfl
@[simp] theorem azh(f g:Int->Int->Bool)(m1 m2 m3:M D):ai1 f g m1 m2 m3 ρ=(m1.bind fun x=>m2.bind fun y=>match x,y with
 | .int i,.int j=>if f i j=true then m3.bind fun z=>match z with
  | .int k=>ret (.bl (g j k))
  | _=>lift none
  else ret (.bl false)
 | _,_=>lift none) ρ:=rfl
@[simp] theorem a3a:mNil ρ=some (.ok [],ρ):=rfl
@[simp] theorem a08(m:M D)(ms:M (List D)):ak m ms ρ=(m.bind fun d=>ms.bind fun ds=>ret (d::ds)) ρ:=rfl
@[simp] theorem azg(i:Nat)(ms:M (List D)):iu i ms ρ=((di i).bind fun _=>ms.bind fun ds=>(di i).bind fun d=>ret (d::ds)) ρ:=rfl
@[simp] theorem a2x(m:M (List D)):mTup m ρ=(m.bind fun ds=>lift (gTup ds)) ρ:=rfl
@[simp] theorem a3c(m:M (List D)):mLst m ρ=(m.bind fun ds=>lift (gLst ds)) ρ:=rfl
@[simp] theorem a1a(g:List D->Option Rv)(m:M (List D)):gn g m ρ=(m.bind fun ds=>lift (g ds)) ρ:=rfl
@[simp] theorem a5f(f:D->Option Rv)(d:D):g1 f [d]=f d:=rfl
@[simp] theorem a5e(f:D->D->Option Rv)(d d':D):g2 f [d,d']=f d d':=rfl
@[simp] theorem azy(l:List D):itemsD (.tup l)=some l:=rfl
@[simp] theorem azz(l:List D):itemsD (.lst l)=some l:=rfl
@[simp] theorem az0(l:List D):itemsD (.kst l)=some l:=rfl
@[simp] theorem ac4(l:List D):gAll (.lst l)=(aai l).map fun bs=>.v (.bl (bs.all id)):=rfl
@[simp] theorem az8(i:Int):asp (.int i)=some (.v (.int i)):=rfl
@[simp] theorem a1j(i:Bool):asp (.bl i)=some (.v (.int (if i then 1 else 0))):=rfl
@[simp] theorem a3z(d:D)(k:Int):gIx d (.int k)=(itemsD d).bind fun l=>(atI l k).map fun x=>.v x:=rfl
@[simp] theorem a07(i:Nat)(ml mh:M (Option Int)):adt i ml mh ρ=((di i).bind fun _=>ml.bind fun lo=>mh.bind fun hi=>(di i).bind fun d=>lift (gCut d lo hi)) ρ:=rfl
@[simp] theorem a01(m:M D):acz m ρ=(m.bind fun d=>lift ((asI d).map some)) ρ:=rfl
@[simp] theorem a1k(l:List D)(lo hi:Option Int):gCut (.tup l) lo hi=some (.v (.tup (cutD l lo hi))):=rfl
@[simp] theorem a1l(l:List D)(lo hi:Option Int):gCut (.lst l) lo hi=some (.fr (cutD l lo hi)):=rfl
@[simp] theorem a1m(l:List D)(lo hi:Option Int):gCut (.kst l) lo hi=some (.fr (cutD l lo hi)):=rfl
@[simp] theorem azc(m:M D):qe m ρ=(m.bind fun d=>lift (itemsD d)) ρ:=rfl
@[simp] theorem a3f(g:α->Option β)(m:M α):mGet g m ρ=(m.bind fun ds=>lift (g ds)) ρ:=rfl
@[simp] theorem zg(j:Int):jq [.int j]=if j.natAbs < 4611686018427387904 then some (fc 0 j.toNat) else none:=rfl
@[simp] theorem awp(i j:Int):aht (.int i) (.int j)=if 0 < j/\j < 1000000000000000000000000000000000000000000000000000000000000 then some (.v (.tup [.int (i / j),.int (i % j)])) else none:=rfl
@[simp] theorem a3b(i:Nat)(g:List D->List D->Option (D×List D))(ms:M (List D)):mMut i g ms ρ=((mOwn i).bind fun _=>ms.bind fun ds=>(mOwn i).bind fun l=>(lift (g l ds)).bind fun r=>(aa2 i r.2).bind fun _=>ret r.1) ρ:=rfl
@[simp] theorem akr(l:List D)(d:D):acb l [d]=if l.length < capS then some (.non,l++[d]) else none:=rfl
@[simp] theorem a06:gm ρ=some (.ok [],ρ):=rfl
@[simp] theorem aze(m:M D)(ms:M (List (Option D))):bw m ms ρ=(m.bind fun d=>ms.bind fun ds=>ret (some d::ds)) ρ:=rfl
@[simp] theorem azd(j:Nat)(ms:M (List (Option D))):dh j ms ρ=((di j).bind fun _=>ms.bind fun ds=>ret (none::ds)) ρ:=rfl
@[simp] theorem a5b(f:Fd)(js:List (Option Nat))(ms:M (List (Option D))):mFn f js ms ρ=(ms.bind fun ds ρ=>if okJs ρ js=true then match f (lend ρ js ds) with
  | some (.ok r,ps)=>some (.ok r,putB ρ js ps)
  | some (.exc x,ps)=>some (.exc x,putB ρ js ps)
  | none=>none
 else none) ρ:=rfl
@[simp] theorem a09(src:List (Option Nat))(mi:M (List D))(b:D->Ro->Option Ro)(mc:M Bool)(me:M D):vm src mi b mc me ρ=(mi.bind fun l ρ=>if okJs ρ src=true then match compD b mc me l [] (lend ρ src (src.map fun _=>none)) with
  | some (.ok ys,ps)=>if ys.length<=capS then some (.ok (.fr ys),putB ρ src ps) else none
  | some (.exc x,ps)=>some (.exc x,putB ρ src ps)
  | none=>none
 else none) ρ:=rfl
@[simp] theorem a0x:okJs ρ []=true:=rfl
@[simp] theorem ay5(r:List (Option Nat)):okJs ρ (none::r)=okJs ρ r:=rfl
@[simp] theorem ay4(j:Nat)(r:List (Option Nat)):okJs ρ (some j::r)=((match ρ[j]? with
  | some (.own _ _) => !r.contains (some j)
  | _=>true)&&okJs ρ r):=rfl
@[simp] theorem lend_eq(js:List (Option Nat))(ds:List (Option D)):lend ρ js ds=(List.zip js ds).mapIdx fun i p=>ai3 ρ i p.1 p.2:=rfl
@[simp] theorem axi(i j:Nat)(d:Option D):ai3 ρ i (some j) d=match ρ[j]? with
  | some (.val d)=>.val d
  | some (.own _ l)=>.own (some i) l
  | _=>.emp:=rfl
@[simp] theorem a3j(i:Nat)(d:D):ai3 ρ i none (some d)=.val d:=rfl
@[simp] theorem a3k(i:Nat):ai3 ρ i none none=.emp:=rfl
@[simp] theorem a2l(js:List (Option Nat))(ps:Ro):putB ρ js ps=ρ.mapIdx fun j s=>putS js ps j s:=rfl
@[simp] theorem a2k(js:List (Option Nat))(ps:Ro)(j:Nat)(s:Sl):putS js ps j s=match js.findIdx? (fun o=>o==some j) with
 | none=>s
 | some i=>match s with
  | .own t _=>match ps[i]? with
   | some (.own (some i') l')=>if i'=i then .own t l' else .emp
   | _=>.emp
  | s=>s:=rfl
@[simp] theorem at9(nl np:Nat)(g:Sd):fnD nl np g ρ=match g (ρ++List.replicate (nl - np) .emp) with
 | some (.ret r,ρ)=>some (.ok r,ρ.take np)
 | some (.nx,ρ)=>some (.ok (.v .non),ρ.take np)
 | some (.exc x,ρ)=>some (.exc x,ρ.take np)
 | _=>none:=rfl
@[simp] theorem a5i:dNx ρ=some (.nx,ρ):=rfl
@[simp] theorem a4i(g k:Sd):dSeq g k ρ=match g ρ with
 | some (.nx,ρ1)=>k ρ1
 | r=>r:=rfl
@[simp] theorem aw3(m:M α)(k:α->Sd):dM m k ρ=match m ρ with
 | some (.ok x,ρ1)=>k x ρ1
 | some (.exc x,ρ1)=>some (.exc x,ρ1)
 | none=>none:=rfl
@[simp] theorem a4j(m:M Rv):dRet m ρ=dM m (fun r ρ=>some (.ret r,ρ)) ρ:=rfl
@[simp] theorem a5j(m:M Bool)(g k:Sd):dIf m g k ρ=dM m (fun z=>if z=true then g else k) ρ:=rfl
@[simp] theorem amc(m:M α):aei m ρ=dM m (fun _ ρ=>some (.nx,ρ)) ρ:=rfl
@[simp] theorem a4h(i:Nat)(m:M Rv):dSet i m ρ=dM m (fun r ρ=>some (.nx,List.set ρ i r.sl)) ρ:=rfl
@[simp] theorem a4m(m:M D)(b:D->Ro->Option Ro):dAsg m b ρ=dM m (fun d ρ=>(b d ρ).map fun ρ'=>(.nx,ρ')) ρ:=rfl
@[simp] theorem a4g(i:Nat)(mi m:M D):dSub i mi m ρ=(dM m fun d=>dM (mOwn i) fun _=>dM mi fun k=>dM (mOwn i) fun l=>dM (lift ((asI k).bind (ixN l.length))) fun j=>dM (aa2 i (l.set j d)) fun _=>dNx) ρ:=rfl
@[simp] theorem a4l(f:Int->Int->Int)(i:Nat)(m:M D):dAug f i m ρ=(dM (mVar i) fun x=>dM m fun y=>dM (lift ((asI x).bind fun n=>(asI y).map fun k=>D.int (f n k))) fun z ρ=>some (.nx,List.set ρ i (.val z))) ρ:=rfl
@[simp] theorem a4k(m:M (List D))(b:D->Ro->Option Ro)(g:Sd):dFor m b g ρ=dM m (forD b g) ρ:=rfl
@[simp] theorem xj(i:Nat)(d:D):bu i d ρ=some (List.set ρ i (.val d)):=rfl
@[simp] theorem a4q:bNil [] ρ=some ρ:=rfl
@[simp] theorem a1s(b:D->Ro->Option Ro)(bs:List D->Ro->Option Ro)(d:D)(r:List D):ji b bs (d::r) ρ=(b d ρ).bind (bs r):=rfl
@[simp] theorem a4p(n:Nat)(bs:List D->Ro->Option Ro)(l:List D):bTup n bs (.tup l) ρ=if l.length=n then bs l ρ else none:=rfl
end
section
variable(c:Prop)[Decidable c](b:Bool)(ρ:Ro)
@[simp] theorem a3m:(if c then some (Out.ok (D.bl b),ρ) else some (Out.ok (D.bl false),ρ))=some (.ok (.bl (decide c&&b)),ρ):=by by_cases h:c <;> simp[h]
end
@[simp] theorem fj{n:Nat}(h:n<=1000):n<=capS:=Nat.le_trans h (by decide)
theorem aw8:capS=16777216:=rfl
@[simp] theorem a3w(ds:List D):gTup ds=if ds.length<=capS then some (.tup ds) else none:=rfl
@[simp] theorem a3y(ds:List D):gLst ds=if ds.length<=capS then some (.fr ds) else none:=rfl
@[simp] theorem akx{α:Type}(l:List α)(f:α->Bool):aai (l.map fun d=>D.bl (f d))=some (l.map f):=by
 have:=yq (l.map f);rw[List.map_map] at this;exact this
def aeg(s:Sl):List D->Sl
 | []=>s
 | d::r=>aeg (.val d) r
theorem ud{me:M D}{rest:Ro}{f:D->D}:∀{l:List D} {ys:List D} {s:Sl},(∀d∈l,me (.val d::rest)=some (.ok (f d),.val d::rest))->compD (bu 0) (ret true) me l ys (s::rest)=some (.ok (ys++l.map f),aeg s l::rest)
 | [],ys,s,_=>by simp[compD,aeg]
 | d::r,ys,s,h=>by
  have h1:=h d (List.mem_cons_self ..);have ih:=ud (me:=me) (rest:=rest) (f:=f) (l:=r) (ys:=ys++[f d]) (s:=.val d) fun x hx=>h x (List.mem_cons_of_mem _ hx)
  simp[compD,h1,ih,aeg]
@[simp] theorem a1r(b:D->Ro->Option Ro)(g:Sd)(ρ:Ro):forD b g [] ρ=some (.nx,ρ):=rfl
theorem ju(b:D->Ro->Option Ro)(g:Sd)(d:D)(ds:List D)(ρ:Ro):forD b g (d::ds) ρ=match b d ρ with
  | none=>none
  | some ρ1=>match g ρ1 with
   | some (.nx,ρ2)=>forD b g ds ρ2
   | some (.cont,ρ2)=>forD b g ds ρ2
   | some (.brk,ρ2)=>some (.nx,ρ2)
   | some (.ret r,ρ2)=>some (.ret r,ρ2)
   | some (.exc x,ρ2)=>some (.exc x,ρ2)
   | none=>none:=rfl
@[simp] theorem a4d{α:Type}(p:α->Bool)(a:α)(l:List α):List.findIdx? p (a::l)=if p a=true then some 0 else (List.findIdx? p l).map (· + 1):=by
 rw[List.findIdx?_cons]
@[simp] theorem a5g{α:Type}(p:α->Bool):List.findIdx? p ([]:List α)=none:=rfl
theorem atd{l:List D}{k:Int}(h0:0<=k)(h1:k < (l.length:Int)):atI l k=some (l.getD k.toNat .non):=by
 have hk:k.toNat < l.length:=by omega
 have q:atI l ((k.toNat:Nat):Int)=some l[k.toNat]:=aft (List.getElem?_eq_getElem hk);rw[show((k.toNat:Nat):Int)=k by omega] at q
 rw[q];simp[List.getD,List.getElem?_eq_getElem hk]
theorem getD_mem{l:List D}{n:Nat}(h:n < l.length):l.getD n .non∈l:=by
 simp[List.getD,List.getElem?_eq_getElem h]
theorem apy(ns:List Int)(lo hi:Option Int):∃ms:List Int,cutD (ns.map D.int) lo hi=ms.map D.int/\ms.length<=ns.length:=by
 refine⟨(ns.drop (HT.sIx ns.length 0 lo)).take (HT.sIx ns.length ns.length hi - HT.sIx ns.length 0 lo),?_,?_⟩
 ·unfold cutD;rw[List.length_map,List.map_take,List.map_drop]
 ·rw[List.length_take,List.length_drop];omega
theorem al2{b:D->Ro->Option Ro}{g:Sd}(Inv:Nat->Ro->Prop):∀{l:List D} {ρ:Ro} (k:Nat),Inv k ρ->(∀i d ρ,l[i]? = some d->Inv (k+i) ρ->∃ρ1 ρ2,b d ρ=some ρ1/\(g ρ1=some (.nx,ρ2)∨g ρ1=some (.cont,ρ2))/\Inv (k+i+1) ρ2) ->
  ∃ρ',forD b g l ρ=some (.nx,ρ')/\Inv (k+l.length) ρ'
 | [],ρ,k,h0,_=>⟨ρ,rfl,h0⟩
 | d::r,ρ,k,h0,hs=>by
  obtain⟨ρ1,ρ2,e1,e2,h1⟩:=hs 0 d ρ rfl h0;obtain⟨ρ',e3,h3⟩:=al2 (b:=b) (g:=g) Inv (l:=r) (ρ:=ρ2) (k+1) h1 fun i x ρ hx hi=>by
   have:=hs (i+1) x ρ (by simpa using hx) ((show k+(i+1)=k+1+i by omega)▸hi)
   have e:k+(i+1)+1=k+1+i+1:=by omega
   rw[e] at this;exact this
  refine⟨ρ',?_,?_⟩
  ·rw[ju,e1];rcases e2 with e2 | e2 <;> simp only[e2] <;> exact e3
  ·have e:k+(d::r).length=k+1+r.length:=by simp;omega
   rw[e];exact h3
theorem abb{b:D->Ro->Option Ro}{mc:M Bool}{me:M D}(Inv:Nat->List D->Ro->Prop):∀{l:List D} {ys:List D} {ρ:Ro} (k:Nat),Inv k ys ρ ->
  (∀i d ys ρ,l[i]? = some d->Inv (k+i) ys ρ->∃ρ1 ρ2 z,b d ρ=some ρ1/\mc ρ1=some (.ok z,ρ2)/\((z=false/\Inv (k+i+1) ys ρ2)∨(z=true/\∃y ρ3,me ρ2=some (.ok y,ρ3)/\Inv (k+i+1) (ys++[y]) ρ3))) ->
  ∃ys' ρ',compD b mc me l ys ρ=some (.ok ys',ρ')/\Inv (k+l.length) ys' ρ'
 | [],ys,ρ,k,h0,_=>⟨ys,ρ,rfl,h0⟩
 | d::r,ys,ρ,k,h0,hs=>by
  obtain⟨ρ1,ρ2,z,e1,e2,h1⟩:=hs 0 d ys ρ rfl h0;have nxt:∀{ys':List D} {ρ':Ro},Inv (k+0+1) ys' ρ'->∃ys2 ρ2,compD b mc me r ys' ρ'=some (.ok ys2,ρ2)/\Inv (k+1+r.length) ys2 ρ2:=fun{ys' ρ'} hi =>
   abb (b:=b) (mc:=mc) (me:=me) Inv (l:=r) (ys:=ys') (ρ:=ρ') (k+1) hi fun i x ys ρ hx hi=>by
    have:=hs (i+1) x ys ρ (by simpa using hx) ((show k+(i+1)=k+1+i by omega)▸hi)
    have e:k+(i+1)+1=k+1+i+1:=by omega
    rw[e] at this;exact this
  have el:k+(d::r).length=k+1+r.length:=by simp;omega
  rw[el];rcases h1 with⟨rfl,h1⟩ | ⟨rfl,y,ρ3,e3,h1⟩
  ·obtain⟨ys2,ρ4,e4,h4⟩:=nxt h1;exact⟨ys2,ρ4,by simp[compD,e1,e2,e4],h4⟩
  ·obtain⟨ys2,ρ4,e4,h4⟩:=nxt h1;exact⟨ys2,ρ4,by simp[compD,e1,e2,e3,e4],h4⟩
@[simp] theorem a4a(neg:Bool)(a b:Int):gEq neg (.int a) (.int b)=some (.v (.bl (if neg then !(a==b) else (a==b)))):=rfl
@[simp] theorem a5d(neg:Bool)(a b:Bool):gEq neg (.bl a) (.bl b)=some (.v (.bl (if neg then !(a==b) else (a==b)))):=rfl
section
variable{K:Fg9}{X:Cx}{e a b c:Expr}{es:List Expr}{pos p p2:Pos}
def mj:List D->Option (List Int)
 | []=>some []
 | .int i::r=>(mj r).map (i :: ·)
 | _::_=>none
theorem za:∀{l:List D} {ns:List Int},mj l=some ns->l=ns.map D.int
 | [],_,h=>by cases h;rfl
 | .int b::r,bs,h=>by
  have h':(mj r).map (b :: ·)=some bs:=h;cases e:mj r with
  | none=>rw[e] at h';cases h'
  | some t =>
   rw[e] at h';cases h';rw[za e];rfl
 | .non::_,_,h=>by cases h
 | .bl _::_,_,h=>by cases h
 | .str _::_,_,h=>by cases h
 | .tup _::_,_,h=>by cases h
 | .lst _::_,_,h=>by cases h
 | .kst _::_,_,h=>by cases h
 | .dct _::_,_,h=>by cases h
@[simp] theorem aa3(ns:List Int):mj (ns.map D.int)=some ns:=by
 induction ns with
 | nil=>rfl
 | cons b r ih=>show(mj (r.map D.int)).map (b :: ·)=_;rw[ih];rfl
theorem au2{prog:Program}{w:World}{A:Around}{E:Value->Shared->Prop}{s:Shared}{l:Addr}{xs:Array (Int×Tok)}{Q:Value->Shared->Prop}(hh:A.handled=none)(ht:s.heap.IsTuple l (PySem.intItems xs))
  (h:∀h' tk t',(∀b o,s.heap.get? b=some o->h'.get? b=some o)->Q (.int (PySem.preSum (PySem.numAt xs) xs.size) t') { s with heap:=h',toks:=tk }):wpAny (model prog w) A (call (.builtin "sum") [.ref l]) Q E s:=by
 have hlt:l < s.heap.objs.size:=by obtain⟨_,e,_⟩:=ht;exact Heap.lt_size e
 refine PySem.call_sum_walkG (wpAny_pyIter_tuple ht ?_);refine⟨s.heap.objs.size,[s.heap.objs.size,l],[s.heap.objs.size],(PySem.intItems xs).size,_,_,PySem.numAt xs,rfl,Walks.tuple (A:=A.in1) hh _ l (Nat.ne_of_lt hlt) (PySem.intItems xs),⟨⟨_,Heap.get?_push_size _ rfl,rfl,rfl⟩,Heap.IsTuple.push ht _⟩,fun b hb =>?_,fun _ _ z=>PySem.intItems_at z,fun h' tk t' hk =>?_⟩
 ·have hb:b=s.heap.objs.size∨b=l:=by simpa using hb
  rw[Heap.size_push];rcases hb with rfl | rfl
  ·exact Nat.lt_succ_self _
  ·exact Nat.lt_succ_of_lt hlt
 ·have:=h h' tk t' fun b o e=>hk b o (fun z=>by rw[List.mem_singleton] at z;exact absurd (Heap.lt_size e) (by rw[z];exact Nat.lt_irrefl _)) (Heap.get?_push_of_some _ e)
  simpa[PySem.intItems] using this
def gSum:D->Option Rv
 | .lst l=>(mj l).map fun ns=>.v (.int ns.sum)
 | .tup l=>(mj l).map fun ns=>.v (.int ns.sum)
 | _=>none
theorem ap5(hc:X.calm=true):CallD K X (.builtin "sum") (g1 gSum):=uv fun hk jv s σ0 H x u Q tg F ρ σ d r I ru G bd eg q=>by
 subst hk;cases d with
 | lst l =>
  have eg:(mj l).map (fun ns=>Rv.v (.int ns.sum))=some r:=eg
  cases e:mj l with
  | none=>rw[e] at eg;cases eg
  | some ns =>
   rw[e] at eg;cases eg;obtain⟨a,vs,rfl,ea,hl⟩:=bd.lst G.sub;rw[za e] at hl;rw[hl.int_inv] at ea;cases ru;obtain⟨its,rv,pl,_⟩:=I.list (SqL.of ea);obtain⟨xs,hxs⟩:∃xs:Array (Int×Tok),its.toArray=PySem.intItems xs:=(PyProof.Rows.IntsAre.allInts (intsAre_of rv)).items
   have hl':=pl.isList;rw[hxs] at hl';refine PySem.sum_intListG (I.ok.hd hc) hl' fun h' tk t' hk=>⟨.int ns.sum,H,I.kept hk,⟨t',?_⟩,Res.same G q (.int _)⟩
   have h1:numsOf its=ns:=(intsAre_of rv).numsOf;have h2:=PySem.nums_intItems xs;rw[<-hxs] at h2;have h3:xs.toList.map (·.1)=ns:=by
    rw[<-h2];exact h1
   rw[PySem.preSum_eq,List.take_of_length_le (by simp),h3]
 | tup l =>
  have eg:(mj l).map (fun ns=>Rv.v (.int ns.sum))=some r:=eg
  cases e:mj l with
  | none=>rw[e] at eg;cases eg
  | some ns =>
   rw[e] at eg;cases eg;obtain⟨a,vs,rfl,ea,hl⟩:=bd.tup;rw[za e] at hl;rw[hl.int_inv] at ea;cases ru;obtain⟨its,rv,pl,_⟩:=I.tuple (SqT.of (G.sub _ _ ea));obtain⟨xs,hxs⟩:∃xs:Array (Int×Tok),its.toArray=PySem.intItems xs:=(PyProof.Rows.IntsAre.allInts (intsAre_of rv)).items
   have hl':s.heap.IsTuple a its.toArray:=pl;rw[hxs] at hl';refine au2 (I.ok.hd hc) hl' fun h' tk t' hk=>⟨.int ns.sum,H,I.kept hk,⟨t',?_⟩,Res.same G q (.int _)⟩
   have h1:numsOf its=ns:=(intsAre_of rv).numsOf;have h2:=PySem.nums_intItems xs;rw[<-hxs] at h2;have h3:xs.toList.map (·.1)=ns:=by
    rw[<-h2];exact h1
   rw[PySem.preSum_eq,List.take_of_length_le (by simp),h3]
 | _=>cases eg
def insI(x:Int):List Int->List Int
 | []=>[x]
 | y::r=>if x<=y then x::y::r else y::insI x r
def sortI:List Int->List Int
 | []=>[]
 | x::r=>insI x (sortI r)
theorem insI_perm(x:Int):∀l:List Int,(insI x l).Perm (x::l)
 | []=>.refl _
 | y::r=>by
  unfold insI;split
  ·exact .refl _
  ·exact((insI_perm x r).cons y).trans (.swap x y r)
theorem sortI_perm:∀l:List Int,(sortI l).Perm l
 | []=>.refl _
 | x::r=>(insI_perm x (sortI r)).trans ((sortI_perm r).cons x)
theorem afd(x:Int):∀{l:List Int},l.Pairwise (· <= ·)->(insI x l).Pairwise (· <= ·)
 | [],_=>by simp[insI]
 | y::r,h=>by
  unfold insI;rw[List.pairwise_cons] at h;split
  ·rename_i hxy;rw[List.pairwise_cons,List.pairwise_cons];refine⟨fun z hz =>?_,h⟩
   rcases List.mem_cons.mp hz with rfl | hz
   ·exact hxy
   ·exact Int.le_trans hxy (h.1 z hz)
  ·rename_i hxy;rw[List.pairwise_cons];refine⟨fun z hz =>?_,afd x h.2⟩
   rcases List.mem_cons.mp ((insI_perm x r).mem_iff.mp hz) with rfl | hz
   ·omega
   ·exact h.1 z hz
theorem aam:∀l:List Int,(sortI l).Pairwise (· <= ·)
 | []=>.nil
 | x::r=>afd x (aam r)
theorem af1:∀{l k:List Int},l.Perm k->l.Pairwise (· <= ·)->k.Pairwise (· <= ·)->l=k
 | [],k,h,_,_=>h.nil_eq
 | x::r,[],h,_,_=>absurd h.length_eq (by simp)
 | x::r,y::t,h,hl,hk=>by
  rw[List.pairwise_cons] at hl hk;have e:x=y:=by
   have h1:x∈y::t:=h.mem_iff.mp (List.mem_cons_self ..);have h2:y∈x::r:=h.mem_iff.mpr (List.mem_cons_self ..);rcases List.mem_cons.mp h1 with h1 | h1
   ·exact h1
   ·rcases List.mem_cons.mp h2 with h2 | h2
    ·exact h2.symm
    ·have a:=hk.1 x h1;have b:=hl.1 y h2;omega
  subst e;rw[af1 ((List.perm_cons x).mp h) hl.2 hk.2]
theorem ala{l k:List Int}(h:l.Perm k)(hs:l.Pairwise (· <= ·)):l=sortI k:=af1 (h.trans (sortI_perm k).symm) hs (aam k)
theorem aal:∀{ns:List Int} {us:List Value},IntsAre us ns->Vals (ns.map V.int) us
 | _,_,.nil=>.nil
 | _,_,.cons n t h=>.cons ⟨t,rfl⟩ (aal h)
def ahs:D->Option Rv
 | .lst l=>(mj l).bind fun ns=>if ns.length < 64 then some (.fr ((sortI ns).map D.int)) else none
 | _=>none
theorem ap6:CallD K X (.builtin "sorted") (g1 ahs):=uv fun hk jv s σ0 H x u Q tg F ρ σ d r I ru G bd eg q=>by
 subst hk;cases d with
 | lst l =>
  have eg:(mj l).bind (fun ns=>if ns.length < 64 then some (Rv.fr ((sortI ns).map D.int)) else none)=some r:=eg
  cases e:mj l with
  | none=>rw[e] at eg;cases eg
  | some ns =>
   rw[e] at eg;have eg:(if ns.length < 64 then some (Rv.fr ((sortI ns).map D.int)) else none)=some r:=eg
   split at eg
   ·rename_i h64;cases eg;obtain⟨a,vs,rfl,ea,hl⟩:=bd.lst G.sub;rw[za e] at hl;rw[hl.int_inv] at ea;cases ru;obtain⟨its,rv,pl,_⟩:=I.list (SqL.of ea);have hlen:=rv.length;rw[List.length_map] at hlen;refine PyProof.Rows.sorted_ints pl.isList (intsAre_of rv) (by omega) fun out ns' i1 hp hs =>?_
    have e':=ala hp hs;subst e';obtain⟨ep,eo⟩:=PyProof.Rows.sortedAll_at s.heap its out;have hn:H (s.heap.objs.size+1)=none:=I.hok.fresh (Nat.le_succ _);refine⟨.ref (s.heap.objs.size+1),upd H (s.heap.objs.size+1) (.lst ((sortI ns).map V.int)),?_,rfl,Res.lst G q (ac1 _) hn⟩;refine I.laid (t':=s.toks) (fun b u e=>PyProof.Rows.sortedAll_old e) (Nat.le_succ _) ?_
    refine⟨?_,out.toList,ep,aal i1,by simpa using eo⟩
    rw[List.length_map,(sortI_perm ns).length_eq];exact Nat.le_of_lt (aan (by omega))
   ·cases eg
 | _=>cases eg
end
section
variable{K:Fg9}{X:Cx}{e a b c:Expr}{es:List Expr}{pos p p2:Pos}
def ada(lt:Int->Int->Bool):List Int->Int
 | []=>0
 | x::r=>r.foldl (fun m y=>if lt y m=true then y else m) x
theorem aqi(lt:Int->Int->Bool)(ns:List Int):∀k,k < ns.length->argBest (fun i j=>lt (ns.getD i 0) (ns.getD j 0)) k<=k/\ns.getD (argBest (fun i j=>lt (ns.getD i 0) (ns.getD j 0)) k) 0=ada lt (ns.take (k+1))
 | 0,h=>by
  cases ns with
  | nil=>simp at h
  | cons x r=>exact⟨Nat.le_refl _,rfl⟩
 | k+1,h=>by
  obtain⟨h1,h2⟩:=aqi lt ns k (by omega)
  have ht:ns.take (k+1+1)=ns.take (k+1)++[ns.getD (k+1) 0]:=by
   rw[List.take_add_one,List.getElem?_eq_getElem h];simp[List.getD,List.getElem?_eq_getElem h]
  have hb:ada lt (ns.take (k+1+1))=if lt (ns.getD (k+1) 0) (ada lt (ns.take (k+1)))=true then ns.getD (k+1) 0 else ada lt (ns.take (k+1)):=by
   rw[ht];cases ns with
   | nil=>simp at h
   | cons x r=>simp[ada,List.foldl_append]
  have ha:argBest (fun i j=>lt (ns.getD i 0) (ns.getD j 0)) (k+1)=if lt (ns.getD (k+1) 0) (ns.getD (argBest (fun i j=>lt (ns.getD i 0) (ns.getD j 0)) k) 0)=true then k+1 else argBest (fun i j=>lt (ns.getD i 0) (ns.getD j 0)) k:=rfl
  rw[hb,<-h2,ha]
  by_cases hc:lt (ns.getD (k+1) 0) (ns.getD (argBest (fun i j=>lt (ns.getD i 0) (ns.getD j 0)) k) 0)=true
  ·rw[if_pos hc,if_pos hc];exact⟨Nat.le_refl _,rfl⟩
  ·rw[if_neg hc,if_neg hc];exact⟨by omega,rfl⟩
theorem ata(lt:Int->Int->Bool)(ns:List Int)(h:ns≠[]):argBest (fun i j=>lt (ns.getD i 0) (ns.getD j 0)) (ns.length - 1) < ns.length/\ns.getD (argBest (fun i j=>lt (ns.getD i 0) (ns.getD j 0)) (ns.length - 1)) 0=ada lt ns:=by
 have hl:0 < ns.length:=List.length_pos_iff.mpr h;obtain⟨h1,h2⟩:=aqi lt ns (ns.length - 1) (by omega)
 refine⟨by omega,?_⟩
 rw[h2,show ns.length - 1+1=ns.length by omega,List.take_length]
def a0a(lt:Int->Int->Bool):D->Option Rv
 | .lst l=>(mj l).bind fun ns=>if ns=[] then none else some (.v (.int (ada lt ns)))
 | .tup l=>(mj l).bind fun ns=>if ns=[] then none else some (.v (.int (ada lt ns)))
 | _=>none
theorem akq{lt:Int->Int->Bool}{d:D}{r:Rv}(h:a0a lt d=some r):∃ns:List Int,ns≠[]/\r=.v (.int (ada lt ns))/\(d=.lst (ns.map D.int)∨d=.tup (ns.map D.int)):=by
 have go:∀l,(mj l).bind (fun ns=>if ns=[] then none else some (Rv.v (.int (ada lt ns))))=some r->∃ns:List Int,ns≠[]/\r=.v (.int (ada lt ns))/\l=ns.map D.int:=fun l h=>by
  cases e:mj l with
  | none=>rw[e] at h;cases h
  | some ns =>
   rw[e] at h;have h:(if ns=[] then none else some (Rv.v (.int (ada lt ns))))=some r:=h
   split at h
   ·cases h
   ·rename_i hn;cases h;exact⟨ns,hn,rfl,za e⟩
 cases d with
 | lst l=>obtain⟨ns,h1,h2,rfl⟩:=go l h;exact⟨ns,h1,h2,.inl rfl⟩
 | tup l=>obtain⟨ns,h1,h2,rfl⟩:=go l h;exact⟨ns,h1,h2,.inr rfl⟩
 | _=>cases h
theorem afb{ns:List Int}{its:List Value}(rv:Vals (ns.map V.int) its)(i:Nat)(v:Value)(h:its.toArray[i]? = some v):∃t,v=.int (ns.getD i 0) t:=by
 have h:its[i]? = some v:=by simpa using h
 have hi:i < its.length:=(List.getElem?_eq_some_iff.mp h).1;have hl:=rv.length;rw[List.length_map] at hl;have hi':i < ns.length:=by omega
 obtain⟨u,hu,t,rfl⟩:=rv.get (i:=i) (x:=V.int ns[i]) (by rw[List.getElem?_map,List.getElem?_eq_getElem hi'];rfl)
 rw[h] at hu;cases hu;exact⟨t,by simp[List.getD,List.getElem?_eq_getElem hi']⟩
def awm:D->Option Rv:=a0a fun i j=>decide (i < j)
theorem aw5(hc:X.calm=true):CallD K X (.builtin "min") (g1 awm):=uv fun hk jv s σ0 H x u Q tg F ρ σ d r I ru G bd eg q=>by
 subst hk;obtain⟨ns,hn,rfl,hd⟩:=akq eg;have q':=Res.same G q (.int _);obtain⟨hb1,hb2⟩:=ata (fun i j=>decide (i < j)) ns hn
 have fin:∀{its:List Value} (rv:Vals (ns.map V.int) its) {v:Value} {h':Heap} {tk:Nat},its.toArray[argBest (fun i j=>decide (ns.getD i 0 < ns.getD j 0)) (its.toArray.size - 1)]? = some v->(∀b o,s.heap.get? b=some o->h'.get? b=some o)->EP X jv σ0 Q v { s with heap:=h',toks:=tk }:=fun{its} rv {v h' tk} hv hk=>by
  have hl:=rv.length;rw[List.length_map] at hl;rw[List.size_toArray,<-hl] at hv;obtain⟨t,rfl⟩:=afb rv _ v hv;exact⟨.int (ada (fun i j=>decide (i < j)) ns),H,I.kept hk,⟨t,by rw[hb2]⟩,q'⟩
 rcases hd with rfl | rfl
 ·obtain⟨a,vs,rfl,ea,hl⟩:=bd.lst G.sub;rw[hl.int_inv] at ea;cases ru;obtain⟨its,rv,pl,_⟩:=I.list (SqL.of ea);have hl':=pl.isList;have hlt:a < s.heap.objs.size:=by obtain⟨_,e,_⟩:=hl';exact Heap.lt_size e
  have hlen:=rv.length;rw[List.length_map] at hlen;refine call_min_walk (wpAny_pyIter_list hl' ⟨s.heap.objs.size,[s.heap.objs.size,a],[s.heap.objs.size],its.toArray.size,_,_,_,rfl,Walks.list (A:=X.A.in1) (I.ok.hd hc) _ a (Nat.ne_of_lt hlt) its.toArray,
   ⟨⟨_,Heap.get?_push_size _ rfl,rfl,rfl⟩,hl'.push _⟩,fun b hb =>?_,?_,CmpOf.ints_lt (fun i=>ns.getD i 0) (fun i v=>afb rv i v),fun v h' tk hP hk=>fin rv hP (LSm.kept_iter hk)⟩)
  ·have hs:∀o:Obj,(s.heap.push o).objs.size=s.heap.objs.size+1:=fun o=>Heap.size_push ..
   show b < (s.heap.push _).objs.size;rw[hs];rcases List.mem_cons.mp hb with hb | hb
   ·exact hb▸Nat.lt_succ_self _
   ·have hb:b=a:=by simpa using hb
    exact hb▸Nat.lt_succ_of_lt hlt
  ·rw[List.size_toArray,<-hlen];exact List.length_pos_iff.mpr hn
 ·obtain⟨a,vs,rfl,ea,hl⟩:=bd.tup;rw[hl.int_inv] at ea;cases ru;obtain⟨its,rv,pl,_⟩:=I.tuple (SqT.of (G.sub _ _ ea));have hlt:a < s.heap.objs.size:=by obtain⟨_,e,_⟩:=pl;exact Heap.lt_size e
  have hlen:=rv.length;rw[List.length_map] at hlen;refine call_min_walk (wpAny_pyIter_tuple pl ⟨s.heap.objs.size,[s.heap.objs.size,a],[s.heap.objs.size],its.toArray.size,_,_,_,rfl,Walks.tuple (A:=X.A.in1) (I.ok.hd hc) _ a (Nat.ne_of_lt hlt) its.toArray,
   ⟨⟨_,Heap.get?_push_size _ rfl,rfl,rfl⟩,pl.push _⟩,fun b hb =>?_,?_,CmpOf.ints_lt (fun i=>ns.getD i 0) (fun i v=>afb rv i v),fun v h' tk hP hk=>fin rv hP (LSm.kept_iter hk)⟩)
  ·have hs:∀o:Obj,(s.heap.push o).objs.size=s.heap.objs.size+1:=fun o=>Heap.size_push ..
   show b < (s.heap.push _).objs.size;rw[hs];rcases List.mem_cons.mp hb with hb | hb
   ·exact hb▸Nat.lt_succ_self _
   ·have hb:b=a:=by simpa using hb
    exact hb▸Nat.lt_succ_of_lt hlt
  ·rw[List.size_toArray,<-hlen];exact List.length_pos_iff.mpr hn
end
section
variable{K:Fg9}{X:Cx}{e a b c:Expr}{es:List Expr}{pos p p2:Pos}
def rmOf(K:Fg9)(g:D->List D->Option D):V->List V->Hp->VK->Prop:=fun x vs H Q=>∃F d ds r,Same F H/\Bor K F H d x/\IsL K F ds vs/\g d ds=some r/\∀v,Is K F r v->Q v H
def awb(i:Nat)(g:D->List D->Option D)(ms:M (List D)):M D:=(di i).bind fun d0=>(lift (match d0 with
 | .lst _=>some ()
 | _=>none)).bind fun _=>ms.bind fun ds=>(di i).bind fun d=>lift (g d ds)
theorem awx{i:Nat}{name:Str}{id:String}{g:D->List D->Option D}{ms:M (List D)}{apos cpos:Pos}(slot:Slot "list" name id)(hty:typeOf (.builtin id)=pure (.type "method_descriptor"))(hm:X.K=K->MtR X id (rmOf K g))(ho:PE X a (tVar i))(ha:ED K X (e::es) ms)
  (hbase:attributeBase a name X.env (eval a X.env)=eval a X.env:=by rfl)
  (hfew:((backTo cpos (starEach (e::es) X.env)).all (fun x => !x.1)&&(backToKw cpos (keywordEach [] X.env)).all (fun x=>x.1.isSome)
   && decide ((e::es).length+([]:List Keyword).length+(if ([]:List Keyword).isEmpty then 0 else 1) < 30))=true:=by rfl)
  (hline:(apos.endLine==cpos.line)=true:=by rfl) (hs:starEach (e::es) X.env=(false,eval e X.env)::starEach es X.env:=by rfl) (hplain:(backTo cpos (starEach es X.env)).any (·.1)=false:=by rfl) :
  EV K X (.Call (.Attribute a name apos) (e::es) [] cpos) (awb i g ms):=EV.mk fun hk=>PE.imp (aol PySem.F.plainAttrs_list slot hty (hm hk) ho (ha hk) hbase hfew hline hs hplain) fun σ H Q z9=>by
 obtain⟨tg,F,ρ,d,ρ',G,em,q⟩:=z9;obtain⟨d0,ρ0,e0,em1⟩:=aq em;obtain⟨u0,ρ9,e9,em2⟩:=aq em1;obtain⟨ds,ρ1,e1,em3⟩:=aq em2;obtain⟨d1,ρ2,e2,em4⟩:=aq em3;obtain⟨e3,rfl⟩:=gk em4;obtain⟨e9,rfl⟩:=gk e9;obtain⟨rfl,v,hv,bv⟩:=qb G e0;have ty:∃b,v=.ref b/\∃xs,SqL X.K H b xs:=by
  cases d0 with
  | lst l =>
   obtain⟨b,xs,rfl,hb,_⟩:=bv.lst G.sub;exact⟨b,rfl,xs,SqL.of hb⟩
  | _=>cases e9
 obtain⟨b,rfl,hty'⟩:=ty;refine⟨_,hv,.inl ⟨rfl,hty'⟩,tg,F,_,ds,ρ1,G,e1,fun vs H1 F1 G1 x1 r1 =>?_⟩
 obtain⟨rfl,v',hv',b'⟩:=qb G1 e2;rw[hv] at hv';cases hv';exact⟨F1,d1,ds,d,G1.sub,b',r1,e3,fun w iw=>q w H1 F1 G1 x1 iw⟩
def apj(d:D)(ds:List D):Option D:=match d,ds with
 | .lst l,[x]=>if okD 30 x&&l.all (okD 30) then some (.int (l.countP fun y=>eqD y x)) else none
 | _,_=>none
theorem aba{jv:List (Addr×Obj)}{σ:L2.St}{F H:Hp}{s:Shared}(I:Inv X jv σ H s)(g:Same F H){a:D}{n:Nat}:∀{ds:List D} {vs:List V} {us:List Value},IsL X.K F ds vs->ds.all (okD n)=true->Vals vs us ->
  us.countP (acd s.heap (toPy a))=ds.countP (fun y=>eqD y a)
 | _,_,_,.nil,_,r=>by cases r;rfl
 | _,_,_,.cons h t,k,r=>by
  rw[List.all_cons,Bool.and_eq_true] at k;cases r with
  | cons r1 r2 =>
   obtain⟨as,ra⟩:=ww I g h k.1 r1;obtain⟨c,p⟩:=aa0 _ _ k.1;rw[List.countP_cons,List.countP_cons,aba I g t k.2 r2,aek ra c];rfl
theorem arz(hu:X.A.units+64 < cLine):X.K=K->MtR X "list.count" (rmOf K apj):=fun hk=>by
 subst hk;intro jv s σ H x vs v us Q I rx rv z9;obtain⟨F,d,ds,r,g,bd,il,eg,q⟩:=z9
 match d,ds,eg with
 | .lst l,[y],eg =>
  have eg:(if okD 30 y&&l.all (okD 30) then some (D.int (l.countP fun z=>eqD z y)) else none)=some r:=eg
  split at eg
  ·rename_i ho;rw[Bool.and_eq_true] at ho;cases eg;cases il with
   | cons hy t =>
    cases t;obtain⟨u,rfl,ru⟩:=rv.one;obtain⟨p,ws,rfl,ea,hl⟩:=bd.lst g;cases rx;obtain⟨its,rw',pl,_⟩:=I.list (SqL.of ea);obtain⟨as,ra⟩:=ww I g hy ho.1 ru;obtain⟨_,z⟩:=yr I g (a:=y) hl ho.2 rw';obtain⟨⟨cls,dd,data,sl⟩,h1,hc,n,hd⟩:=pl.isList;simp only at hc hd;subst hc hd;refine call_meets PySem.F.slot_list_count ⟨_,h1,rfl⟩ PySem.F.entry_list_count (PySem.F.args_list_count_2 _ _) (SeqAt.list_countAt p its.toArray n dd sl u (acd s.heap (toPy y))) ⟨h1,fun w hw =>?_,?_⟩
    ·exact yp (A:=X.A) hu ra ho.1 z w (by simpa using hw)
    ·refine⟨.int (l.countP fun z=>eqD z y),H,I.tok _,⟨s.toks,?_⟩,q _ (.int _)⟩
     rw[aba I g (a:=y) hl ho.2 rw']
  ·cases eg
def ahu(d:D)(ds:List D):Option D:=match d,ds with
 | .tup l,[x]=>if okD 30 x&&l.all (okD 30) then some (.int (l.countP fun y=>eqD y x)) else none
 | _,_=>none
theorem aov(hu:X.A.units+64 < cLine):X.K=K->MtR X "tuple.count" (rmOf K ahu):=fun hk=>by
 subst hk;intro jv s σ H x vs v us Q I rx rv z9;obtain⟨F,d,ds,r,g,bd,il,eg,q⟩:=z9
 match d,ds,eg with
 | .tup l,[y],eg =>
  have eg:(if okD 30 y&&l.all (okD 30) then some (D.int (l.countP fun z=>eqD z y)) else none)=some r:=eg
  split at eg
  ·rename_i ho;rw[Bool.and_eq_true] at ho;cases eg;cases il with
   | cons hy t =>
    cases t;obtain⟨u,rfl,ru⟩:=rv.one;obtain⟨p,ws,rfl,ea,hl⟩:=bd.tup;cases rx;obtain⟨its,rw',pl,_⟩:=I.tuple (SqT.of (g _ _ ea));obtain⟨as,ra⟩:=ww I g hy ho.1 ru;obtain⟨_,z⟩:=yr I g (a:=y) hl ho.2 rw';obtain⟨⟨cls,dd,data,sl⟩,h1,hc,n,hd⟩:=pl;simp only at hc hd;subst hc hd;refine call_meets PySem.F.slot_tuple_count ⟨_,h1,rfl⟩ PySem.F.entry_tuple_count (PySem.F.args_tuple_count_2 _ _) (SeqAt.tuple_countAt p its.toArray n dd sl u (acd s.heap (toPy y))) ⟨h1,fun w hw =>?_,?_⟩
    ·exact yp (A:=X.A) hu ra ho.1 z w (by simpa using hw)
    ·refine⟨.int (l.countP fun z=>eqD z y),H,I.tok _,⟨s.toks,?_⟩,q _ (.int _)⟩
     rw[aba I g (a:=y) hl ho.2 rw']
  ·cases eg
theorem PE.or{t1 t2:TE}(h1:PE X e t1)(h2:PE X e t2):PE X e fun σ H Q=>t1 σ H Q∨t2 σ H Q:=fun jv s σ H Q I h=>h.elim (h1 jv s σ H Q I) (h2 jv s σ H Q I)
def afk(d:D)(ds:List D):Option D:=match d with
 | .lst _=>apj d ds
 | .tup _=>ahu d ds
 | _=>none
def af8(i:Nat)(ms:M (List D)):M D:=(di i).bind fun d0=>ms.bind fun ds=>(di i).bind fun d=>(lift (match d0,d with
 | .lst _,.lst _=>some ()
 | .tup _,.tup _=>some ()
 | _,_=>none)).bind fun _=>lift (afk d ds)
theorem as3{d0 d:D}{u:Unit} (h:(match d0,d with
 | .lst _,.lst _=>some ()
 | .tup _,.tup _=>some ()
 | _,_=>none)=some u):(∃l l1,d0=.lst l/\d=.lst l1)∨∃l l1,d0=.tup l/\d=.tup l1:=by
 split at h
 ·exact .inl ⟨_,_,rfl,rfl⟩
 ·exact .inr ⟨_,_,rfl,rfl⟩
 ·cases h
theorem al8{i:Nat}{ms:M (List D)}{apos cpos:Pos}(hu:X.A.units+64 < cLine)(ho:PE X a (tVar i))(ha:ED K X (e::es) ms)
  (hbase:attributeBase a "count" X.env (eval a X.env)=eval a X.env:=by rfl)
  (hfew:((backTo cpos (starEach (e::es) X.env)).all (fun x => !x.1)&&(backToKw cpos (keywordEach [] X.env)).all (fun x=>x.1.isSome)
   && decide ((e::es).length+([]:List Keyword).length+(if ([]:List Keyword).isEmpty then 0 else 1) < 30))=true:=by rfl)
  (hline:(apos.endLine==cpos.line)=true:=by rfl) (hs:starEach (e::es) X.env=(false,eval e X.env)::starEach es X.env:=by rfl) (hplain:(backTo cpos (starEach es X.env)).any (·.1)=false:=by rfl) :
  EV K X (.Call (.Attribute a "count" apos) (e::es) [] cpos) (af8 i ms):=EV.mk fun hk=>PE.imp (PE.or (aol PySem.F.plainAttrs_list PySem.F.slot_list_count PySem.F.type_list_count (arz hu hk) ho (ha hk) hbase hfew hline hs hplain) (aol PySem.F.plainAttrs_tuple PySem.F.slot_tuple_count PySem.F.type_tuple_count (aov hu hk) ho (ha hk) hbase hfew hline hs hplain)) fun σ H Q z9=>by
 obtain⟨tg,F,ρ,d,ρ',G,em,q⟩:=z9;obtain⟨d0,ρ0,e0,em1⟩:=aq em;obtain⟨ds,ρ1,e1,em3⟩:=aq em1;obtain⟨d1,ρ2,e2,em4⟩:=aq em3;obtain⟨u0,ρ9,e9,em5⟩:=aq em4;obtain⟨e3,rfl⟩:=gk em5;obtain⟨g9,rfl⟩:=gk e9;obtain⟨rfl,v,hv,bv⟩:=qb G e0;rcases as3 g9 with⟨l,l1,rfl,rfl⟩ | ⟨l,l1,rfl,rfl⟩
 ·obtain⟨b,xs,rfl,hb,_⟩:=bv.lst G.sub;refine .inl ⟨_,hv,.inl ⟨rfl,xs,SqL.of hb⟩,tg,F,_,ds,ρ1,G,e1,fun vs H1 F1 G1 x1 r1 =>?_⟩
  obtain⟨rfl,v',hv',b'⟩:=qb G1 e2;rw[hv] at hv';cases hv';exact⟨F1,.lst l1,ds,d,G1.sub,b',r1,e3,fun w iw=>q w H1 F1 G1 x1 iw⟩
 ·obtain⟨b,xs,rfl,hb,_⟩:=bv.tup;refine .inr ⟨_,hv,.inr (.inl ⟨rfl,.inr ⟨xs,G.sub _ _ hb⟩⟩),tg,F,_,ds,ρ1,G,e1,fun vs H1 F1 G1 x1 r1 =>?_⟩
  obtain⟨rfl,v',hv',b'⟩:=qb G1 e2;rw[hv] at hv';cases hv';exact⟨F1,.tup l1,ds,d,G1.sub,b',r1,e3,fun w iw=>q w H1 F1 G1 x1 iw⟩
def aph(d:D)(ds:List D):Option D:=match d,ds with
 | .lst l,[x]=>if okD 30 x&&l.all (okD 30) then (l.findIdx? fun y=>eqD y x).map fun i=>.int i else none
 | _,_=>none
theorem ami{jv:List (Addr×Obj)}{σ:L2.St}{F H:Hp}{s:Shared}(I:Inv X jv σ H s)(g:Same F H){a:D}{n:Nat}{ds:List D}{vs:List V}{us:List Value}(il:IsL X.K F ds vs)(k:ds.all (okD n)=true)(rv:Vals vs us)(i:Nat)(hi:i < us.length)(hd:i < ds.length) :
  acd s.heap (toPy a) us[i]=eqD ds[i] a:=by
 obtain⟨v,hv,iv⟩:=il.get (i:=i) (List.getElem?_eq_getElem hd);obtain⟨u,hu,ru⟩:=rv.get hv;rw[List.getElem?_eq_getElem hi] at hu;cases hu;have ko:okD n ds[i]=true:=List.all_eq_true.mp k _ (List.getElem_mem hd);obtain⟨as,ra⟩:=ww I g iv ko ru;rw[aek ra (aa0 _ _ ko).1];rfl
theorem arx(hu:X.A.units+64 < cLine):X.K=K->MtR X "list.index" (rmOf K aph):=fun hk=>by
 subst hk;intro jv s σ H x vs v us Q I rx rv z9;obtain⟨F,d,ds,r,g,bd,il,eg,q⟩:=z9
 match d,ds,eg with
 | .lst l,[y],eg =>
  have eg:(if okD 30 y&&l.all (okD 30) then (l.findIdx? fun z=>eqD z y).map (fun i=>D.int i) else none)=some r:=eg
  split at eg
  ·rename_i ho;rw[Bool.and_eq_true] at ho;cases ei:l.findIdx? (fun z=>eqD z y) with
   | none=>rw[ei] at eg;cases eg
   | some j =>
    rw[ei] at eg;cases eg;obtain⟨hj,hhit,hno⟩:=List.findIdx?_eq_some_iff_getElem.mp ei;cases il with
    | cons hy t =>
     cases t;obtain⟨u,rfl,ru⟩:=rv.one;obtain⟨p,ws,rfl,ea,hl⟩:=bd.lst g;cases rx;obtain⟨its,rw',pl,hz⟩:=I.list (SqL.of ea);have l1:=hl.length;have l2:=rw'.length;rw[sizeLine_eq] at hz;obtain⟨as,ra⟩:=ww I g hy ho.1 ru;obtain⟨_,z⟩:=yr I g (a:=y) hl ho.2 rw';obtain⟨⟨cls,dd,data,sl⟩,h1,hc,n,hd⟩:=pl.isList;simp only at hc hd;subst hc hd;have hj':j < its.toArray.size:=by rw[List.size_toArray];omega
     refine call_meets PySem.F.slot_list_index ⟨_,h1,rfl⟩ PySem.F.entry_list_index (PySem.F.args_list_index_2 _ _) (SeqAt.list_indexAt p its.toArray n dd sl u (acd s.heap (toPy y)) j hj' (by omega) ?_ fun m hm hlt =>?_) ⟨h1,fun w hw =>?_,?_⟩
     ·have:=ami I g (a:=y) hl ho.2 rw' j (by omega) hj
      simpa[this] using hhit
     ·rw[List.size_toArray] at hm;have:=ami I g (a:=y) hl ho.2 rw' m hm (by omega)
      have hn:=hno m hlt
      simpa[this] using hn
     ·exact yp (A:=X.A) hu ra ho.1 z w (by simpa using hw)
     ·exact⟨.int j,H,I.tok _,⟨_,rfl⟩,q _ (.int _)⟩
  ·cases eg
def insD(l:List D)(k:Int)(d:D):List D:=let j:=if k < 0 then (k+(l.length:Int)).toNat else min k.toNat l.length;l.take j++d::l.drop j
def insV(l:List V)(k:Int)(d:V):List V:=let j:=if k < 0 then (k+(l.length:Int)).toNat else min k.toNat l.length;l.take j++d::l.drop j
def aoe:V->List V->Hp->VK->Prop:=fun x vs H Q=>∃l xs k y,x=.ref l/\vs=[.int k,y]/\H l=some (.lst xs) /\ -(2 ^ 63)<=k/\k < 2 ^ 63/\xs.length < sizeLine/\Q .non (upd H l (.lst (insV xs k y)))
theorem akk(l:List V)(k:Int)(d:V):(insV l k d).length=l.length+1:=by
 simp only[insV,List.length_append,List.length_cons,List.length_take,List.length_drop];omega
theorem ae7:MtR X "list.insert" aoe:=by
 intro jv s σ H x vs v us Q I rx rv h;obtain⟨l,xs,k,y,rfl,rfl,hH,k1,k2,hz,q⟩:=h;cases rx;obtain⟨u,w',rfl,⟨t,rfl⟩,r2⟩:=vals2 rv;obtain⟨z,its,n,r,hl,e⟩:=I.lstM hH;refine call_meets F.slot_list_insert ⟨_,e,rfl⟩ F.entry_list_insert (F.args_list_insert_3 _ _ _)
  (PySem.AutoListH.list_insert_list_int_val_1 l its.toArray n k t w' (by rw[fitsIndex_both k1 k2];decide) (by rw[List.size_toArray];omega)) ⟨e,?_⟩
 refine⟨.non,_,I.lset (its':=its.take (if k < 0 then (k+(its.length:Int)).toNat else min k.toNat its.length)++w'::its.drop (if k < 0 then (k+(its.length:Int)).toNat else min k.toNat its.length)) (ys:=insV xs k y) hH e ?_ ?_ ?_,rfl,q⟩
 ·simp only[List.size_toArray];generalize (if k < 0 then (k+(its.length:Int)).toNat else min k.toNat its.length)=j
  apply Array.ext';simp;exact List.take_of_length_le (by simp)
 ·unfold insV;rw[hl];exact(r.take _).append (.cons r2 (r.drop _))
 ·rw[akk];omega
def aca(l ds:List D):Option (D×List D):=match ds with
 | [.int k,d]=>if -9223372036854775808<=k/\k < 9223372036854775808/\l.length < capS then some (.non,insD l k d) else none
 | _=>none
theorem az2{F:Hp}{l:List D}{vs:List V}{d:D}{v:V}(h:IsL K F l vs)(k:Int)(hd:Is K F d v):IsL K F (insD l k d) (insV vs k v):=by
 unfold insD insV;rw[h.length];exact(h.take _).append (.cons hd (h.drop _))
theorem adp:MutD K aoe aca:=by
 intro F H a xs vs l ds d l' Q g hh hc hl hd eg q
 match ds,eg with
 | [.int k,d1],eg =>
  have eg:(if -9223372036854775808<=k/\k < 9223372036854775808/\l.length < capS then some (D.non,insD l k d1) else none)=some (d,l'):=eg
  split at eg
  ·rename_i hz;cases eg;cases hd with
   | cons h t =>
    cases t with
    | cons h2 t =>
     cases t;cases h;exact⟨a,xs,k,_,rfl,rfl,hh,hz.1,hz.2.1,by rw[sizeLine_eq,<-hl.length];exact hz.2.2,q _ _ .non (az2 hl k h2)⟩
  ·cases eg
section
variable(ρ:Ro)
@[simp] theorem a05(i:Nat)(g:D->List D->Option D)(ms:M (List D)):awb i g ms ρ=((di i).bind fun d0=>(lift (match d0 with
 | .lst _=>some ()
 | _=>none)).bind fun _=>ms.bind fun ds=>(di i).bind fun d=>lift (g d ds)) ρ:=rfl
@[simp] theorem axk(l:List D)(x:D):apj (.lst l) [x]=if okD 30 x&&l.all (okD 30) then some (.int (l.countP fun y=>eqD y x)) else none:=rfl
@[simp] theorem axj(l:List D)(x:D):aph (.lst l) [x]=if okD 30 x&&l.all (okD 30) then (l.findIdx? fun y=>eqD y x).map (fun i=>D.int i) else none:=rfl
@[simp] theorem ako(l:List D)(k:Int)(d:D):aca l [.int k,d]=if -9223372036854775808<=k/\k < 9223372036854775808/\l.length < capS then some (.non,insD l k d) else none:=rfl
end
end
end Dn
namespace En
open PySem PySem.Builtin
def It1(k:Bool)(h:Heap)(it l:Addr)(i:Nat):Prop:=cond k (h.IsTupleIter it l i) (h.IsListIter it l i)
def Sq1(k:Bool)(h:Heap)(l:Addr)(xs:Array Value):Prop:=cond k (h.IsTuple l xs) (h.IsList l xs)
section
variable{prog:Program}{w:World}{A:Around}{E:Value->Shared->Prop}{s:Shared}
theorem av2{it t:Addr}{i:Nat}{xs:Array Value}{x:Value}{Q:Value->Shared->Prop}(h1:s.heap.IsTupleIter it t i)(h2:s.heap.IsTuple t xs)(hx:xs[i]? = some x)
  (q:∀h',h'.IsTupleIter it t (i+1)->Heap.SameBut it s.heap h'->Q x { s with heap:=h' }):wpAny (model prog w) A (SmallTypes.nextOf (.ref it)) Q E s:=by
 obtain⟨o1,e1,c1,d1⟩:=id h1;obtain⟨o2,e2,_,k2,d2⟩:=h2;have nn:¬((Value.ref t==Value.none)=true):=Bool.false_ne_true;unfold SmallTypes.nextOf;refine wpAny_bind (wpAny_callSpecial?_slot (name:=Str.ofString "__next__") h1.typeIs F.slot_tuple_iterator_next (wpAny_call_entry F.slot_tuple_iterator_next h1.typeIs F.entry_tuple_iterator_next ?_ (F.args_tuple_iterator_next_1 _)));refine wpAny_bind (m:=field (.ref it) 0) (wpAny_field e1 d1 (x:=.ref t) rfl ?_);show wpAny _ _ (if (Value.ref t==Value.none)=true then _ else (field (.ref it) 1 >>= _)) _ _ s;rw[if_neg nn]
 refine wpAny_bind (m:=field (.ref it) 1) (wpAny_field e1 d1 (x:=.int i 0) rfl ?_);refine wpAny_bind (m:=seqItems? (.ref t)) (wpAny_seqItems e2 d2 ?_);simp only[Int.toNat_natCast,hx];refine wpAny_bind (wpAny_setField e1 d1 (by simp) (wpAny_pure ⟨x,rfl,wpAny_pure (q _ ?_ (Heap.SameBut.update ..))⟩))
 refine⟨_,Heap.get?_update_self _ e1 (Obj.isFreed_of_fields (Obj.data_mapFields d1 _)),(Obj.cls_mapFields ..).trans c1,?_⟩;rw[Obj.data_mapFields d1];simp[rawInt]
theorem aw1{it t:Addr}{i:Nat}{xs:Array Value}{Q:Value->Shared->Prop}(hh:A.handled=none)(h1:s.heap.IsTupleIter it t i)(h2:s.heap.IsTuple t xs)(hx:xs[i]? = none)
  (q:∀h' e,Heap.ExtBut it s.heap h'->(∃o,h'.get? e=some o/\o.cls=.type "StopIteration")->E (.ref e) { s with heap:=h' }):wpAny (model prog w) A (SmallTypes.nextOf (.ref it)) Q E s:=by
 obtain⟨o1,e1,c1,d1⟩:=id h1;obtain⟨o2,e2,_,k2,d2⟩:=h2;have nn:¬((Value.ref t==Value.none)=true):=Bool.false_ne_true;unfold SmallTypes.nextOf;refine wpAny_bind (wpAny_callSpecial?_slot (name:=Str.ofString "__next__") h1.typeIs F.slot_tuple_iterator_next (wpAny_call_entry F.slot_tuple_iterator_next h1.typeIs F.entry_tuple_iterator_next ?_ (F.args_tuple_iterator_next_1 _)));refine wpAny_bind (m:=field (.ref it) 0) (wpAny_field e1 d1 (x:=.ref t) rfl ?_);show wpAny _ _ (if (Value.ref t==Value.none)=true then _ else (field (.ref it) 1 >>= _)) _ _ s;rw[if_neg nn]
 refine wpAny_bind (m:=field (.ref it) 1) (wpAny_field e1 d1 (x:=.int i 0) rfl ?_);refine wpAny_bind (m:=seqItems? (.ref t)) (wpAny_seqItems e2 d2 ?_);simp only[Int.toNat_natCast,hx];refine wpAny_bind (wpAny_rule (wpAny_bind (wpAny_setField e1 d1 (by simp) ?_)))
 refine wpAny_bind (m:=newExc (.type "StopIteration") []) ?_;simp only[newExc,newTuple];refine wpAny_bind (wpAny_newObj_type ?_ (by size_fits))
 refine wpAny_bind (m:=firstArgMember _ _) (wpAny_of_eq (a:=Value.none) (by first | rfl | (simp only[firstArgMember];rfl)) (wpAny_newObj_type ?_ (by size_fits)))
 simp only[raiseNew];refine wpAny_bind (wpAny_handled ?_);first | rw[show A.in1.handled=none from hh] | rw[hh]
 refine wpAny_bind (wpAny_pure (wpAny_throw (q _ _ ?_ ⟨_,Heap.get?_push_size _ rfl,rfl⟩)));exact((Heap.SameBut.update ..).extBut.push _).push _
theorem src(hh:A.handled=none)(k:Bool)(it l:Addr)(ne:l≠it)(xs:Array Value):Draws prog w A it [it,l] xs.size (fun i v=>xs[i]? = some v) (fun i h=>It1 k h it l i/\Sq1 k h l xs):=by
 cases k with
 | false=>exact Draws.list hh it l ne xs
 | true=>exact{
   live:=fun _ _ z=>let ⟨o,e,_⟩:=z.1;⟨o,e⟩
   frame:=fun _ _ _ z kk=>⟨(let ⟨o,e,r⟩:=z.1;⟨o,kk it (by simp) o e,r⟩),(let ⟨o,e,r⟩:=z.2;⟨o,kk l (by simp) o e,r⟩)⟩
   item:=fun i s Q E hi z q=>av2 z.1 z.2 (x:=xs[i]) (by simp[hi]) fun h' z' sb=>q _ h' s.toks (by simp[hi]) ⟨z',Heap.IsTuple.extBut z.2 sb.extBut ne⟩ sb
   done:=fun s Q E z q=>aw1 hh z.1 z.2 (by simp) q }
theorem It1.at{k:Bool}{h h':Heap}{it l:Addr}{i:Nat}(x:It1 k h it l i)(e:∀o,h.get? it=some o->h'.get? it=some o):It1 k h' it l i:=by
 cases k <;> exact(let ⟨o,z,r⟩:=x;⟨o,e _ z,r⟩)
theorem It1.got{k:Bool}{h:Heap}{it l:Addr}{i:Nat}(x:It1 k h it l i):∃o,h.get? it=some o/\∀v,o.data≠.cell v:=by
 cases k <;> exact(let ⟨o,z,_,r⟩:=x;⟨o,z,fun v e=>by rw[r] at e;cases e⟩)
theorem Sq1.at{k:Bool}{h h':Heap}{l:Addr}{xs:Array Value}(x:Sq1 k h l xs)(e:∀o,h.get? l=some o->h'.get? l=some o):Sq1 k h' l xs:=by
 cases k <;> exact(let ⟨o,z,r⟩:=x;⟨o,e _ z,r⟩)
theorem Sq1.got{k:Bool}{h:Heap}{l:Addr}{xs:Array Value}(x:Sq1 k h l xs):∃o,h.get? l=some o:=by
 cases k <;> exact(let ⟨o,z,_⟩:=x;⟨o,z⟩)
theorem asb{k:Bool}{l:Addr}{xs:Array Value}{Q:Value->Shared->Prop}(h:Sq1 k s.heap l xs)
  (q:Q (.ref s.heap.objs.size) { s with heap:=s.heap.push { cls:=.type (cond k "tuple_iterator" "list_iterator"),data:=.fields #[.ref l,.int 0 0] } }):wpAny (model prog w) A (pyIter (.ref l)) Q E s:=by
 cases k with
 | false=>exact wpAny_pyIter_list h q
 | true=>exact wpAny_pyIter_tuple h q
theorem aki{k:Bool}{h:Heap}{l a:Addr}(e:h.get? a=some { cls:=.type (cond k "tuple_iterator" "list_iterator"),data:=.fields #[.ref l,.int 0 0] }):It1 k h a l 0:=by
 cases k <;> exact⟨_,e,rfl,rfl⟩
end
set_option maxRecDepth 100000
abbrev eh1(k:Bool)(h:Heap)(l:Addr):Heap:=h.push { cls:=.type (cond k "tuple_iterator" "list_iterator"),data:=.fields #[.ref l,.int 0 0] }
abbrev eh2(k:Bool)(h:Heap)(l:Addr):Heap:=(eh1 k h l).push { cls:=.type "enumerate", data:=.fields #[.none,.bool false,.ref h.objs.size,rawInt 0,.none,.none] }
theorem av9(k:Bool)(l:Addr)(o:Obj)(xs:Array Value) :
  Meets (Builtin.«enumerate.__new__» ⟨[.type "enumerate", .ref l],[]⟩) (fun _ R s=>s.heap.get? l=some o/\Sq1 k s.heap l xs/\R (.ok (.ret (.ref (eh1 k s.heap l).objs.size))) { s with heap:=eh2 k s.heap l }) :=
 .of_wp fun prog w A R s h=>by
  obtain⟨hp,g,d,tk,os⟩:=s;obtain⟨ho,r1,h⟩:=h;have sb:=sub_enumerate;have r1:Sq1 k (Shared.heap ⟨hp,g,d,tk,os⟩) l xs:=r1;wp_walk using AutoSeq1.wpAny_loadPart' ho;refine wpAny_stack_any fun st=>wpAny_pure ?_
  split
  ·rename_i c _ _ _ _ _;cases(c==Value.type "enumerate") <;> (wp_walk using AutoSeq1.wpAny_loadPart' ho,asb r1;exact⟨_,rfl,h⟩)
  ·wp_walk using AutoSeq1.wpAny_loadPart' ho,asb r1;exact⟨_,rfl,h⟩
theorem aqd{prog:Program}{w:World}{A:Around}{E:Value->Shared->Prop}{s:Shared}{k:Bool}{l:Addr}{xs:Array Value}{Q:Value->Shared->Prop}(s1:Sq1 k s.heap l xs)
  (q:∀h',IsEnum h' (s.heap.objs.size+1) s.heap.objs.size 0 .none->It1 k h' s.heap.objs.size l 0->h'.objs.size=s.heap.objs.size+2->(∀b o,s.heap.get? b=some o->h'.get? b=some o)->Q (.ref (s.heap.objs.size+1)) { s with heap:=h' }) :
  wpAny (model prog w) A (call (.type "enumerate") [.ref l]) Q E s:=by
 obtain⟨o,ho⟩:=s1.got;refine callType_new F.called_enumerate (by decide) (F.typeCall_enumerate_1 _) (F.newCall_enumerate_1 _) (fun obj=>F.args_object_init_2 obj _) F.entry_enumerate_new (av9 k l o xs) ⟨ho,s1,?_⟩
 have z1:(eh1 k s.heap l).objs.size=s.heap.objs.size+1:=Heap.size_push ..
 have g2:(eh2 k s.heap l).get? (eh1 k s.heap l).objs.size=some _:=Heap.get?_push_size _ rfl;have g1:(eh2 k s.heap l).get? s.heap.objs.size=some _:=Heap.get?_push_of_some _ (Heap.get?_push_size _ rfl);rw[z1] at g2;show _/\_;rw[z1];exact⟨⟨_,g2,rfl⟩,q _ g2 (aki g1) (by rw[Heap.size_push,z1]) fun b o x=>Heap.get?_push_of_some _ (Heap.get?_push_of_some _ x)⟩
end En
namespace En
open PySem PySem.Builtin
set_option maxRecDepth 100000
theorem aut(v1 v2:Value):checkTypeCall "zip" ⟨[v1,v2],[]⟩=pure ():=by kernel_rfl
theorem av7(v1 v2:Value):checkBuiltinCall "zip.__new__" ⟨[.type "zip", v1,v2],[]⟩=pure ():=by kernel_rfl
theorem axf(o v1 v2:Value):argsOk "object.__init__" ⟨[o,v1,v2],[]⟩:=by
 unfold argsOk;rw[signature?_of (id := "object.__init__") (n:=['_','_','t','i','n','i','_','_']) (o:=['t','c','e','j','b','o']) (by kernel_rfl) F.owner_object];kernel_rfl
abbrev Row2(h:Heap)(T:Addr)(v1 v2:Value):Prop:=h.get? T=some { cls:=.type "tuple", data:=.seq #[v1,v2] }
structure Apart2 (z TI TO i1 i2 l1 l2:Addr):Prop where
 nTIz:TI≠z
 nTOz:TO≠z
 nTOTI:TO≠TI
 ni1z:i1≠z
 ni1TI:i1≠TI
 ni1TO:i1≠TO
 ni2z:i2≠z
 ni2TI:i2≠TI
 ni2TO:i2≠TO
 ni2i1:i2≠i1
 nl1z:l1≠z
 nl1TO:l1≠TO
 nl1i1:l1≠i1
 nl1i2:l1≠i2
 nl2z:l2≠z
 nl2TO:l2≠TO
 nl2i1:l2≠i1
 nl2i2:l2≠i2
section
variable{prog:Program}{w:World}{A:Around}{E:Value->Shared->Prop}{s:Shared}
theorem ax9{T:Addr}{v1 v2 x:Value}{Q:Unit->Shared->Prop}(h:Row2 s.heap T v1 v2)(q:∀h',Row2 h' T x v2->Heap.SameBut T s.heap h'->Q () { s with heap:=h' }):wpAny (model prog w) A (updateSeq T (·.setIfInBounds 0 x)) Q E s:=by
 refine wpAny_updateSeq h rfl (q _ (show Heap.get? _ T=_ from ?_) (Heap.SameBut.update ..))
 rw[Heap.get?_update_self _ h rfl];simp[Obj.mapSeq]
theorem ax8{T:Addr}{v1 v2 x:Value}{Q:Unit->Shared->Prop}(h:Row2 s.heap T v1 v2)(q:∀h',Row2 h' T v1 x->Heap.SameBut T s.heap h'->Q () { s with heap:=h' }):wpAny (model prog w) A (updateSeq T (·.setIfInBounds 1 x)) Q E s:=by
 refine wpAny_updateSeq h rfl (q _ (show Heap.get? _ T=_ from ?_) (Heap.SameBut.update ..))
 rw[Heap.get?_update_self _ h rfl];simp[Obj.mapSeq]
theorem anl{z TI TO i1 i2 l1 l2:Addr}{k1 k2:Bool}{i:Nat}{x1 x2:Array Value}{v1 v2:Value}{Q:Value->Shared->Prop}(hh:A.handled=none)(D:Apart2 z TI TO i1 i2 l1 l2)
  (hz:IsZip s.heap z TI TO .none) (hI:Row2 s.heap TI (.ref i1) (.ref i2)) (hO:Row2 s.heap TO v1 v2) (h1:It1 k1 s.heap i1 l1 i) (s1:Sq1 k1 s.heap l1 x1) (h2:It1 k2 s.heap i2 l2 i) (s2:Sq1 k2 s.heap l2 x2) (b1:i < x1.size) (b2:i < x2.size)
  (q:∀h' tk y1 y2,x1[i]? = some y1->x2[i]? = some y2->IsZip h' z TI TO (rawInt s.heap.objs.size)->Row2 h' TO y1 y2->It1 k1 h' i1 l1 (i+1)->It1 k2 h' i2 l2 (i+1)->Row2 h' s.heap.objs.size y1 y2->h'.objs.size=s.heap.objs.size+1 ->
   (∀c o,c≠z->c≠TO->c≠i1->c≠i2->s.heap.get? c=some o->h'.get? c=some o)->Q (.ref s.heap.objs.size) { s with heap:=h',toks:=tk }) :
  wpAny (model prog w) A (Builtin.«zip.__next__» ⟨[.ref z],[]⟩) (fun fin s'=>∃v,fin=.done (.ret v)/\Q v s') E s:=by
 refine wpAny_bind (m:=field (.ref z) 2) (wpAny_field hz rfl (x:=.bool false) rfl ?_);refine wpAny_bind (m:=field (.ref z) 3) (wpAny_field hz rfl (x:=.ref TI) rfl ?_);refine wpAny_bind (wpAny_seqItems hI rfl ?_);refine wpAny_bind (m:=SmallTypes.ownedTupleIsFree (.ref z)) ?_;unfold SmallTypes.ownedTupleIsFree;refine wpAny_bind (wpAny_field hz rfl (x:=.none) rfl (wpAny_pure ?_));simp only[if_true];refine wpAny_bind (wpAny_rule (wpAny_bind (wpAny_field hz rfl (x:=.ref TO) rfl ?_)));refine wpAny_bind (wpAny_setField_rec hz (by simp) fun g0 z0 a0 =>?_)
 have z0:IsZip g0 z TI TO .ellipsis:=z0;refine wpAny_bind ?_;simp only[List.zipIdx_cons,List.zipIdx_nil,List.forIn_cons,List.forIn_nil];refine wpAny_bind (wpAny_bind (wpAny_onRaise ?_));refine wpAny_bind (m:=SmallTypes.nextOf (.ref i1)) ((src hh k1 i1 l1 D.nl1i1 x1).item i _ _ _ b1 ⟨(h1.at fun _ e=>(a0.extBut _ _ D.ni1z e)),(s1.at fun _ e=>(a0.extBut _ _ D.nl1z e))⟩ fun y1 f1 t1 p1 q1 c1=>wpAny_pure ?_)
 have c1:Heap.SameBut i1 g0 f1:=c1;have P1:Row2 f1 TO v1 v2:=(c1.extBut _ _ D.ni1TO.symm (a0.extBut _ _ D.nTOz hO));refine wpAny_bind (wpAny_seqItems P1 rfl ?_);refine wpAny_bind (ax9 P1 fun g1 O1 a1 =>?_)
 have a1:Heap.SameBut TO f1 g1:=a1;refine wpAny_bind (wpAny_letGo (wpAny_pure ?_));refine wpAny_bind (wpAny_bind (wpAny_onRaise ?_));refine wpAny_bind (m:=SmallTypes.nextOf (.ref i2)) ((src hh k2 i2 l2 D.nl2i2 x2).item i _ _ _ b2 ⟨(h2.at fun _ e=>(a1.extBut _ _ D.ni2TO (c1.extBut _ _ D.ni2i1 (a0.extBut _ _ D.ni2z e)))),(s2.at fun _ e=>(a1.extBut _ _ D.nl2TO (c1.extBut _ _ D.nl2i1 (a0.extBut _ _ D.nl2z e))))⟩ fun y2 f2 t2 p2 q2 c2=>wpAny_pure ?_)
 have c2:Heap.SameBut i2 g1 f2:=c2;have P2:Row2 f2 TO y1 v2:=(c2.extBut _ _ D.ni2TO.symm O1);refine wpAny_bind (wpAny_seqItems P2 rfl ?_);refine wpAny_bind (ax8 P2 fun g2 O2 a2 =>?_)
 have a2:Heap.SameBut TO f2 g2:=a2;refine wpAny_bind (wpAny_letGo (wpAny_pure (wpAny_pure ?_)));refine wpAny_bind (wpAny_seqItems O2 rfl (wpAny_bind (wpAny_newTuple ?_)));have sz:g2.objs.size=s.heap.objs.size:=by rw[a2.1,c2.1,a1.1,c1.1,a0.1]
 have zn:IsZip g2 z TI TO .ellipsis:=(a2.extBut _ _ D.nTOz.symm (c2.extBut _ _ D.ni2z.symm (a1.extBut _ _ D.nTOz.symm (c1.extBut _ _ D.ni1z.symm z0))));have kn:∀c o,c≠z->c≠TO->c≠i1->c≠i2->s.heap.get? c=some o->g2.get? c=some o:=fun c o n0 n1 n2 n3 e=>(a2.extBut _ _ n1 (c2.extBut _ _ n3 (a1.extBut _ _ n1 (c1.extBut _ _ n2 (a0.extBut _ _ n0 e)))))
 have j1:It1 k1 g2 i1 l1 (i+1):=q1.1.at fun _ e=>(a2.extBut _ _ D.ni1TO (c2.extBut _ _ D.ni2i1.symm (a1.extBut _ _ D.ni1TO e)))
 have j2:It1 k2 g2 i2 l2 (i+1):=q2.1.at fun _ e=>(a2.extBut _ _ D.ni2TO e)
 have lz:z < g2.objs.size:=Heap.lt_size zn;refine wpAny_bind (m:=SmallTypes.ownedTupleHandOut (.ref z) (.ref g2.objs.size)) ?_;unfold SmallTypes.ownedTupleHandOut;have zp:IsZip (g2.push { cls:=.type "tuple", data:=.seq #[y1,y2] }) z TI TO .ellipsis:=Heap.get?_push_of_some _ zn;refine wpAny_bind (wpAny_setField_rec zp (by simp) fun e1 z1 b1' =>?_)
 have z1:IsZip e1 z TI TO (rawInt g2.objs.size):=z1;refine wpAny_setField_rec z1 (by simp) fun e2 z2 b2' =>?_
 have z2:IsZip e2 z TI TO (rawInt g2.objs.size):=z2;have up:∀c o,c≠z->g2.get? c=some o->e2.get? c=some o:=fun c o n1 e=>b2'.extBut _ _ n1 (b1'.extBut _ _ n1 (Heap.get?_push_of_some _ e))
 have t2:Row2 e2 g2.objs.size y1 y2:=b2'.extBut _ _ (Nat.ne_of_gt lz) (b1'.extBut _ _ (Nat.ne_of_gt lz) (Heap.get?_push_size _ rfl));have s2':e2.objs.size=g2.objs.size+1:=by rw[b2'.1,b1'.1,Heap.size_push]
 rw[sz] at z2 t2 s2';refine wpAny_pure ⟨_,rfl,?_⟩;show Q (.ref g2.objs.size) _;rw[sz];exact q e2 _ y1 y2 p1 p2 z2 (up _ _ D.nTOz O2) (j1.at fun _ e=>up _ _ D.ni1z e) (j2.at fun _ e=>up _ _ D.ni2z e) t2 s2' fun c o n0 n1 n2 n3 e=>up c o n0 (kn c o n0 n1 n2 n3 e)
theorem aqt{z TI TO i1 i2 l1 l2:Addr}{k1:Bool}{x1:Array Value}{v1 v2:Value}{Q:Fin->Shared->Prop}(hh:A.handled=none)(D:Apart2 z TI TO i1 i2 l1 l2)
  (hz:IsZip s.heap z TI TO .none) (hI:Row2 s.heap TI (.ref i1) (.ref i2)) (hO:Row2 s.heap TO v1 v2) (h1:It1 k1 s.heap i1 l1 x1.size) (s1:Sq1 k1 s.heap l1 x1)
  (q:∀h' e,(∀c o,c≠z->c≠i1->s.heap.get? c=some o->h'.get? c=some o)->(∃o,h'.get? e=some o/\o.cls=.type "StopIteration")->E (.ref e) { s with heap:=h' }) :
  wpAny (model prog w) A (Builtin.«zip.__next__» ⟨[.ref z],[]⟩) Q E s:=by
 refine wpAny_bind (m:=field (.ref z) 2) (wpAny_field hz rfl (x:=.bool false) rfl ?_);refine wpAny_bind (m:=field (.ref z) 3) (wpAny_field hz rfl (x:=.ref TI) rfl ?_);refine wpAny_bind (wpAny_seqItems hI rfl ?_);refine wpAny_bind (m:=SmallTypes.ownedTupleIsFree (.ref z)) ?_;unfold SmallTypes.ownedTupleIsFree;refine wpAny_bind (wpAny_field hz rfl (x:=.none) rfl (wpAny_pure ?_));simp only[if_true];refine wpAny_bind (wpAny_rule (wpAny_bind (wpAny_field hz rfl (x:=.ref TO) rfl ?_)));refine wpAny_bind (wpAny_setField_rec hz (by simp) fun g0 z0 a0 =>?_)
 have z0:IsZip g0 z TI TO .ellipsis:=z0;refine wpAny_bind ?_;simp only[List.zipIdx_cons,List.zipIdx_nil,List.forIn_cons,List.forIn_nil];refine wpAny_bind (wpAny_bind (wpAny_onRaise ?_));refine wpAny_bind (m:=SmallTypes.nextOf (.ref i1)) ((src hh k1 i1 l1 D.nl1i1 x1).done _ _ _ ⟨(h1.at fun _ e=>a0.extBut _ _ D.ni1z e),(s1.at fun _ e=>a0.extBut _ _ D.nl1z e)⟩ fun f1 e c1 ⟨oe,he,ce⟩ =>?_)
 have zf:IsZip f1 z TI TO .ellipsis:=c1 _ _ D.ni1z.symm z0;have ez:e≠z:=fun x=>by subst x;rw[zf] at he;cases he;simp at ce
 refine wpAny_setField_rec zf (by simp) fun f2 _ a1=>q f2 e (fun c o n1 n2 y=>a1.extBut _ _ n1 (c1 _ _ n2 (a0.extBut _ _ n1 y))) ⟨oe,a1.extBut _ _ ez he,ce⟩
abbrev ano(h:Heap)(k1 k2:Bool)(l1 l2:Addr):Heap:=h.push { cls:=.type (cond k1 "tuple_iterator" "list_iterator"),data:=.fields #[.ref l1,.int 0 0] }
abbrev aqw(h:Heap)(k1 k2:Bool)(l1 l2:Addr):Heap:=(ano h k1 k2 l1 l2).push { cls:=.type (cond k2 "tuple_iterator" "list_iterator"),data:=.fields #[.ref l2,.int 0 0] }
abbrev aqv(h:Heap)(k1 k2:Bool)(l1 l2:Addr):Heap:=(aqw h k1 k2 l1 l2).push { cls:=.type "tuple", data:=.seq #[.ref h.objs.size,.ref (ano h k1 k2 l1 l2).objs.size] }
abbrev aqu(h:Heap)(k1 k2:Bool)(l1 l2:Addr):Heap:=(aqv h k1 k2 l1 l2).push { cls:=.type "tuple", data:=.seq #[.none,.none] }
abbrev ajy(h:Heap)(k1 k2:Bool)(l1 l2:Addr):Heap:=(aqu h k1 k2 l1 l2).push { cls:=.type "zip", data:=.fields #[.none,.bool false,.bool false,.ref (aqw h k1 k2 l1 l2).objs.size,.ref (aqv h k1 k2 l1 l2).objs.size] }
theorem av8(k1 k2:Bool)(l1 l2:Addr)(x1 x2:Array Value) :
  Meets (Builtin.«zip.__new__» ⟨[.type "zip", .ref l1,.ref l2],[]⟩) (fun _ R s=>Sq1 k1 s.heap l1 x1/\Sq1 k2 s.heap l2 x2/\R (.ok (.ret (.ref (aqu s.heap k1 k2 l1 l2).objs.size))) { s with heap:=ajy s.heap k1 k2 l1 l2 }) :=
 .of_wp fun prog w A R s h=>by
  obtain⟨hp,g,d,tk,os⟩:=s;obtain⟨s1,s2,h⟩:=h;have sb:=sub_zip;have r1:Sq1 k1 (Shared.heap ⟨hp,g,d,tk,os⟩) l1 x1:=s1.at fun _ e=>e
  have r2:Sq1 k2 (Shared.heap ⟨ano hp k1 k2 l1 l2,g,d,tk,os⟩) l2 x2:=s2.at fun _ e=>Heap.get?_push_of_some _ (e)
  wp_walk using asb r1,asb r2;exact⟨_,rfl,h⟩
theorem ap9{k1 k2:Bool}{l1 l2:Addr}{x1 x2:Array Value}{Q:Value->Shared->Prop}(s1:Sq1 k1 s.heap l1 x1)(s2:Sq1 k2 s.heap l2 x2)
  (q:∀h',IsZip h' (s.heap.objs.size+4) (s.heap.objs.size+2) (s.heap.objs.size+3) .none->Row2 h' (s.heap.objs.size+2) (.ref s.heap.objs.size) (.ref (s.heap.objs.size+1))->Row2 h' (s.heap.objs.size+3) .none .none->It1 k1 h' s.heap.objs.size l1 0->It1 k2 h' (s.heap.objs.size+1) l2 0->h'.objs.size=s.heap.objs.size+5->(∀c o,s.heap.get? c=some o->h'.get? c=some o)->Q (.ref (s.heap.objs.size+4)) { s with heap:=h' }) :
  wpAny (model prog w) A (call (.type "zip") [.ref l1,.ref l2]) Q E s:=by
 refine callType_new F.called_zip (by decide) (aut _ _) (av7 _ _) (fun obj=>axf obj _ _) F.entry_zip_new (av8 k1 k2 l1 l2 x1 x2) ⟨s1,s2,?_⟩
 have e1:(ano s.heap k1 k2 l1 l2).objs.size=s.heap.objs.size+1:=by rw[Heap.size_push]
 have e2:(aqw s.heap k1 k2 l1 l2).objs.size=s.heap.objs.size+2:=by rw[Heap.size_push,e1]
 have eI:(aqv s.heap k1 k2 l1 l2).objs.size=s.heap.objs.size+3:=by rw[Heap.size_push,e2]
 have eO:(aqu s.heap k1 k2 l1 l2).objs.size=s.heap.objs.size+4:=by rw[Heap.size_push,eI]
 have eZ:(ajy s.heap k1 k2 l1 l2).objs.size=s.heap.objs.size+5:=by rw[Heap.size_push,eO]
 have gZ:(ajy s.heap k1 k2 l1 l2).get? (aqu s.heap k1 k2 l1 l2).objs.size=some _:=Heap.get?_push_size _ rfl;have gO:(ajy s.heap k1 k2 l1 l2).get? (aqv s.heap k1 k2 l1 l2).objs.size=some _:=Heap.get?_push_of_some _ (Heap.get?_push_size _ rfl);have gI:(ajy s.heap k1 k2 l1 l2).get? (aqw s.heap k1 k2 l1 l2).objs.size=some _:=Heap.get?_push_of_some _ (Heap.get?_push_of_some _ (Heap.get?_push_size _ rfl));have j1:(ajy s.heap k1 k2 l1 l2).get? s.heap.objs.size=some _:=Heap.get?_push_of_some _ (Heap.get?_push_of_some _ (Heap.get?_push_of_some _ (Heap.get?_push_of_some _ (Heap.get?_push_size _ rfl))));have j2:(ajy s.heap k1 k2 l1 l2).get? (ano s.heap k1 k2 l1 l2).objs.size=some _:=Heap.get?_push_of_some _ (Heap.get?_push_of_some _ (Heap.get?_push_of_some _ (Heap.get?_push_size _ rfl)));show _/\_;rw[e2,eI,eO] at gZ;rw[e1,e2] at gI;rw[eI] at gO;rw[e1] at j2;rw[eO];exact⟨⟨_,gZ,rfl⟩,q _ gZ gI gO (aki j1) (aki j2) eZ fun c o x=>Heap.get?_push_of_some _ (Heap.get?_push_of_some _ (Heap.get?_push_of_some _ (Heap.get?_push_of_some _ (Heap.get?_push_of_some _ (x)))))⟩
end
structure Apart3 (z TI TO i1 i2 i3 l1 l2 l3:Addr):Prop where
 nTIz:TI≠z
 nTOz:TO≠z
 nTOTI:TO≠TI
 ni1z:i1≠z
 ni1TI:i1≠TI
 ni1TO:i1≠TO
 ni2z:i2≠z
 ni2TI:i2≠TI
 ni2TO:i2≠TO
 ni2i1:i2≠i1
 ni3z:i3≠z
 ni3TI:i3≠TI
 ni3TO:i3≠TO
 ni3i1:i3≠i1
 ni3i2:i3≠i2
 nl1z:l1≠z
 nl1TO:l1≠TO
 nl1i1:l1≠i1
 nl1i2:l1≠i2
 nl1i3:l1≠i3
 nl2z:l2≠z
 nl2TO:l2≠TO
 nl2i1:l2≠i1
 nl2i2:l2≠i2
 nl2i3:l2≠i3
 nl3z:l3≠z
 nl3TO:l3≠TO
 nl3i1:l3≠i1
 nl3i2:l3≠i2
 nl3i3:l3≠i3
section
variable{prog:Program}{w:World}{A:Around}{E:Value->Shared->Prop}{s:Shared}
end
end En
namespace Mn
open L2 En
def SqK(k:Bool)(K:Fg9)(H:Hp)(a:Addr)(xs:List V):Prop:=cond k (SqT K H a xs) (SqL K H a xs)
theorem aer{xs:List V}{us:List Value}(r:Vals xs us){i:Nat}{x:V}{u:Value}(h:xs[i]? = some x)(h':us.toArray[i]? = some u):RelV x u:=by
 obtain⟨u',e,z⟩:=r.get h;have:us[i]? = some u:=by simpa using h'
 rw[this] at e;cases e;exact z
section
variable{X:Cx}{jv:List (Addr×Obj)}{σ:L2.St}{H:Hp}{s:Shared}{h':Heap}{a:Addr}{xs ys:List V}{k:Bool}
theorem ad7(I:Inv X jv σ H s)(h:SqK k X.K H a xs):∃its:List Value,Vals xs its/\Sq1 k s.heap a its.toArray:=by
 cases k with
 | false =>
  obtain⟨its,r,p,_⟩:=I.list h;exact⟨its,r,p.isList⟩
 | true =>
  obtain⟨its,r,p,_⟩:=I.tuple h;exact⟨its,r,p⟩
theorem akj(I:Inv X jv σ H s)(h:SqK k X.K H a xs)(h2:SqK k X.K H a ys):xs=ys:=by
 cases k with
 | false=>exact I.list_inj h h2
 | true=>exact I.tuple_inj h h2
theorem adw{t':Nat}{fp:List Addr}(I:Inv X jv σ H s)(kk:∀b o,b∉fp->s.heap.get? b=some o->h'.get? b=some o)(hf:∀b∈fp,FpOk X jv H b):Inv X jv σ H { s with heap:=h',toks:=t' }:=by
 have nit:∀b u,H b=some u->b∉fp:=fun b u e z=>by rw[(hf b z).1] at e;cases e
 have nL:X.env.locals∉fp:=fun z=>(hf _ z).2.1 rfl
 refine I.step (g':=s.gens) (d':=s.drawn) (ch:=fp) (fun b hb=>⟨(hf b hb).2.2.2.1,(hf b hb).2.1,(hf b hb).2.2.2.2.1,(hf b hb).2.2.2.2.2⟩) (fun b o _ _ hc e _=>kk b o hc e) (fun b o _ _ hc e _=>⟨o.slots,kk b o hc e⟩) (fun _ _ _ _ n=>n)
  (fun b o hc e=>⟨o,kk b o hc e⟩) (fun _ _ e=>e) (fun _ _ _ e=>e) (fun b ps e=>⟨#[],by rw[e];simp⟩) (fun m hm =>?_) (fun b u e =>?_) I.bare
 ·obtain⟨o,es,ep,ho,r⟩:=hm;exact⟨o,es,ep,kk _ o nL ho,r⟩
 ·refine(I.hok b u e).stay (fun c v hc q=>kk c v ?_ q) (fun _ q=>q) fun _ _ q=>q
  rcases hc with z | z
  ·rw[z];exact nit b u e
  ·exact nit c _ z
theorem apd{t':Nat}{fp:List Addr}{vs:List V}{us:List Value}(I:Inv X jv σ H s)(kk:∀b o,b∉fp->s.heap.get? b=some o->h'.get? b=some o)(hf:∀b∈fp,FpOk X jv H b)(hb:∀b∈fp,b < s.heap.objs.size)
  (r:Vals vs us) (hz:vs.length<=sizeLine) (ht:h'.get? s.heap.objs.size=some { cls:=.type "tuple", data:=.seq us.toArray }):Inv X jv σ (upd H s.heap.objs.size (.tup vs)) { s with heap:=h',toks:=t' }:=by
 have I1:=I.laid (h':=s.heap.push { cls:=.type "tuple", data:=.seq us.toArray }) (t':=s.toks) (a:=s.heap.objs.size) (o:=.tup vs) (fun b u e=>Heap.get?_push_of_some _ e) (Nat.le_refl _) ⟨hz,us,r,⟨_,Heap.get?_push_size _ rfl,rfl,rfl,_,rfl⟩⟩
 have k2:∀b o,b∉fp->(s.heap.push { cls:=.type "tuple", data:=.seq us.toArray }).get? b=some o->h'.get? b=some o:=fun b o hn e=>by
  rcases Heap.get?_push_cases e with⟨rfl,rfl⟩ | e
  ·exact ht
  ·exact kk b o hn e
 have f2:∀b∈fp,FpOk X jv (upd H s.heap.objs.size (.tup vs)) b:=fun b hb'=>by
  obtain⟨f0,f⟩:=hf b hb';exact⟨by rw[b8 (Nat.ne_of_lt (hb b hb'))];exact f0,f⟩
 have R:=adw (t':=t') (h':=h') (fp:=fp) I1 k2 f2;exact R
end
theorem at4{k:Bool}{h:Heap}{it a l:Addr}{i:Nat}{xs:Array Value}(x:It1 k h it l i){k':Bool}(y:Sq1 k' h a xs):a≠it:=fun e=>by
 subst e;cases k <;> cases k' <;> exact(by
  obtain⟨o,e1,c1,_⟩:=x;obtain⟨o',e2,c2,_⟩:=y;rw[e1] at e2;cases e2;rw[c1] at c2;simp at c2)
theorem a2g{h:Heap}{a b:Addr}{o:Obj}{n:String}{k:Bool}{xs:Array Value}(e:h.get? b=some o)(c:o.cls=.type n)(hn:n ≠ "list" /\ n ≠ "tuple")(y:Sq1 k h a xs):a≠b:=fun z=>by
 subst z;cases k <;> exact(by
  obtain⟨o',e2,c2,_⟩:=y;rw[e] at e2;cases e2;rw[c] at c2;simp at c2
  first | exact hn.1 c2 | exact hn.2 c2)
def Ite(K:Fg9)(k:Bool)(a:Addr):It :=
 ⟨fun i H=>∃xs x,SqK k K H a xs/\xs[i]? = some x,fun i H x H'=>∃q v,H q=none/\x=.ref q/\H'=upd H q (.tup [.int i,v])/\∀xs,SqK k K H a xs->xs[i]? = some v,fun i H=>∃xs,SqK k K H a xs/\xs.length=i⟩
theorem anx{P:Program}{w:World}{K:Fg9}{elts:List Expr}{n:Nat}{pos:Pos}(k:Bool)(a e it:Addr)(ne:e≠it) :
  Turn P w K (.Tuple elts n pos) (Ite K k a) [e,it] e (fun i h=>(∃old,IsEnum h e it i old)/\It1 k h it a i) where
 mem:=by simp
 obj:=fun i h st b hb=>by
  have hb:b=e∨b=it:=by simpa using hb
  rcases hb with rfl | rfl
  ·obtain⟨old,z⟩:=st.1;exact⟨_,z,fun v z=>by cases z⟩
  ·exact st.2.got
 keep:=fun i h h' st kk=>by
  obtain⟨⟨old,z⟩,y⟩:=st;exact⟨⟨old,kk e (by simp) _ z⟩,y.at fun o z=>kk it (by simp) o z⟩
 item:=by
  intro X hP hw hK hc i jv s σ H E I hf st hg;subst hP hw hK;obtain⟨⟨old,he⟩,hi⟩:=st;obtain⟨xs,x,hq,hx⟩:=hg;obtain⟨its,rv,sq⟩:=ad7 I hq;obtain⟨u,hu,ru⟩:=rv.get hx;have hlt:i < its.toArray.size:=by simpa using (List.getElem?_eq_some_iff.mp hu).1
  have nai:=at4 hi sq;have nae:a≠e:=a2g he rfl (by decide) sq
  have D:=En.src (prog:=X.prog) (w:=X.w) (A:=X.A.in1) (I.ok.hd hc) k it a nai its.toArray;refine wpAny_pyNext_enum_itemD D he ⟨hi,sq⟩ hlt ne (by simp[ne,nae.symm]) fun y g tk hy ho hs hT hz hk =>?_
  refine⟨_,rfl,wpAny_letOwnedTupleGo_enum ho fun g2 he2 sb =>?_⟩
  have ry:=aer rv hx hy;have lte:e < s.heap.objs.size:=Heap.lt_size he;have lti:it < s.heap.objs.size:=by obtain⟨o,z,_⟩:=hi.got;exact Heap.lt_size z
  have fr:H s.heap.objs.size=none:=I.hok.fresh (Nat.le_refl _);refine⟨.ref s.heap.objs.size,upd H s.heap.objs.size (.tup [.int i,x]),?_,rfl,⟨_,x,fr,rfl,rfl,fun ys hy=>by rw[akj I hy hq];exact hx⟩,⟨⟨_,he2⟩,hs.1.at fun o z=>sb.extBut _ _ ne.symm z⟩,fun b hb =>?_⟩
  ·refine apd (fp:=[e,it]) (us:=[.int i tk,y]) I (fun b o hn z =>?_) hf (fun b hb =>?_) (.cons ⟨tk,rfl⟩ (.cons ry .nil)) (by rw[sizeLine_eq];simp) (sb.extBut _ _ (Nat.ne_of_gt lte) hT)
   ·have h1:b≠e:=fun z=>hn (by simp[z])
    have h2:b≠it:=fun z=>hn (by simp[z])
    exact sb.extBut _ _ h1 (hk b o h1 h2 z)
   ·have hb:b=e∨b=it:=by simpa using hb
    rcases hb with rfl | rfl
    ·exact lte
    ·exact lti
  ·have hb':b=e∨b=it:=by simpa using hb
   rw[b8 (by rcases hb' with rfl | rfl;exact Nat.ne_of_lt lte;exact Nat.ne_of_lt lti)]
   exact(hf b hb).1
 done:=by
  intro X hP hw hK hc i jv s σ H E I hf st hg;subst hP hw hK;obtain⟨⟨old,he⟩,hi⟩:=st;obtain⟨xs,hq,hx⟩:=hg;obtain⟨its,rv,sq⟩:=ad7 I hq;have hl:i=its.toArray.size:=by have:=rv.length;simp;omega
  subst hl;have D:=En.src (prog:=X.prog) (w:=X.w) (A:=X.A.in1) (I.ok.hd hc) k it a (at4 hi sq) its.toArray;refine wpAny_pyNext_enum_endD D he ⟨hi,sq⟩ fun g eb=>⟨rfl,adw (t':=s.toks) (fp:=[e,it]) I (fun b o hn z=>eb b o (fun z=>hn (by simp[z])) z) hf⟩
 self:=fun _ _ _ _ _ st h=>let ⟨_,z⟩:=st.1;wpAny_pyIter_enum z h
theorem a0l:bootBuiltins "zip" = some (.type "zip"):=by decide +kernel
section
variable{X:Cx}
def a3r(K:Fg9)(ta:TA):TI:=fun σ H R=>ta σ H fun vs H1=>∃a k,vs=[.ref a]/\(∃xs,SqK k K H1 a xs)/\R (Ite K k a) H1
theorem avn{a:Expr}{ta:TA}{p pos:Pos}{elts:List Expr}{n:Nat}{tp:Pos}(hg:Gl X "enumerate")(hm:X.mg "enumerate" = none)(ha:PA X [a] ta)(hs:starEach [a] X.env=[(false,eval a X.env)]:=by rfl) :
  PI X (.Tuple elts n tp) (.Call (.Name "enumerate" p) [a] [] pos) (a3r X.K ta):=by
 intro jv s σ H R I h;refine Call_ (agb I hg hm ajq (PyProof.Rows.callWith_type1 (thn (ha pos jv s σ H _ I h) fun us s1 ⟨vs,H1,I1,r1,q1⟩ =>?_) hs rfl))
 obtain⟨b,k,rfl,⟨xs,hq⟩,q⟩:=q1;obtain⟨u,rfl,ru⟩:=vals1 r1;cases ru;obtain⟨its,rv,sq⟩:=ad7 I1 hq;refine aqd sq fun g he hi hz kk=>wpAny_pyIter_enum he ?_
 have I2:Inv X jv σ H1 { s1 with heap:=g }:=I1.kept (t':=s1.toks) kk
 refine⟨_,[s1.heap.objs.size+1,s1.heap.objs.size],_,_,H1,rfl,I2,anx k b _ _ (Nat.succ_ne_self _),⟨⟨_,he⟩,hi⟩,fun c hc =>?_,q⟩
 have hc:c=s1.heap.objs.size+1∨c=s1.heap.objs.size:=by simpa using hc
 rcases hc with rfl | rfl
 ·exact I1.fpOk (Nat.le_succ _) (I1.hok.fresh (Nat.le_succ _))
 ·exact I1.fpOk (Nat.le_refl _) (I1.hok.fresh (Nat.le_refl _))
end
end Mn
namespace En
open PySem PySem.Builtin
theorem atx{prog:Program}{w:World}{A:Around}{E:Value->Shared->Prop}{s:Shared}{z TI TO:Addr}{f0:Value}{Q:Option Value->Shared->Prop}(hz:IsZip s.heap z TI TO f0)
  (h:wpAny (model prog w) A.in1 (Builtin.«zip.__next__» ⟨[.ref z],[]⟩) (fun fin s'=>∃v,fin=.done (.ret v)/\Q (some v) s') (fun e s'=>∃a o,e=.ref a/\s'.heap.get? a=some o/\o.cls=.type "StopIteration" /\ Q none s') s) :
  wpAny (model prog w) A (pyNext (.ref z)) Q E s:=by
 have tz:s.TypeIs (.ref z) "zip" := ⟨_,hz,rfl⟩;unfold pyNext;refine wpAny_bind (wpAny_attempt (wpAny_callSpecial?_slot (name:=Str.ofString "__next__") tz F.slot_zip_next (wpAny_call_entry F.slot_zip_next tz F.entry_zip_next (wpAny_mono h (fun fin s' ⟨v,e,q⟩=>⟨v,e,wpAny_pure q⟩) fun e s' ⟨a,o,e1,e2,e3,q⟩ =>?_) (F.args_zip_next_1 _))))
 subst e1;exact wpAny_bind (wpAny_isInstance (T := "StopIteration") (b:=true) ⟨o,e2,e3⟩ isSubtype_stop (wpAny_pure q))
end En
namespace Mn
open L2 En
def Itz2(K:Fg9)(k1 k2:Bool)(a1 a2:Addr):It :=
 ⟨fun i H=>∃x1 x2 v1 v2,(SqK k1 K H a1 x1/\x1[i]? = some v1)/\(SqK k2 K H a2 x2/\x2[i]? = some v2),fun i H x H'=>∃q v1 v2,H q=none/\x=.ref q/\H'=upd H q (.tup [v1,v2])/\(∀xs,SqK k1 K H a1 xs->xs[i]? = some v1)/\(∀xs,SqK k2 K H a2 xs->xs[i]? = some v2),fun i H=>∃xs,SqK k1 K H a1 xs/\xs.length=i⟩
theorem anv{P:Program}{w:World}{K:Fg9}{elts:List Expr}{n:Nat}{pos:Pos}(k1 k2:Bool)(a1 a2 z TI TO i1 i2:Addr)(D:Apart2 z TI TO i1 i2 a1 a2) :
  Turn P w K (.Tuple elts n pos) (Itz2 K k1 k2 a1 a2) [z,TI,TO,i1,i2] z (fun i h=>IsZip h z TI TO .none/\Row2 h TI (.ref i1) (.ref i2)/\(∃v1 v2,Row2 h TO v1 v2)/\It1 k1 h i1 a1 i/\It1 k2 h i2 a2 i) where
 mem:=by simp
 obj:=fun i h ⟨hz,hI,⟨v1,v2,hO⟩,h1,h2⟩ b hb=>by
  have hb:b=z∨b=TI∨b=TO∨b=i1∨b=i2:=by simpa using hb
  rcases hb with rfl | rfl | rfl | rfl | rfl
  ·exact⟨_,hz,fun v z=>by cases z⟩
  ·exact⟨_,hI,fun v z=>by cases z⟩
  ·exact⟨_,hO,fun v z=>by cases z⟩
  ·exact h1.got
  ·exact h2.got
 keep:=fun i h h' ⟨hz,hI,⟨v1,v2,hO⟩,h1,h2⟩ kk=>⟨kk z (by simp) _ hz,kk TI (by simp) _ hI,⟨v1,v2,kk TO (by simp) _ hO⟩,h1.at fun o e=>kk i1 (by simp) o e,h2.at fun o e=>kk i2 (by simp) o e⟩
 item:=by
  intro X hP hw hK hc i jv s σ H E I hf st hg;subst hP hw hK;obtain⟨hz,hI,⟨o1,o2,hO⟩,h1,h2⟩:=st;obtain⟨x1,x2,v1,v2,⟨hq1,hx1⟩,⟨hq2,hx2⟩⟩:=hg;obtain⟨t1,r1,s1⟩:=ad7 I hq1;obtain⟨u1,hu1,_⟩:=r1.get hx1;have b1:i < t1.toArray.size:=by simpa using (List.getElem?_eq_some_iff.mp hu1).1
  obtain⟨t2,r2,s2⟩:=ad7 I hq2;obtain⟨u2,hu2,_⟩:=r2.get hx2;have b2:i < t2.toArray.size:=by simpa using (List.getElem?_eq_some_iff.mp hu2).1
  refine atx hz (anl (I.ok.hd hc) D hz hI hO h1 s1 h2 s2 b1 b2 fun g tk y1 y2 p1 p2 z2 O2 j1 j2 T2 hsz hk =>?_)
  refine⟨_,rfl,wpAny_letOwnedTupleGo_zip z2 fun g2 he2 sb =>?_⟩
  have fr:H s.heap.objs.size=none:=I.hok.fresh (Nat.le_refl _);have lt:∀b∈[z,TI,TO,i1,i2],b < s.heap.objs.size:=fun b hb=>by
   have hb:b=z∨b=TI∨b=TO∨b=i1∨b=i2:=by simpa using hb
   rcases hb with rfl | rfl | rfl | rfl | rfl
   ·exact Heap.lt_size hz
   ·exact Heap.lt_size hI
   ·exact Heap.lt_size hO
   ·obtain⟨o,e,_⟩:=h1.got;exact Heap.lt_size e
   ·obtain⟨o,e,_⟩:=h2.got;exact Heap.lt_size e
  have up:∀b o,b∉[z,TI,TO,i1,i2]->s.heap.get? b=some o->g2.get? b=some o:=fun b o hn e=>sb.extBut _ _ (fun x=>hn (by simp[x])) (hk b o (fun x=>hn (by simp[x])) (fun x=>hn (by simp[x])) (fun x=>hn (by simp[x])) (fun x=>hn (by simp[x])) e)
  have TI2:g2.get? TI=_:=sb.extBut _ _ D.nTIz (hk TI _ D.nTIz D.nTOTI.symm D.ni1TI.symm D.ni2TI.symm hI);refine⟨.ref s.heap.objs.size,upd H s.heap.objs.size (.tup [v1,v2]),?_,rfl,⟨_,v1,v2,fr,rfl,rfl,fun ys hy=>by rw[akj I hy hq1];exact hx1,fun ys hy=>by rw[akj I hy hq2];exact hx2⟩,⟨he2,TI2,⟨y1,y2,sb.extBut _ _ D.nTOz O2⟩,(j1.at fun o e=>sb.extBut _ _ D.ni1z e),(j2.at fun o e=>sb.extBut _ _ D.ni2z e)⟩,fun b hb =>?_⟩
  ·exact apd (fp:=[z,TI,TO,i1,i2]) (us:=[y1,y2]) I up hf lt (.cons (aer r1 hx1 p1) (.cons (aer r2 hx2 p2) .nil)) (by rw[sizeLine_eq];simp) (sb.extBut _ _ (Nat.ne_of_gt (lt z (by simp))) T2)
  ·rw[b8 (Nat.ne_of_lt (lt b hb))];exact(hf b hb).1
 done:=by
  intro X hP hw hK hc i jv s σ H E I hf st hg;subst hP hw hK;obtain⟨hz,hI,⟨o1,o2,hO⟩,h1,h2⟩:=st;obtain⟨xs,hq,hx⟩:=hg;obtain⟨its,rv,sq⟩:=ad7 I hq;have hl:i=its.toArray.size:=by have:=rv.length;simp;omega
  subst hl;refine atx hz (aqt (I.ok.hd hc) D hz hI hO h1 sq fun g e kk ⟨o,he,ce⟩=>⟨e,o,rfl,he,ce,rfl,adw (t':=s.toks) (fp:=[z,TI,TO,i1,i2]) I (fun b o hn z=>kk b o (fun z=>hn (by simp[z])) (fun z=>hn (by simp[z])) z) hf⟩)
 self:=fun _ _ _ _ _ st h=>wpAny_pyIter_zip st.1 h
theorem apart2{N l1 l2:Nat}(h1:l1 < N)(h2:l2 < N):Apart2 (N+4) (N+2) (N+3) N (N+1) l1 l2:=by
 constructor <;> (intro e;have e:(_:Nat)=_:=e;omega)
section
variable{X:Cx}
def a3o(K:Fg9)(ta:TA):TI:=fun σ H R=>ta σ H fun vs H1=>∃a1 a2 k1 k2,vs=[.ref a1,.ref a2]/\(∃xs,SqK k1 K H1 a1 xs)/\(∃xs,SqK k2 K H1 a2 xs)/\R (Itz2 K k1 k2 a1 a2) H1
theorem avm{e1 e2:Expr}{ta:TA}{p pos:Pos}{elts:List Expr}{n:Nat}{tp:Pos}(hg:Gl X "zip")(hm:X.mg "zip" = none)(ha:PA X [e1,e2] ta)(hs:starEach [e1,e2] X.env=[(false,eval e1 X.env),(false,eval e2 X.env)]:=by rfl)(hs2:starEach [e2] X.env=[(false,eval e2 X.env)]:=by rfl) :
  PI X (.Tuple elts n tp) (.Call (.Name "zip" p) [e1,e2] [] pos) (a3o X.K ta):=by
 intro jv s σ H R I h;refine Call_ (agb I hg hm a0l (PyProof.Rows.callWith_type1 (thn (ha pos jv s σ H _ I h) fun us s1 ⟨vs,H1,I1,r1,q1⟩ =>?_) (by rw[hs,hs2]) (by rw[hs2];rfl)))
 obtain⟨a1,a2,k1,k2,rfl,⟨x1,hq1⟩,⟨x2,hq2⟩,q⟩:=q1;obtain⟨u1,u2,rfl,ru1,ru2⟩:=vals2 r1;cases ru1;cases ru2;obtain⟨t1,r1',sq1⟩:=ad7 I1 hq1;have b1:a1 < s1.heap.objs.size:=by obtain⟨o,e⟩:=sq1.got;exact Heap.lt_size e
 obtain⟨t2,r2',sq2⟩:=ad7 I1 hq2;have b2:a2 < s1.heap.objs.size:=by obtain⟨o,e⟩:=sq2.got;exact Heap.lt_size e
 refine ap9 sq1 sq2 fun g hz hI hO h1 h2 hsz kk=>wpAny_pyIter_zip hz ?_
 have I2:Inv X jv σ H1 { s1 with heap:=g }:=I1.kept (t':=s1.toks) kk
 refine⟨_,[s1.heap.objs.size+4,s1.heap.objs.size+2,s1.heap.objs.size+3,s1.heap.objs.size,s1.heap.objs.size+1],_,_,H1,rfl,I2,anv k1 k2 a1 a2 _ _ _ _ _ (apart2 b1 b2),⟨hz,hI,⟨_,_,hO⟩,h1,h2⟩,fun c hc =>?_,q⟩
 have hc:s1.heap.objs.size<=c:=by
  simp only[List.mem_cons,List.not_mem_nil,or_false] at hc;rcases hc with rfl | rfl | rfl | rfl | rfl <;> first | exact Nat.le_refl _ | exact Nat.le_add_right _ _
 exact I1.fpOk hc (I1.hok.fresh hc)
end
section
variable{X:Cx}
end
end Mn
namespace Dn
open L2 Mn
section
variable{K:Fg9}{X:Cx}{e a b c:Expr}{es elts:List Expr}{pos p tp:Pos}{n:Nat}
theorem an7{F:Hp}{d:D}{l:List D}{v:V}(e:itemsD d=some l)(h:Is K F d v):∃a k vs,v=.ref a/\IsL K F l vs/\∀H,Same F H->SqK k K H a vs:=by
 cases h with
 | tup e1 h1=>cases e;exact⟨_,true,_,rfl,h1,fun H g=>SqT.of (g _ _ e1)⟩
 | lst e1 h1=>cases e;exact⟨_,false,_,rfl,h1,fun H g=>SqL.of (g _ _ e1)⟩
 | kst e1 h1=>cases e;exact⟨_,false,_,rfl,h1,fun H g=>L2.Same.seq g e1⟩
 | _=>cases e
def aeh(l:List D):List D:=l.mapIdx fun i d=>.tup [.int (i:Nat),d]
def akp:List D->Option (List D)
 | [d]=>(itemsD d).map aeh
 | _=>none
theorem afl(l:List D):(aeh l).length=l.length:=by unfold aeh;simp
theorem ajf{l:List D}{i:Nat}{d:D}(h:(aeh l)[i]? = some d):∃d0,l[i]? = some d0/\d=.tup [.int (i:Nat),d0]:=by
 unfold aeh at h;rw[List.getElem?_mapIdx] at h;cases e:l[i]? with
 | none=>rw[e] at h;cases h
 | some d0=>rw[e] at h;cases h;exact⟨d0,rfl,rfl⟩
theorem ase{F:Hp}{k:Bool}{a:Addr}{l:List D}{vs:List V}(il:IsL K F l vs)(hs:∀H,Same F H->SqK k K H a vs):ItD K (Ite K k a) (aeh l) F where
 go:=fun i H s hi=>by
  have hi:i < vs.length:=by rw[<-il.length,<-afl];exact hi
  exact⟨vs,_,hs H s,List.getElem?_eq_getElem hi⟩
 yld:=fun i H x H' d s y hd=>by
  obtain⟨d0,h0,rfl⟩:=ajf hd;obtain⟨q,v,hq,rfl,rfl,hv⟩:=y;obtain⟨v',e1,i1⟩:=il.get h0;have:=hv _ (hs H s);rw[e1] at this;cases this;exact .inr ⟨q,_,_,hq,rfl,rfl,rfl,.cons (.int _) (.cons i1 .nil)⟩
 stop:=fun H s=>⟨vs,hs H s,by rw[afl,il.length]⟩
theorem ahm{m:M (List D)}(hg:Gl X "enumerate")(hm:X.mg "enumerate" = none)(h:ED K X [a] m)(hs:starEach [a] X.env=[(false,eval a X.env)]:=by rfl):IT K X (.Tuple elts n tp) (.Call (.Name "enumerate" p) [a] [] pos) (mGet akp m):=IT.mk fun hk=>by
 intro jv s σ H R I z9;obtain⟨tg,F,ρ,l,ρ',G,em,q⟩:=z9;obtain⟨ds,ρ1,e1,em⟩:=aq em;obtain⟨e2,rfl⟩:=gk em;have h:=h hk;subst hk;refine avn hg hm h hs jv s σ H R I ⟨tg,F,ρ,ds,_,G,e1,fun vs H' F' G' x r =>?_⟩
 match ds,e2 with
 | [d],e2 =>
  have e2:(itemsD d).map aeh=some l:=e2;cases e3:itemsD d with
  | none=>rw[e3] at e2;cases e2
  | some l0 =>
   rw[e3] at e2;cases e2;cases r with
   | cons h1 t =>
    cases t;obtain⟨b,k,ws,rfl,il,hq⟩:=an7 e3 h1;exact⟨b,k,rfl,⟨ws,hq _ G'.sub⟩,q _ H' F' G' x (ase il hq)⟩
def aep(l1 l2:List D):List D:=List.zipWith (fun x y=>.tup [x,y]) l1 l2
def awk:List D->Option (List D)
 | [a,b]=>(itemsD a).bind fun l1=>(itemsD b).bind fun l2=>if l1.length<=l2.length then some (aep l1 l2) else none
 | _=>none
theorem anm{l1 l2:List D}{i:Nat}{d:D}(h:(aep l1 l2)[i]? = some d):∃d1 d2,l1[i]? = some d1/\l2[i]? = some d2/\d=.tup [d1,d2]:=by
 unfold aep at h;rw[List.getElem?_zipWith] at h;cases e1:l1[i]? with
 | none=>rw[e1] at h;cases h
 | some d1 =>
  cases e2:l2[i]? with
  | none=>rw[e1,e2] at h;cases h
  | some d2=>rw[e1,e2] at h;cases h;exact⟨_,_,rfl,rfl,rfl⟩
theorem asd{F:Hp}{k1 k2:Bool}{a1 a2:Addr}{l1 l2:List D}{x1 x2:List V}(h:l1.length<=l2.length)(i1:IsL K F l1 x1)(i2:IsL K F l2 x2)(s1:∀H,Same F H->SqK k1 K H a1 x1)(s2:∀H,Same F H->SqK k2 K H a2 x2):ItD K (Itz2 K k1 k2 a1 a2) (aep l1 l2) F where
 go:=fun i H s hi=>by
  have z1:=i1.length;have z2:=i2.length;have hi:i < l1.length:=by unfold aep at hi;simp at hi;omega
  exact⟨x1,x2,_,_,⟨s1 H s,List.getElem?_eq_getElem (by omega)⟩,s2 H s,List.getElem?_eq_getElem (by omega)⟩
 yld:=fun i H x H' d s y hd=>by
  obtain⟨d1,d2,h1,h2,rfl⟩:=anm hd;obtain⟨q,v1,v2,hq,rfl,rfl,y1,y2⟩:=y;obtain⟨w1,e1,j1⟩:=i1.get h1;obtain⟨w2,e2,j2⟩:=i2.get h2;have z1:=y1 _ (s1 H s);have z2:=y2 _ (s2 H s);rw[e1] at z1;rw[e2] at z2;cases z1;cases z2;exact .inr ⟨q,_,_,hq,rfl,rfl,rfl,.cons j1 (.cons j2 .nil)⟩
 stop:=fun H s=>⟨x1,s1 H s,by unfold aep;rw[List.length_zipWith,<-i1.length];omega⟩
theorem awf{m:M (List D)}(hg:Gl X "zip")(hm:X.mg "zip" = none)(h:ED K X [a,b] m)(hs:starEach [a,b] X.env=[(false,eval a X.env),(false,eval b X.env)]:=by rfl)(hs2:starEach [b] X.env=[(false,eval b X.env)]:=by rfl) :
  IT K X (.Tuple elts n tp) (.Call (.Name "zip" p) [a,b] [] pos) (mGet awk m):=IT.mk fun hk=>by
 intro jv s σ H R I z9;obtain⟨tg,F,ρ,l,ρ',G,em,q⟩:=z9;obtain⟨ds,ρ1,e1,em⟩:=aq em;obtain⟨e2,rfl⟩:=gk em;have h:=h hk;subst hk;refine avm hg hm h hs hs2 jv s σ H R I ⟨tg,F,ρ,ds,_,G,e1,fun vs H' F' G' x r =>?_⟩
 match ds,e2 with
 | [d,d'],e2 =>
  have e2:((itemsD d).bind fun l1=>(itemsD d').bind fun l2=>if l1.length<=l2.length then some (aep l1 l2) else none)=some l:=e2
  cases e3:itemsD d with
  | none=>rw[e3] at e2;cases e2
  | some l1 =>
   cases e4:itemsD d' with
   | none=>rw[e3,e4] at e2;cases e2
   | some l2 =>
    rw[e3,e4] at e2;have e2:(if l1.length<=l2.length then some (aep l1 l2) else none)=some l:=e2
    split at e2
    ·rename_i hle;cases e2;cases r with
     | cons h1 t =>
      cases t with
      | cons h2 t =>
       cases t;obtain⟨b1,k1,w1,rfl,il1,hq1⟩:=an7 e3 h1;obtain⟨b2,k2,w2,rfl,il2,hq2⟩:=an7 e4 h2;exact⟨b1,b2,k1,k2,rfl,⟨w1,hq1 _ G'.sub⟩,⟨w2,hq2 _ G'.sub⟩,q _ H' F' G' x (asd hle il1 il2 hq1 hq2)⟩
    ·cases e2
end
end Dn
namespace Mn
open L2
section
variable{prog:Program}{w:World}{A:Around}{E:Value->Shared->Prop}{s:Shared}
theorem anh(n:Nat):Builtin.Slice.sliceAdjust none none (-1) (n:Int)=((n:Int) - 1,-1):=rfl
theorem amv(n:Nat):Builtin.Slice.slicePlaces ((n:Int) - 1) (-1) (-1)=n:=by
 unfold Builtin.Slice.slicePlaces;have h1:¬((-1:Int) > 0):=by omega
 have h2:(- -1:Int)=1:=by decide
 simp only[h1,if_false,h2,Int.ediv_one];split <;> omega
theorem al5{α β:Type}{f g:α->Option β}:∀l:List α,(∀x∈l,f x=g x)->l.filterMap f=l.filterMap g
 | [],_=>rfl
 | x::r,h=>by rw[List.filterMap_cons,List.filterMap_cons,h x (List.mem_cons_self ..),al5 r fun y hy=>h y (List.mem_cons_of_mem _ hy)]
theorem alf(xs:Array Value):((List.range xs.size).filterMap fun(m:Nat)=>xs[(((xs.size:Int) - 1)+(m:Int)*(-1)).toNat]?).toArray=xs.toList.reverse.toArray:=by
 congr 1
 have e:(List.range xs.size).filterMap (fun(m:Nat)=>xs[(((xs.size:Int) - 1)+(m:Int)*(-1)).toNat]?)=(List.range xs.size).filterMap (fun m=>xs.toList.reverse[m]?):=by
  refine al5 _ fun m hm =>?_
  have hm':m < xs.size:=List.mem_range.mp hm;have e2:(((xs.size:Int) - 1)+(m:Int)*(-1)).toNat=xs.size - 1 - m:=by omega
  rw[e2,List.getElem?_reverse (by simpa using hm')]
  simp
 rw[e];have key:∀l:List Value,(List.range l.length).filterMap (fun m=>l[m]?)=l:=by
  intro l
  induction l with
  | nil=>rfl
  | cons x r ih =>
   rw[List.length_cons,List.range_succ_eq_map,List.filterMap_cons];simp only[List.getElem?_cons_zero,List.filterMap_map]
   congr 1
 have:=key xs.toList.reverse
 simpa using this
theorem adx{t sl:Addr}{items:Array Value}{u:Tok}{Q:Value->Shared->Prop}(ht:IsTup s.heap t items)(hs:s.heap.IsSliceOf sl .none .none (.int (-1) u))
  (h:Q (.ref s.heap.objs.size) { s with heap:=s.heap.push { cls:=.type "tuple", data:=.seq items.toList.reverse.toArray } })
  (hsz:items.size<=sizeLine):wpAny (model prog w) A (getItem (.ref t) (.ref sl)) Q E s:=by
 have htake:sizeOk (.seq items.toList.reverse.toArray):=by
  show items.toList.reverse.toArray.size<=sizeLine
  simpa using hsz
 obtain⟨os,hos,hcs,hds⟩:=id hs;have hTs:s.TypeIs (.ref sl) "slice" := ⟨os,hos,hcs⟩;unfold getItem
 try with_reducible refine wpAny_holding ?_
 first | refine wpAny_bind (wpAny_pure ?_) | skip
 refine wpAny_bind (wpAny_sequenceKey ht.typeIs (by decide) ?_)
 refine wpAny_bind (wpAny_callSpecial?_slot (name:=Str.ofString "__getitem__") ht.typeIs PyProof.Rows.slot_tuple_getitem
  (wpAny_call_entry PyProof.Rows.slot_tuple_getitem ht.typeIs entry_tuple_getitem ?_ (args_tuple_getitem _ _)))
 show wpAny _ _ (Builtin.Tuple.tupleItemsOf (.ref t) >>= _) _ _ s;refine wpAny_bind (tupleItemsOf_ ht ?_);refine wpAny_bind (wpAny_typeOf hTs ?_);rw[if_pos (by decide)]
 have happ:∀{Q:Int×Int×Nat->Shared->Prop} {E:Value->Shared->Prop} {A:Around},Q ((items.size:Int) - 1,-1,items.size) s->wpAny (model prog w) A (Builtin.Slice.sliceApplied (.ref sl) (pure (items.size:Int))) Q E s:=by
  intro Q E A h;unfold Builtin.Slice.sliceApplied Builtin.Slice.sliceFields;refine wpAny_bind (wpAny_bind (wpAny_field hos hds (x:=.none) rfl (wpAny_bind (wpAny_field hos hds (x:=.none) rfl (wpAny_bind (wpAny_field hos hds (x:=.int (-1) u) rfl (wpAny_pure ?_)))))));refine wpAny_bind (slicePart_int ?_);show wpAny _ _ (if ((-1:Int)==0)=true then _ else _) _ _ s
  rw[if_neg (by decide)]
  refine wpAny_bind (slicePart_none (wpAny_bind (slicePart_none (wpAny_bind (wpAny_pure ?_)))));show wpAny _ _ (match Builtin.Slice.sliceAdjust none none (-1) (items.size:Int) with | (lo,hi)=>pure (lo,(-1:Int),Builtin.Slice.slicePlaces lo hi (-1))) _ _ s
  rw[anh];show wpAny _ _ (pure ((items.size:Int) - 1,(-1:Int),Builtin.Slice.slicePlaces ((items.size:Int) - 1) (-1) (-1))) _ _ s;rw[amv];exact wpAny_pure h
 refine wpAny_bind (happ ?_);have hno:¬((((items.size:Int) - 1)==0&&(-1:Int)==1&&items.size==items.size)=true):=by
  intro q;rw[Bool.and_eq_true,Bool.and_eq_true] at q;exact absurd q.1.2 (by decide)
 show wpAny _ _ (if (((items.size:Int) - 1)==0&&(-1:Int)==1&&items.size==items.size)=true then _ else _) _ _ s
 rw[if_neg hno,alf]
 first
  | exact wpAny_bind (m:=Builtin.Tuple.tupleExact _) (wpAny_newObj_type (wpAny_pure ⟨_,rfl,wpAny_pure h⟩) htake)
  | exact wpAny_bind (m:=Builtin.Tuple.tupleExact _) (wpAny_newObj_type (wpAny_bind (wpAny_pure (wpAny_pure ⟨_,rfl,wpAny_pure h⟩))) htake)
  | exact wpAny_bind (wpAny_bind (m:=Builtin.Tuple.tupleExact _) (wpAny_newObj_type (wpAny_pure (wpAny_pure ⟨_,rfl,wpAny_pure h⟩)) htake))
  | exact wpAny_bind (wpAny_bind (m:=Builtin.Tuple.tupleExact _) (wpAny_newObj_type (wpAny_pure ⟨_,rfl,wpAny_pure h⟩) htake))
end
section
variable{X:Cx}{e:Expr}{te:TE}{pos p2 p3:Pos}{st:Expr}{ts:TE}
def tRev(K:Fg9)(te ts:TE):TE:=fun σ H Q=>te σ H fun x H1=>ts σ H1 fun k H2=>k=.int (-1)/\∃a xs,x=.ref a/\SqT K H2 a xs/\∀p,H2 p=none->Q (.ref p) (upd H2 p (.tup xs.reverse))
theorem Vals.rev{xs:List V}{us:List Value}(h:Vals xs us):Vals xs.reverse us.reverse:=by
 induction h with
 | nil=>exact .nil
 | cons h1 h2 ih =>
  rw[List.reverse_cons,List.reverse_cons];exact ih.append (.cons h1 .nil)
theorem aym(he:PE X e te)(hs:PE X st ts):PE X (.Subscript e (.Slice none none (some st) p2) pos) (tRev X.K te ts):=by
 intro jv s σ H Q I h;refine Subscript_ (thn (he jv s σ H _ I h) fun v s1 ⟨x,H1,I1,r1,q1⟩ =>?_)
 refine wpAny_Slice ?_;rw[evalPart_none];refine wpAny_pure (wpAny_pure ?_);rw[evalPart_some];refine thn (hs jv s1 σ H1 _ I1 q1) fun k s2 z9 =>?_
 obtain⟨y,H2,I2,r2,q2⟩:=z9;obtain⟨rfl,a,xs,rfl,hx,q⟩:=q2;obtain⟨t,rfl⟩:=r2;cases r1;have I4:Inv X jv σ H2 { s2 with heap:=s2.heap.push { cls:=.type "slice", data:=.fields #[.none,.none,.int (-1) t] } }:=I2.kept (t':=s2.toks) fun b ob q=>Heap.get?_push_of_some _ q
 obtain⟨its,r,ht,hz⟩:=I4.tuple hx;have hlen:its.toArray.size=xs.length:=by rw[List.size_toArray];exact r.length.symm
 show wpAny (model X.prog X.w) X.A (subscriptTail e (.Slice none none (some st) p2) (.ref a) (.ref s2.heap.objs.size)) (EP X jv σ Q) X.xe { s2 with heap:=s2.heap.push { cls:=.type "slice", data:=.fields #[.none,.none,.int (-1) t] } }
 have hg:wpAny (model X.prog X.w) X.A (getItem (.ref a) (.ref s2.heap.objs.size)) (EP X jv σ Q) X.xe { s2 with heap:=s2.heap.push { cls:=.type "slice", data:=.fields #[.none,.none,.int (-1) t] } }:=by
  refine adx ht (Heap.IsSliceOf.new ..) ?_ (by rw[hlen];exact hz)
  refine⟨.ref _,_,I4.laid (t':=s2.toks) (o:=.tup xs.reverse) (fun b ob q=>Heap.get?_push_of_some _ q) (Nat.le_refl _) ?_,rfl,q _ (I4.hok.fresh (Nat.le_refl _))⟩
  exact⟨by rw[List.length_reverse];exact hz,_,Vals.rev r,IsTp.new _ _⟩
 exact tail_any (ops:=[.ref a,.ref s2.heap.objs.size]) ht.typeIs PyProof.Rows.slot_tuple_getitem.lookup hg (by with_unfolding_all rfl)
end
end Mn
namespace Dn
open L2 Mn
section
variable{K:Fg9}{X:Cx}{a st:Expr}{pos p p2 pos2:Pos}
def gRev:D->D->Option Rv
 | .tup l,.int k=>if k = -1 then some (.v (.tup l.reverse)) else none
 | _,_=>none
@[simp] theorem a1c(l:List D):gRev (.tup l) (.int (-1))=some (.v (.tup l.reverse)):=rfl
theorem IsL.rev{F:Hp}:∀{ds:List D} {vs:List V},IsL K F ds vs->IsL K F ds.reverse vs.reverse
 | _,_,.nil=>.nil
 | _,_,.cons h t=>by
  rw[List.reverse_cons,List.reverse_cons];exact(IsL.rev t).append (.cons h .nil)
end
end Dn
namespace Mn
open L2
section
variable{prog:Program}{w:World}{A:Around}{E:Value->Shared->Prop}{s:Shared}
theorem amr{l:Addr}{vs:List Value}{ns:List Int}{Q:Value->Shared->Prop}(hl:IsTup s.heap l vs.toArray)(hI:IntsAre vs ns)(h64:vs.length < 64)
  (h:∀(h1 h':Heap) (out:Array Value) (ns':List Int) (e:Nat),(∀b o,s.heap.get? b=some o->h1.get? b=some o)->(∀b o,h1.get? b=some o->h'.get? b=some o)->h'.get? h1.objs.size=some (seqObj "list" out e)->IntsAre out.toList ns'->ns'.Perm ns->ns'.Pairwise (· <= ·)->Q (.ref h1.objs.size) { s with heap:=h' }) :
  wpAny (model prog w) A (call (.builtin "sorted") [.ref l]) Q E s:=by
 obtain⟨o,ho,hc,n,hd⟩:=id hl;refine Calls.call_function_entry kind_sorted plain_sorted entry_sorted (args_sorted1 _) ?_;unfold Builtin.«sorted»
 refine wpAny_bind (m:=checkCount "sorted" 1 1 _) (wpAny_pure ?_);refine wpAny_bind (wpAny_collect_seq l (.inr rfl) ho hc hd (fun h1 k1 =>?_) (by rw[List.size_toArray,sizeLine_eq];omega))
 refine wpAny_bind (wpAny_newList ?_);have hoL:(h1.push (seqObj "list" vs.toArray 0)).get? h1.objs.size=some (seqObj "list" vs.toArray 0):=Heap.get?_push_size _ rfl;show wpAny _ _ _ _ _ { s with heap:=h1.push (seqObj "list" vs.toArray 0) }
 refine wpAny_bind (wpAny_holding (wpAny_call_entry slot_list_sort ⟨_,hoL,rfl⟩ entry_list_sort (list_sort_tree hoL hI h64 fun out ns' a1 a2 a3=>⟨_,rfl,?_⟩) (args_list_sort _)))
 obtain⟨e,he⟩:=sortedHeap_at (out:=out) hoL;exact wpAny_pure ⟨_,rfl,h h1 _ out ns' e k1 (fun b ob q=>by
  have hlt:b < h1.objs.size:=Heap.lt_size q;rw[sortedHeap_old (Nat.ne_of_lt hlt) (by rw[size_push'];exact Nat.lt_succ_of_lt hlt)]
  exact Heap.get?_push_of_some _ q) he a1 a2 a3⟩
end
end Mn
namespace Dn
open L2 Mn
section
variable{K:Fg9}{X:Cx}
def abi:D->Option Rv
 | .tup l=>(mj l).bind fun ns=>if ns.length < 64 then some (.fr ((sortI ns).map D.int)) else none
 | d=>ahs d
@[simp] theorem at7(l:List D):abi (.lst l)=ahs (.lst l):=rfl
theorem anb:CallD K X (.builtin "sorted") (g1 fun d=>match d with | .tup l=>(mj l).bind fun ns=>if ns.length < 64 then some (.fr ((sortI ns).map D.int)) else none | _=>none):=uv fun hk jv s σ0 H x u Q tg F ρ σ d r I ru G bd eg q=>by
 subst hk;cases d with
 | tup l =>
  have eg:(mj l).bind (fun ns=>if ns.length < 64 then some (Rv.fr ((sortI ns).map D.int)) else none)=some r:=eg
  cases e:mj l with
  | none=>rw[e] at eg;cases eg
  | some ns =>
   rw[e] at eg;have eg:(if ns.length < 64 then some (Rv.fr ((sortI ns).map D.int)) else none)=some r:=eg
   split at eg
   ·rename_i h64;cases eg;obtain⟨a,vs,rfl,ea,hl⟩:=bd.tup;rw[za e] at hl;rw[hl.int_inv] at ea;cases ru;obtain⟨its,rv,pl,_⟩:=I.tuple (SqT.of (G.sub _ _ ea));have hlen:=rv.length;rw[List.length_map] at hlen;refine amr pl (intsAre_of rv) (by omega) fun h1 h' out ns' ep k1 k2 eo i1 hp hs =>?_
    have e':=ala hp hs;subst e';have I1:=I.kept (h':=h1) (t':=s.toks) k1;have hn:H h1.objs.size=none:=I1.hok.fresh (Nat.le_refl _);refine⟨.ref h1.objs.size,upd H h1.objs.size (.lst ((sortI ns).map V.int)),?_,rfl,Res.lst G q (ac1 _) hn⟩;refine I1.laid (t':=s.toks) k2 (Nat.le_refl _) ?_;refine⟨?_,out.toList,ep,aal i1,by simpa using eo⟩
    rw[List.length_map,(sortI_perm ns).length_eq];exact Nat.le_of_lt (aan (by omega))
   ·cases eg
 | _=>cases eg
theorem agm:CallD K X (.builtin "sorted") (g1 abi):=uv fun hk jv s σ0 H x u Q tg F ρ σ d r I ru G bd eg q=>by
 cases d with
 | tup l=>exact anb.go hk jv s σ0 H [x] [u] Q I (.cons ru .nil) ⟨tg,F,ρ,σ,[.tup l],r,G,.cons bd .nil,eg,q⟩
 | lst l=>exact ap6.go hk jv s σ0 H [x] [u] Q I (.cons ru .nil) ⟨tg,F,ρ,σ,[.lst l],r,G,.cons bd .nil,eg,q⟩
 | _=>cases eg
end
section
variable{K:Fg9}{X:Cx}
end
end Dn
namespace Mn
open L2
theorem agu(its:List Value):slicePick its.toArray none none (some (-1))=its.reverse.toArray:=by
 have h1:sliceBounds none none (some (-1)) its.toArray.size=((its.toArray.size:Int) - 1,-1,-1):=rfl;unfold slicePick;rw[h1];dsimp only;have h2:sliceRange ((its.toArray.size:Int) - 1) (-1) (-1)=(List.range its.toArray.size).map fun(k:Nat)=>((its.toArray.size:Int) - 1+(k:Int)*(-1)).toNat:=by
  unfold sliceRange;have hc:(if (-1:Int) > 0 then (if ((its.toArray.size:Int) - 1) < -1 then (-1 - ((its.toArray.size:Int) - 1) + -1 - 1) / -1 else 0) else (if ((its.toArray.size:Int) - 1) > -1 then (((its.toArray.size:Int) - 1) - -1 - -1 - 1) / (- -1) else 0)).toNat=its.toArray.size:=by
   have h0:¬((-1:Int) > 0):=by decide
   have e:(- -1:Int)=1:=by decide
   simp only[h0,if_false,e,Int.ediv_one];split <;> omega
  dsimp only;rw[hc];apply List.map_congr_left;intro k _
  congr 1
  omega
 rw[h2,List.filterMap_map];have:=alf its.toArray
 simpa[Function.comp_def] using this
section
variable{X:Cx}{e:Expr}{te:TE}{pos p2 p3:Pos}{st:Expr}{ts:TE}
def a1z(K:Fg9)(te ts:TE):TE:=fun σ H Q=>te σ H fun x H1=>ts σ H1 fun k H2=>k=.int (-1)/\∃a xs,x=.ref a/\SqL K H2 a xs/\∀p,H2 p=none->Q (.ref p) (upd H2 p (.lst xs.reverse))
theorem avq(he:PE X e te)(hs:PE X st ts):PE X (.Subscript e (.Slice none none (some st) p2) pos) (a1z X.K te ts):=by
 intro jv s σ H Q I h;refine Subscript_ (thn (he jv s σ H _ I h) fun v s1 ⟨x,H1,I1,r1,q1⟩ =>?_)
 refine wpAny_Slice ?_;rw[evalPart_none];refine wpAny_pure (wpAny_pure ?_);rw[evalPart_some];refine thn (hs jv s1 σ H1 _ I1 q1) fun k s2 z9 =>?_
 obtain⟨y,H2,I2,r2,q2⟩:=z9;obtain⟨rfl,a,xs,rfl,hx,q⟩:=q2;obtain⟨t,rfl⟩:=r2;cases r1;have I4:Inv X jv σ H2 { s2 with heap:=s2.heap.push { cls:=.type "slice", data:=.fields #[.none,.none,.int (-1) t] } }:=I2.kept (t':=s2.toks) fun b ob q=>Heap.get?_push_of_some _ q
 obtain⟨its,r,ht,hz⟩:=I4.list hx;have hlen:=r.length;show wpAny (model X.prog X.w) X.A (subscriptTail e (.Slice none none (some st) p2) (.ref a) (.ref s2.heap.objs.size)) (EP X jv σ Q) X.xe { s2 with heap:=s2.heap.push { cls:=.type "slice", data:=.fields #[.none,.none,.int (-1) t] } }
 have hg:wpAny (model X.prog X.w) X.A (getItem (.ref a) (.ref s2.heap.objs.size)) (EP X jv σ Q) X.xe { s2 with heap:=s2.heap.push { cls:=.type "slice", data:=.fields #[.none,.none,.int (-1) t] } }:=by
  refine wpAny_getItem_list_slice ht.isList (Heap.IsSliceOf.new ..) .none .none (.int (-1) t) (by simp) ?_ (by rw[List.size_toArray] <;> omega)
  rw[agu];refine⟨.ref _,_,I4.laid (t':=s2.toks) (o:=.lst xs.reverse) (fun b ob q=>Heap.get?_push_of_some _ q) (Nat.le_refl _) ?_,rfl,q _ (I4.hok.fresh (Nat.le_refl _))⟩
  exact⟨by rw[List.length_reverse];exact hz,_,0,Mn.Vals.rev r,Heap.get?_push_size _ rfl⟩
 exact tail_any (ops:=[.ref a,.ref s2.heap.objs.size]) ht.isList.typeIs slot_list_getitem.lookup hg (by with_unfolding_all rfl)
end
end Mn
namespace Dn
open L2 Mn
section
variable{K:Fg9}{X:Cx}{a st:Expr}{pos p p2 pos2:Pos}
def asm:D->D->Option Rv
 | .lst l,.int k=>if k = -1 then some (.fr l.reverse) else none
 | d,k=>gRev d k
@[simp] theorem az7(l:List D):asm (.lst l) (.int (-1))=some (.fr l.reverse):=rfl
@[simp] theorem az6(l:List D):asm (.tup l) (.int (-1))=some (.v (.tup l.reverse)):=rfl
def awa(m ms:M D):M Rv:=m.bind fun d=>ms.bind fun k=>lift (asm d k)
@[simp] theorem a00(ρ:Ro)(m ms:M D):awa m ms ρ=(m.bind fun d=>ms.bind fun k=>lift (asm d k)) ρ:=rfl
theorem aw0{m ms:M D}(h:EV K X a m)(hs:EV K X st ms):ER K X (.Subscript a (.Slice none none (some st) p2) pos) (awa m ms):=ER.mk fun hk=>by
 subst hk;have p1:=aym (pos:=pos) (p2:=p2) (h rfl) (hs rfl);have p2':=avq (pos:=pos) (p2:=p2) (h rfl) (hs rfl);intro jv s σ H Q I z9;obtain⟨tg,F,ρ,r,ρ',G,em,q⟩:=z9;obtain⟨d,ρ1,e1,em⟩:=aq em;obtain⟨k,ρ2,e2,em⟩:=aq em;obtain⟨e4,rfl⟩:=gk em;cases d with
 | tup l =>
  refine p1 jv s σ H Q I ⟨tg,F,ρ,.tup l,ρ1,G,e1,fun v H1 F1 G1 x1 r1=>⟨tg,F1,ρ1,k,_,G1,e2,fun v2 H2 F2 G2 x2 r2 =>?_⟩⟩
  have e4:gRev (.tup l) k=some r:=e4;unfold gRev at e4;split at e4
  ·split at e4
   ·rename_i l' j ez _ hj;cases ez;subst hj;cases e4;cases r2;refine⟨rfl,?_⟩;cases r1.mono x2.sub with
    | tup ea hl =>
     exact⟨_,_,rfl,SqT.of (G2.sub _ _ ea),fun p hp=>Res.tup G2 (fun v' H4 F4 G4 x4 rr=>q v' H4 F4 G4 ((x1.trans x2).trans x4) (kh (x1.trans x2) rr)) hl.rev hp⟩
   ·cases e4
  ·cases e4
 | lst l =>
  refine p2' jv s σ H Q I ⟨tg,F,ρ,.lst l,ρ1,G,e1,fun v H1 F1 G1 x1 r1=>⟨tg,F1,ρ1,k,_,G1,e2,fun v2 H2 F2 G2 x2 r2 =>?_⟩⟩
  cases k with
  | int j =>
   have e4:(if j = -1 then some (Rv.fr l.reverse) else none)=some r:=e4
   split at e4
   ·rename_i hj;subst hj;cases e4;cases r2;refine⟨rfl,?_⟩;cases r1.mono x2.sub with
    | lst ea hl =>
     exact⟨_,_,rfl,SqL.of (G2.sub _ _ ea),fun p hp=>Res.lst G2 (fun v' H4 F4 G4 x4 rr=>q v' H4 F4 G4 ((x1.trans x2).trans x4) (kh (x1.trans x2) rr)) hl.rev hp⟩
   ·cases e4
  | _=>cases e4
 | _=>cases e4
end
end Dn
namespace Mn
open PySem
end Mn
namespace L2
section
variable{M:Model}{A:Around}{E:Value->Shared->Prop}{s:Shared}
structure KeptBut (fs ch:List Addr) (h h':Heap):Prop where
 keep:∀b o,b∉ch->b∉fs->h.get? b=some o->h'.get? b=some o
 slot:∀b o,b∉ch->h.get? b=some o->∃sl,h'.get? b=some { o with slots:=sl }
theorem KeptBut.trans{fs ch:List Addr}{h h1 h2:Heap}(a:KeptBut fs ch h h1)(b:KeptBut fs ch h1 h2):KeptBut fs ch h h2 :=
 ⟨fun c o n1 n2 e=>b.keep c o n1 n2 (a.keep c o n1 n2 e),fun c o n e=>let ⟨_,e1⟩:=a.slot c o n e;let ⟨sl,e2⟩:=b.slot c _ n e1;⟨sl,e2⟩⟩
theorem KeptBut.sub{fs ch ch':List Addr}{h h':Heap}(a:KeptBut fs ch h h')(q:∀b∈ch,b∈ch'):KeptBut fs ch' h h' :=
 ⟨fun c o n1 n2 e=>a.keep c o (fun z=>n1 (q c z)) n2 e,fun c o n e=>a.slot c o (fun z=>n (q c z)) e⟩
theorem KeptBut.upd{fs:List Addr}{h:Heap}{a:Addr}{f:Obj->Obj}:KeptBut fs [a] h (h.update a f) :=
 ⟨fun b o n _ e=>by rw[Heap.get?_update_other _ _ (fun z=>n (by simp[z]))];exact e,fun b o n e=>⟨o.slots,by rw[Heap.get?_update_other _ _ (fun z=>n (by simp[z]))];exact e⟩⟩
theorem aiz{base:Heap}{env:Env}{outer:List Env}{L e:Addr}{oe:Obj}{vs:Array Value}{head:Value}{hadNext:Bool}{Q:Unit->Shared->Prop}
  (hfr:A.frames=some (env::outer)) (hl:s.heap.FunFrames base (env::outer)) (hf:env.frame=some L) (he:s.heap.get? e=some oe) (hd:oe.data=.fields vs) (hsz:1 < vs.size)
  (h:∀h' T ts,s.heap.objs.size<=T->KeptBut (frs (env::outer)) [e] s.heap h'->h'.get? e=some (oe.mapFields (·.setIfInBounds 1 (.ref T)))->h'.get? T=some { cls:=.type "traceback", dict:=none,data:=.fields ts }->ts[3]? = some (rawInt L)->Q () { s with heap:=h' }) :
  wpAny M A (do let a <-frameOf env;let pl <-entryPlaceOf L hadNext;let b <-EntryCells.newEntry head a .none (rawInt L) .none pl;setField (.ref e) 1 b) Q E s:=by
 have hene:e∉frs (env::outer):=fun hm=>by
  obtain⟨_,o,ho,hnf⟩:=hl.mem hm;rw[he] at ho;injection ho with ho;subst ho;exact hnf vs hd
 refine wpAny_bind (wpAny_frameOf_fun hfr hl hf fun h₁ hs₁ =>?_)
 refine wpAny_bind (wpAny_entryPlaceOf fun pl hpl =>?_)
 unfold EntryCells.newEntry newFields;refine wpAny_bind (wpAny_newObj_type ?_ (hpl.sizeOk5 _ _ _ _ _));have he₁:h₁.get? e=some oe:=(hs₁.2.1 e hene).trans he;have he₂:=Heap.get?_push_of_some (h:=h₁) { cls:=.type "traceback", dict:=none,data:=.fields ([head,.ref L,.none,rawInt L,.none]++(if pl.isEmpty then List.replicate 6 Value.none else pl)).toArray } he₁
 refine wpAny_setField he₂ hd hsz (h _ h₁.objs.size ([head,.ref L,.none,rawInt L,.none]++(if pl.isEmpty then List.replicate 6 Value.none else pl)).toArray ?_ ?_ ?_ ?_ ?_)
 ·exact Nat.le_of_eq hs₁.1.symm
 ·have keep:∀b o,b≠e->h₁.get? b=some o->((h₁.push { cls:=.type "traceback", dict:=none,data:=.fields ([head,.ref L,.none,rawInt L,.none]++(if pl.isEmpty then List.replicate 6 Value.none else pl)).toArray }).update e (Obj.mapFields (·.setIfInBounds 1 (Value.ref h₁.objs.size)))).get? b=some o:=fun b o hbe hb=>by
   rw[Heap.get?_update_other _ _ (Ne.symm hbe)];exact Heap.get?_push_of_some _ hb
  refine⟨fun b o n1 n2 hb=>keep b o (fun z=>n1 (by simp[z])) ((hs₁.2.1 b n2).trans hb),fun b o n hb =>?_⟩
  obtain⟨sl,q⟩:=hs₁.2.2 b o hb;exact⟨sl,keep b _ (fun z=>n (by simp[z])) q⟩
 ·exact Heap.get?_update_self _ he₂ (Obj.isFreed_of_fields (Obj.data_mapFields hd _))
 ·rw[Heap.get?_update_other _ _ (Ne.symm (Nat.ne_of_gt (Heap.lt_size he₁)))];exact Heap.get?_push_size h₁ rfl
 ·rcases hpl with rfl | ⟨_,_,_,_,_,_,_,rfl⟩ <;> simp
end
structure FlyAt (h:Heap) (a:Addr) (C:Addr) (dx:Option Addr) (ch:List Addr) (L:Addr):Prop where
 obj:∃oe vs,h.get? a=some oe/\oe.cls=.ref C/\oe.dict=dx/\oe.data=.fields vs/\1 < vs.size /\
  ((vs[1]? = some .none/\ch=[a])∨∃T oT ts fl,ch=[a,T]/\vs[1]? = some (.ref T)/\T≠a/\h.get? T=some oT/\oT.data=.fields ts/\ts[3]? = some fl/\(fl=.none∨fl=rawInt L))
theorem FlyAt.fresh{h:Heap}{a C L:Addr}{dx:Option Addr}{ch:List Addr}(x:FlyAt h a C dx ch L):a∈ch:=by
 obtain⟨oe,vs,_,_,_,_,_,⟨_,e⟩ | ⟨T,_,_,_,e,_⟩⟩:=x.obj <;> simp[e]
section
variable{M:Model}{A:Around}{E:Value->Shared->Prop}{s:Shared}
theorem abt(o:Obj)(f):(o.mapFields f).dict=o.dict:=by
 obtain⟨c,d,dt,sl⟩:=o;cases dt <;> rfl
theorem ay6{base:Heap}{env:Env}{outer:List Env}{L a C:Addr}{dx:Option Addr}{ch:List Addr}{Q:Unit->Shared->Prop}
  (hfr:A.frames=some (env::outer)) (hl:s.heap.FunFrames base (env::outer)) (hf:env.frame=some L) (x:FlyAt s.heap a C dx ch L)
  (h:∀h' T oT ts oe vs,(T∈ch∨s.heap.objs.size<=T)->KeptBut (frs (env::outer)) ch s.heap h'->h'.get? a=some oe->oe.cls=.ref C->oe.dict=dx->oe.data=.fields vs->1 < vs.size->vs[1]? = some (.ref T)->T≠a->h'.get? T=some oT->oT.data=.fields ts->ts[3]? = some (rawInt L)->Q () { s with heap:=h' }) :
  wpAny M A (noteFrame (.ref a) env) Q E s:=by
 obtain⟨oe,vs,he,hc,hdx,hd,hsz,alt⟩:=x.obj;unfold noteFrame;simp only[hf];rcases alt with⟨h1,rfl⟩ | ⟨T,oT,ts,fl,rfl,h1,hTa,hT,hdT,h3,hfl⟩
 ·refine wpAny_bind (wpAny_field he hd h1 ?_);rw[if_neg (by decide)]
  refine aiz hfr hl hf he hd hsz fun h' T ts hT k e1 e2 e3 =>?_
  refine h h' T _ ts _ _ (.inr hT) k e1 (by rw[Obj.cls_mapFields];exact hc) (by rw[abt];exact hdx) (Obj.data_mapFields hd _) (by simpa using hsz) (by simp[hsz]) ?_ e2 rfl e3
  exact Nat.ne_of_gt (Nat.lt_of_lt_of_le (Heap.lt_size he) hT)
 ·refine wpAny_bind (wpAny_field he hd h1 ?_);rw[if_pos (show(Value.ref T != Value.none)=true from by simp)]
  refine wpAny_bind (wpAny_field hT hdT h3 ?_);rcases hfl with rfl | rfl
  ·rw[if_neg (show ¬((Value.none==rawInt L)=true) from by simp[rawInt])]
   refine wpAny_bind (wpAny_setField hT hdT (Array.getElem?_eq_some_iff.mp h3).1 ?_);have k0:KeptBut (frs (env::outer)) [T] s.heap (s.heap.update T (Obj.mapFields (·.setIfInBounds 3 Value.none))):=KeptBut.upd;have he':=(Heap.get?_update_other s.heap (Obj.mapFields (·.setIfInBounds 3 Value.none)) hTa).trans he;refine aiz hfr (hl.of_keeps fun b o hb hnf =>?_) hf he' hd hsz fun h' T' ts' hT' k e1 e2 e3 =>?_
   ·exact⟨o,(Heap.get?_update_other _ _ fun z=>by rw[<-z,hT] at hb;cases hb;exact hnf _ hdT).trans hb,rfl⟩
   ·have hsz':s.heap.objs.size<=T':=by
     have:(s.heap.update T (Obj.mapFields (·.setIfInBounds 3 Value.none))).objs.size=s.heap.objs.size:=Heap.size_after_update ..
     exact this▸hT'
    refine h h' T' _ ts' _ _ (.inr hsz') ((k0.sub (by simp)).trans (k.sub (by simp))) e1 (by rw[Obj.cls_mapFields];exact hc) (by rw[abt];exact hdx) (Obj.data_mapFields hd _) (by simpa using hsz) (by simp[hsz]) ?_ e2 rfl e3
    exact Nat.ne_of_gt (Nat.lt_of_lt_of_le (Heap.lt_size he) hsz')
  ·rw[if_pos (show(rawInt L==rawInt L)=true from by simp)]
   refine wpAny_pure (h s.heap T oT ts oe vs (.inl (by simp)) ⟨fun _ _ _ _ e=>e,fun _ o _ e=>⟨o.slots,e⟩⟩ he hc hdx hd hsz h1 hTa hT hdT h3)
theorem azp{base:Heap}{env:Env}{outer:List Env}{L a C:Addr}{dx:Option Addr}{ch:List Addr}{Q:Unit->Shared->Prop}
  (hfr:A.frames=some (env::outer)) (hl:s.heap.FunFrames base (env::outer)) (hf:env.frame=some L) (x:FlyAt s.heap a C dx ch L)
  (h:∀h' ch',(∀b∈ch',b∈ch∨s.heap.objs.size<=b)->KeptBut (frs (env::outer)) ch s.heap h'->(∀L',FlyAt h' a C dx ch' L')->Q () { s with heap:=h' }) :
  wpAny M A (leaving env (.ref a)) Q E s:=by
 unfold leaving;refine wpAny_bind (ay6 hfr hl hf x fun h' T oT ts oe vs hT k e1 e2 e3 e4 e5 e6 e7 e8 e9 e10 =>?_)
 unfold setFlight;refine wpAny_bind (wpAny_field e1 e4 e6 ?_);rw[if_pos (show(Value.ref T != Value.none)=true from by simp)]
 have hsz3:3 < ts.size:=(Array.getElem?_eq_some_iff.mp e10).1;refine wpAny_setField e8 e9 hsz3 (h _ [a,T] (fun b hb =>?_) ?_ fun L'=>⟨oe,vs,(Heap.get?_update_other _ _ e7).trans e1,e2,e3,e4,e5,.inr ⟨T,_,_,.none,rfl,e6,e7,Heap.get?_update_self _ e8 (Obj.isFreed_of_fields (Obj.data_mapFields e9 _)),Obj.data_mapFields e9 _,by simp[hsz3],.inl rfl⟩⟩)
 ·have:b=a∨b=T:=by simpa using hb
  rcases this with rfl | rfl
  ·exact .inl x.fresh
  ·exact hT
 ·rcases hT with hT | hT
  ·exact k.trans (KeptBut.upd.sub (by simp[hT]))
  ·refine⟨fun b o n1 n2 e =>?_,fun b o n e =>?_⟩
   ·rw[Heap.get?_update_other _ _ fun z=>absurd (Heap.lt_size e) (by rw[<-z];exact Nat.not_lt.mpr hT)]
    exact k.keep b o n1 n2 e
   ·obtain⟨sl,q⟩:=k.slot b o n e;exact⟨sl,by rw[Heap.get?_update_other _ _ fun z=>absurd (Heap.lt_size e) (by rw[<-z];exact Nat.not_lt.mpr hT)];exact q⟩
end
end L2
namespace Dn
open L2 Mn
def axh(F:Hp)(dx:Option Addr)(fs:List (Str×Int)):Prop:=(dx=none/\fs=[])∨∃d,dx=some d/\F d=some (.xd (fs.map fun p=>(p.1,V.int p.2)))
structure ClsOk (K:Fg9) (c:Str) (C:Addr):Prop where
 ns:nsIn K mainGlobals c=some (some (.ref C))
 ok:ExcK K C
def FpX(X:Cx)(jv:List (Addr×Obj))(H:Hp)(b:Addr):Prop :=
 H b=none/\b≠X.env.locals/\b∉X.fs/\(b∈X.ex∨X.s₀.heap.get? b=none)/\(∀x c,X.env.cells.lookup x=some c->c≠b)/\∀p∈X.pn++jv,p.1≠b
section
variable{X:Cx}{jv:List (Addr×Obj)}{σ:L2.St}{H H':Hp}{s:Shared}
theorem Inv.fpX{b:Addr}(I:Inv X jv σ H s)(hb:s.heap.get? b=none)(hn:H' b=none):FpX X jv H' b:=by
 have no:∀{o},s.heap.get? b=some o->False:=fun e=>by rw[hb] at e;cases e
 refine⟨hn,fun z =>?_,fun z =>?_,?_,fun x c e z =>?_,fun p hp z =>?_⟩
 ·obtain⟨m,⟨o,_,_,ho,_⟩,_⟩:=I.loc;rw[<-z] at ho;exact no ho
 ·obtain⟨_,o,ho,_⟩:=I.funs.mem z;exact no ho
 ·by_cases hx:b∈X.ex
  ·exact .inl hx
  ·refine .inr ?_;cases e:X.s₀.heap.get? b with
   | none=>rfl
   | some o =>
    obtain⟨o',e'⟩:=I.base.there b o e hx;exact(no e').elim
 ·obtain⟨v,o,ho,_⟩:=I.cell x c e;rw[z] at ho;exact no ho
 ·have:=(I.pin p hp).1;rw[z] at this;exact no this
theorem Inv.records{h':Heap}{ch:List Addr}(I:Inv X jv σ H s)(k:KeptBut (frs X.stack) ch s.heap h')(hch:∀b∈ch,FpX X jv H b):Inv X jv σ H { s with heap:=h' }:=by
 have nt:∀c z,H c=some z->c∉ch/\c∉frs X.stack:=fun c z q=>⟨(fun m=>by have:=(hch c m).1;rw[q] at this;cases this),(fun m=>by have:=I.stkFree c m;rw[q] at this;cases this)⟩
 have nb:∀b o,X.s₀.heap.get? b=some o->b∉X.ex->b∉ch:=fun b o e hx m=>by
  rcases(hch b m).2.2.2.1 with z | z
  ·exact hx z
  ·rw[z] at e;cases e
 have nl:∀b o,X.s₀.heap.get? b=some o->b∉X.fs->b∉frs X.stack:=fun b o e hf m=>by
  rcases List.mem_cons.mp (I.stkSub b m) with z | z
  ·exact absurd (Heap.lt_size e) (by rw[z];exact Nat.not_lt.mpr I.ok.above)
  ·exact hf z
 have cellK:∀x c,X.env.cells.lookup x=some c->∀v,s.heap.IsCell c v->h'.IsCell c v:=fun x c e v hq0=>by
  obtain⟨o,ho,hd⟩:=hq0;obtain⟨sl,q⟩:=k.slot c o (fun m=>(hch c m).2.2.2.2.1 x c e rfl) ho
  exact⟨_,q,hd⟩
 refine⟨I.ok,I.os,I.bare,⟨fun b o e n hb hx=>k.keep b o (nb b o e hx) (nl b o e hb) (I.base.keep b o e n hb hx),fun b o e n hb hx =>?_,I.base.free,fun b o e hx =>?_,I.base.tups,I.base.frzs,I.base.tbls⟩,?_,fun x c e =>?_,I.free,I.freeC,fun p hp =>?_,fun b u e =>?_,I.len⟩
 ·obtain⟨sl,e1⟩:=I.base.slot b o e n hb hx;obtain⟨sl',e2⟩:=k.slot b _ (nb b o e hx) e1;exact⟨sl',e2⟩
 ·obtain⟨o',e1⟩:=I.base.there b o e hx;obtain⟨sl,e2⟩:=k.slot b o' (nb b o e hx) e1;exact⟨_,e2⟩
 ·obtain⟨m,⟨o,es,ep,ho,r⟩,hl⟩:=I.loc;obtain⟨sl,q⟩:=k.slot _ o (fun m=>(hch _ m).2.1 rfl) ho
  refine⟨m,⟨_,es,ep,q,r⟩,fun i x v e1 e2 e3 =>?_⟩
  obtain⟨u,rv,l⟩:=hl i x v e1 e2 e3;refine⟨u,rv,?_⟩;rcases l with l | ⟨kk,c,e,z⟩
  ·exact .inl l
  ·exact .inr ⟨kk,c,e,cellK x c e _ z⟩
 ·obtain⟨v,z⟩:=I.cell x c e;exact⟨v,cellK x c e v z⟩
 ·obtain⟨e,n,ne,nf,d⟩:=I.pin p hp;refine⟨k.keep p.1 p.2 (fun m=>(hch _ m).2.2.2.2.2 p hp rfl) (fun m =>?_) e,n,ne,nf,d⟩
  rcases List.mem_cons.mp (I.stkSub _ m) with z | z
  ·exact ne z
  ·exact nf z
 ·refine(I.hok b u e).stay (fun c v hc q =>?_) (fun _ q=>q) fun _ _ q=>q
  rcases hc with z | z
  ·rw[z] at q ⊢;exact k.keep _ _ (nt b u e).1 (nt b u e).2 q
  ·exact k.keep _ _ (nt c _ z).1 (nt c _ z).2 q
end
def FlyX(K:Fg9)(X:Cx)(jv:List (Addr×Obj))(x:Exn)(F H:Hp)(h:Heap)(e:Value):Prop :=
 ∃a C dx ch,e=.ref a/\ClsOk K x.cls C/\axh F dx x.fs/\FlyAt h a C dx ch X.env.locals/\∀b∈ch,FpX X jv H b
def RX(K:Fg9)(X:Cx)(jv:List (Addr×Obj))(tg:Nat->Addr)(ρ:Ro)(σ:L2.St)(F H:Hp)(x:Exn)(ρ':Ro)(e:Value)(s':Shared):Prop :=
 ∃σ' H' F',Inv X jv σ' H' s'/\Good K tg F' H' ρ' σ'/\Ext (Own ρ σ) (Own ρ' σ') F H F' H'/\FlyX K X jv x F' H' s'.heap e
theorem RX.back{K:Fg9}{X:Cx}{jv:List (Addr×Obj)}{tg:Nat->Addr}{ρ ρ1 ρ':Ro}{σ σ1:L2.St}{F H F1 H1:Hp}{x:Exn}{e:Value}{s':Shared}(q:Ext (Own ρ σ) (Own ρ1 σ1) F H F1 H1)(h:RX K X jv tg ρ1 σ1 F1 H1 x ρ' e s'):RX K X jv tg ρ σ F H x ρ' e s' :=
 let ⟨σ',H',F',I,G,y,f⟩:=h;⟨σ',H',F',I,G,q.trans y,f⟩
abbrev XGo(K:Fg9)(X:Cx)(α:Type)(c:Sem α)(m:Ro->Option (Exn×Ro)):Prop :=
 X.K=K->X.xe=(fun _ _=>False)->∀jv s σ H tg F ρ x ρ',Inv X jv σ H s->Good K tg F H ρ σ->m ρ=some (x,ρ')->wpAny (model X.prog X.w) X.A c (fun _ _=>False) (RX K X jv tg ρ σ F H x ρ') s
def exE{α:Type}(m:M α):Ro->Option (Exn×Ro):=fun ρ=>match m ρ with
 | some (.exc x,ρ')=>some (x,ρ')
 | _=>none
def exS(g:Sd):Ro->Option (Exn×Ro):=fun ρ=>match g ρ with
 | some (.exc x,ρ')=>some (x,ρ')
 | _=>none
theorem um{α:Type}{m:M α}{ρ ρ':Ro}{x:Exn}:exE m ρ=some (x,ρ')↔m ρ=some (.exc x,ρ'):=by
 unfold exE;split
 ·rename_i y ρ1 e;rw[e];constructor
  ·intro h;cases h;rfl
  ·intro h;cases h;rfl
 ·rename_i hn;constructor
  ·intro h;cases h
  ·intro h;exact absurd h (hn x ρ')
theorem vy{g:Sd}{ρ ρ':Ro}{x:Exn}:exS g ρ=some (x,ρ')↔g ρ=some (.exc x,ρ'):=by
 unfold exS;split
 ·rename_i y ρ1 e;rw[e];constructor
  ·intro h;cases h;rfl
  ·intro h;cases h;rfl
 ·rename_i hn;constructor
  ·intro h;cases h
  ·intro h;exact absurd h (hn x ρ')
structure XE (K:Fg9) (X:Cx) (e:Expr) {α:Type} (m:M α):Prop where
 go:XGo K X Value (eval e X.env) (exE m)
structure XA (K:Fg9) (X:Cx) (es:List Expr) {α:Type} (m:M α):Prop where
 go:∀(pos:Pos),XGo K X (List Value) (spliced (backTo pos (starEach es X.env))) (exE m)
structure XS (K:Fg9) (X:Cx) (st:Stmt) (g:Sd):Prop where
 go:XGo K X Flow (exec st X.env) (exS g)
structure XSs (K:Fg9) (X:Cx) (ss:List Stmt) (g:Sd):Prop where
 go:XGo K X Flow (execs ss X.env) (exS g)
def NoX{α:Type}(m:M α):Prop:=∀ρ x ρ',m ρ≠some (.exc x,ρ')
def NoS(g:Sd):Prop:=∀ρ x ρ',g ρ≠some (.exc x,ρ')
section
variable{K:Fg9}{X:Cx}{e a b c:Expr}{es:List Expr}{pos p:Pos}{st:Stmt}{ss:List Stmt}
theorem XE.no{α:Type}{m:M α}(h:NoX m):XE K X e m:=⟨fun _ _ jv s σ H tg F ρ x ρ' I G em=>absurd (um.mp em) (h ρ x ρ')⟩
theorem XS.no{g:Sd}(h:NoS g):XS K X st g:=⟨fun _ _ jv s σ H tg F ρ x ρ' I G em=>absurd (vy.mp em) (h ρ x ρ')⟩
theorem auh{α:Type}{m:M α}{k:α->Sd}{ρ ρ':Ro}{x:Exn}(h:dM m k ρ=some (.exc x,ρ')):m ρ=some (.exc x,ρ')∨∃a ρ1,m ρ=some (.ok a,ρ1)/\k a ρ1=some (.exc x,ρ'):=by
 unfold dM at h;split at h
 ·exact .inr ⟨_,_,by assumption,h⟩
 ·cases h;exact .inl (by assumption)
 ·cases h
theorem ac9{α β:Type}{m:M α}{k:α->M β}{ρ ρ':Ro}{x:Exn}(h:m.bind k ρ=some (.exc x,ρ')):m ρ=some (.exc x,ρ')∨∃a ρ1,m ρ=some (.ok a,ρ1)/\k a ρ1=some (.exc x,ρ'):=by
 unfold M.bind at h;split at h
 ·exact .inr ⟨_,_,by assumption,h⟩
 ·cases h;exact .inl (by assumption)
 ·cases h
theorem XA.no{α:Type}{m:M α}(h:NoX m):XA K X es m:=⟨fun _ _ _ jv s σ H tg F ρ x ρ' I G em=>absurd (um.mp em) (h ρ x ρ')⟩
theorem aum:XSs K X [] dNx:=⟨fun _ _ jv s σ H tg F ρ x ρ' I G em=>by cases em⟩
theorem agr{g:Sd}(h:XS K X st g):XSs K X [st] g:=⟨fun hk hn jv s σ H tg F ρ x ρ' I G em=>wpAny_execs_cons (wpAny_mono (h.go hk hn jv s σ H tg F ρ x ρ' I G em) (fun _ _ z=>z.elim) fun _ _ z=>z)⟩
theorem aqx{g k:Sd}(h:SV K X st g)(hx:XS K X st g)(t:XSs K X ss k):XSs K X (st::ss) (dSeq g k):=⟨fun hk hn jv s σ H tg F ρ x ρ' I G em=>by
 have em:=vy.mp em;unfold dSeq at em;split at em
 ·rename_i ρ1 e1;refine wpAny_execs_cons (wpAny_mono (h.go hk jv s σ H { nx:=fun σ1 H1=>∃F1,Good K tg F1 H1 ρ1 σ1/\Ext (Own ρ σ) (Own ρ1 σ1) F H F1 H1,rt:=fun _ _=>False } I ⟨tg,F,ρ,.nx,ρ1,G,e1,fun σ' H' F' G' x=>⟨F',G',x⟩⟩) (fun f s1 q =>?_) fun e s1 q=>by rw[hn] at q;exact q.elim)
  cases f with
  | next =>
   obtain⟨σ1,H1,I1,F1,G1,x1⟩:=q;exact wpAny_mono (t.go hk hn jv s1 σ1 H1 tg F1 ρ1 x ρ' I1 G1 (vy.mpr em)) (fun _ _ z=>z.elim) fun _ _ z=>z.back x1
  | ret v=>obtain⟨_,_,_,_,_,z⟩:=q;exact z.elim
  | brk=>obtain⟨_,_,_,z⟩:=q;exact z.elim
  | cont=>obtain⟨_,_,_,z⟩:=q;exact z.elim
 ·exact wpAny_execs_cons (wpAny_mono (hx.go hk hn jv s σ H tg F ρ x ρ' I G (vy.mpr em)) (fun _ _ z=>z.elim) fun _ _ z=>z)⟩
theorem anr{α:Type}{m:M α}(h:XE K X e m)(hs:swapsWith e none pos.line X.env=pure false:=by rfl):XS K X (.Expr e pos) (aei m):=⟨fun hk hn jv s σ H tg F ρ x ρ' I G em=>by
 rcases auh (vy.mp em) with em | ⟨_,_,_,em⟩
 ·exact wpAny_Expr_any (wpAny_mono (h.go hk hn jv s σ H tg F ρ x ρ' I G (um.mpr em)) (fun _ _ z=>z.elim) fun _ _ z=>z) I.quiet hs
 ·cases em⟩
theorem a1t{m:M Bool}{g k:Sd}{ss':List Stmt}(h:ET K X c m)(hm:NoX m)(h1:XSs K X ss g)(h2:XSs K X ss' k):XS K X (.If c ss ss' pos) (dIf m g k):=⟨fun hk hn jv s σ H tg F ρ x ρ' I G em=>by
 rcases auh (vy.mp em) with em | ⟨z,ρ1,e1,em⟩
 ·exact absurd em (hm _ _ _)
 ·refine wpAny_If (wpAny_mono (h.go hk jv s σ H (fun b H1=>b=z/\∃F1,Good K tg F1 H1 ρ1 σ/\Ext (Own ρ σ) (Own ρ1 σ) F H F1 H1) I ⟨tg,F,ρ,z,ρ1,G,e1,fun H' F' G' x=>⟨rfl,F',G',x⟩⟩) (fun d s1 ⟨H1,I1,hz,F1,G1,x1⟩ =>?_) fun e s1 q=>by rw[hn] at q;exact q.elim)
  subst hz;cases d with
  | true=>exact wpAny_mono (h1.go hk hn jv s1 σ H1 tg F1 ρ1 x ρ' I1 G1 (vy.mpr em)) (fun _ _ z=>z.elim) fun _ _ z=>z.back x1
  | false=>exact wpAny_mono (h2.go hk hn jv s1 σ H1 tg F1 ρ1 x ρ' I1 G1 (vy.mpr em)) (fun _ _ z=>z.elim) fun _ _ z=>z.back x1⟩
def CX1(P:Program)(w:World):CXT:=fun outer H s E e s'=>∃H' a C dx ch,e=.ref a/\s'.os=s.os/\AllBare s'.gens/\Un (frs outer) [] H H' s.heap s'.heap/\HOk P w H' s'.heap /\
 (∀L',FlyAt s'.heap a C dx ch L')/\(∀b∈ch,s.heap.get? b=none/\H' b=none)/\E (.ref C) dx H'
def spX(K:Fg9)(n:Nat)(f:Fd):Sp:=fun vs H _ E=>vs.length=n/\∃F as x ps,Good K (tgOf (vs.map some)) F H as (vs.map some)/\f as=some (.exc x,ps) /\
 ∀C dx H' F' O',Same F' H'->Ext (Own as (vs.map some)) O' F H F' H'->Fin K F' H' (vs.map some) ps O'->ClsOk K x.cls C->axh F' dx x.fs->E (.ref C) dx H'
def DfnX(P:Program)(w:World)(K:Fg9)(mg:Str->Option Value)(base:Heap)(x:Str)(ps:List Str)(k:Nat)(sp:Sp):Prop :=
 ∃(f:Addr) (fd:FuncData),FnOk P w K mg base (CX1 P w) k f fd ps sp/\mg x=some (.ref f)/\keepIn K (.ref f)=true/\Binds K fd ps []
theorem awc{f:Fd}{js:List (Option Nat)}{ms:M (List (Option D))}{ρ ρ':Ro}{x:Exn}(h:mFn f js ms ρ=some (.exc x,ρ')) :
  ms ρ=some (.exc x,ρ')∨∃ds ρ1 ps,ms ρ=some (.ok ds,ρ1)/\okJs ρ1 js=true/\f (lend ρ1 js ds)=some (.exc x,ps)/\ρ'=putB ρ1 js ps:=by
 rcases ac9 h with h | ⟨ds,ρ1,e1,em⟩
 ·exact .inl h
 ·split at em
  ·rename_i hj;split at em
   ·cases em
   ·rename_i y ps e2;cases em;exact .inr ⟨ds,ρ1,ps,e1,hj,e2,rfl⟩
   ·cases em
  ·cases em
theorem axm{f:Fd}{n k:Nat}{x:Str}{pn:List Str}{js:List (Option Nat)}{ms:M (List (Option D))}(F:DfnX X.prog X.w X.K X.mg X.base x pn k (spX K n f))(hr:Room k X.A)(hg:Gl X x)(ha:EG K X (e::es) js ms)(hxa:XA K X (e::es) ms)(hn:js.length=n:=by rfl)(hdb:(x==("__debug__" : Str))=false:=by decide)
  (he:starEach (e::es) X.env=(false,eval e X.env)::starEach es X.env:=by rfl) (hpl:(backTo pos (starEach es X.env)).any (·.1)=false:=by rfl):XE K X (.Call (.Name x p) (e::es) [] pos) (mFn f js ms):=⟨fun hk hno jv s σ H tg F0 ρ y ρ' I G em=>by
 obtain⟨fa,fd,Fo,hm,hkp,hb⟩:=F;refine wpAny_Call_Name_kw (adu I hg hm ?_ hdb);rcases awc (um.mp em) with em | ⟨ds,ρ1,ps,e1,hj,e2,rfl⟩
 ·exact PySem.W.callWith_K (h₀:=X.base) I.ok.mod.kin hkp (wpAny_mono (hxa.go pos hk hno jv s σ H tg F0 ρ y ρ' I G (um.mpr em)) (fun _ _ z=>z.elim) fun _ _ z=>z) he hpl
 ·refine PySem.W.callWith_K (h₀:=X.base) I.ok.mod.kin hkp (wpAny_mono (ha.go hk pos jv s σ H (fun vs H1=>∃F1,Good K tg F1 H1 ρ1 σ/\Ext (Own ρ σ) (Own ρ1 σ) F0 H F1 H1/\AR K F1 σ js ds vs) I ⟨tg,F0,ρ,ds,ρ1,G,e1,fun vs H1 F1 G1 x1 ar=>⟨F1,G1,x1,ar⟩⟩) (fun us s1 ⟨vs,H1,I1,r,F1,G1,x1,ar⟩=>⟨I1.kIn,?_⟩) fun e s1 q=>by rw[hno] at q;exact q.elim) he hpl
  have L:=ar.lent;have hl:(us++[]).length=pn.length:=by
   rw[List.append_nil,<-r.length];exact Fo.len vs H1 (fun _ _=>True) (fun _ _ _=>True) ⟨by rw[ar.length];exact hn,F1,_,y,ps,yg G1 hj L,e2,fun _ _ _ _ _ _ _ _ _ _=>trivial⟩
  have hbn:=hb s1 us I1.kIn hl;rw[List.append_nil] at hbn;refine wpAny_call (codeAny_mono (Fo.run X.A X.stack s1 H1 ⟨[]++us,[]⟩ us vs (fun _ _=>False) (fun cv dx H2=>∃C F2,cv=.ref C/\Good K tg F2 H2 (putB ρ1 js ps) σ/\Ext (Own ρ σ) (Own (putB ρ1 js ps) σ) F0 H F2 H2/\ClsOk K y.cls C/\axh F2 dx y.fs) hr I1.env0 hbn r
   ⟨by rw[ar.length];exact hn,F1,_,y,ps,yg G1 hj L,e2,fun C dx H2 F2 O2 s2 x2 fin hc hf=>⟨C,F2,rfl,abe G1 L x2 s2 fin,x1.trans (adb G1 L x2),hc,hf⟩⟩) fun r s' hq =>?_)
  cases r with
  | ok fl =>
   cases fl with
   | ret u=>obtain⟨_,_,_,_,_,_,_,z⟩:=hq;exact z.elim
   | next=>exact False.elim hq
   | brk=>exact False.elim hq
   | cont=>exact False.elim hq
  | error er =>
   obtain⟨H',a,C,dx,ch,rfl,os,bare,un,hok,fl,hch,C',F2,ce,G2,x2,hc,hf⟩:=hq;cases ce;exact⟨σ,H',F2,I1.call' os un hok bare (fun b z=>absurd z (by simp)),G2,x2,a,C,dx,ch,rfl,hc,hf,fl _,fun b hb=>Inv.fpX I1 (hch b hb).1 (hch b hb).2⟩⟩
end
theorem fn_x{K:Fg9}{P:Program}{w:World}{mg:Str->Option Value}{base:Heap}{x qual:Str}{st:Stmt}{f:Addr}{fd:FuncData}{N ps:List Str}{k nl np:Nat}{g:Sd}(F:Fun K x qual st f fd)(S:FnScope N ps (ao st))(h1:N.length=nl)(h2:ps.length=np)
  (body:∀(cdv:Value) (A:Around) (outer:List Env) (s:Shared) (H:Hp) (E:XK),Room k (A.deeper (envOfC qual (ao st) s.heap.objs.size f cdv))->XSs K (cxOf CX0 P w K mg base N qual (ao st) f cdv A outer s H E).nox (ir st) g) :
  FnOk P w K mg base (CX1 P w) (k+1) f fd ps (spX K np (fnD nl np g)):=by
 subst h1 h2;obtain⟨oc,od,kV,doc,pm,an,cdv,ct,osl,rfl,lk,hcd⟩:=F.ex;refine a0c lk hcd S (fun vs H Q E h=>h.1) fun A outer s H vs Q E hr hsp =>?_
 obtain⟨hn,F0,as,y,ps',G,em,q⟩:=hsp;have hl:as.length=(vs.map some).length:=G.len;have G1:=G.app (N.length - vs.length);have es:start N vs=vs.map some++List.replicate (N.length - vs.length) none:=rfl;unfold fnD at em;rw[<-hn] at em;have fin:∀{ρ':Ro} {σ':L2.St} {F' H':Hp},Good K (tgOf (vs.map some)) F' H' ρ' σ'->Fin K F' H' (vs.map some) (ρ'.take vs.length) (Own ρ' σ'):=fun{ρ' σ' F' H'} G'=>⟨fun i l e=>by
  have hi:=(List.getElem?_eq_some_iff.mp e).1;rw[List.length_take] at hi;rw[List.getElem?_take_of_lt (by omega)] at e
  obtain⟨o,ho,a,ws,rfl,hf,hh,hl,ht⟩:=G'.at e;rw[ht i rfl];exact⟨⟨i,⟨_,_,e⟩,ho⟩,hf,ws,hh,hl⟩⟩
 refine⟨fun _ σ0 H0=>σ0=start N vs/\H0=H,fun jv s1 σ0 H0 D I hs =>?_,rfl,rfl⟩
 obtain⟨hs1,hs2⟩:=hs;subst hs2;rw[hs1,es] at I;split at em
 ·cases em
 ·cases em
 ·rename_i y' ρ' e;cases em;have run:=(body cdv A outer s H0 E hr).go rfl rfl jv s1 _ H0 (tgOf (vs.map some)) F0 _ y ρ' (I.wish _) G1 (vy.mpr e);refine wpAny_mono run (fun _ _ z=>z.elim) fun er s' z9 =>?_
  obtain⟨σ',H',F',J,G',x',a,C,dx,ch,e1,hc,hf,fl,hch⟩:=z9;subst e1;rw[ye hl] at x';show wpAny _ _ (leaving _ (.ref a)) _ _ s';refine azp J.ok.frames J.stack rfl fl fun h' ch' hc' kb fl' =>?_
  have J2:=Inv.records J kb hch;have hsz:s.heap.objs.size<=s'.heap.objs.size:=J.sz;refine⟨H',a,C,dx,ch',rfl,J.os,J.bare,J2.base,J2.hok,fl',fun b hb =>?_,q C dx H' F' (Own ρ' σ') G'.sub x' (fin G') hc hf⟩
  rcases hc' b hb with z | z
  ·obtain⟨f1,_,_,f3,_⟩:=hch b z;rcases f3 with f3 | f3
   ·exact absurd (show b∈([]:List Addr) from f3) (by simp)
   ·exact⟨f3,f1⟩
  ·exact⟨Heap.get?_none_of_le (Nat.le_trans hsz z),J.hok.fresh z⟩
 ·cases em
theorem aot{P:Program}{w:World}{H:Hp}{h:Heap}{a:Addr}{o:HO}(x:ue P w H h a o):∃ob,h.get? a=some ob:=by
 cases o with
 | lst xs=>obtain⟨_,_,_,_,e⟩:=x;exact⟨_,e⟩
 | tup xs=>obtain⟨_,_,_,ob,e,_⟩:=x;exact⟨_,e⟩
 | dK kvs=>obtain⟨_,_,_,_,o,_,_,e,_⟩:=x;exact⟨_,e⟩
 | dT kvs=>obtain⟨_,_,_,_,o,_,_,e,_⟩:=x;exact⟨_,e⟩
 | set S n=>obtain⟨o,_,_,_,e,_⟩:=x;exact⟨_,e⟩
 | ins C dx fs=>obtain⟨_,_,_,e,_⟩:=x;exact⟨_,e⟩
 | own y=>exact x
 | xd fs=>obtain⟨_,⟨_,_,_,e,_⟩,_⟩:=x;exact⟨_,e⟩
 | rng lo hi=>obtain⟨_,_,_,e⟩:=x;exact⟨_,e⟩
 | frz ob u=>exact⟨_,x.1⟩
 | tbl ps=>exact⟨_,x⟩
 | met f y=>exact⟨_,x⟩
 | ext φ=>exact x.2.1
abbrev bmV:List Value:=[.type "ValueError", .type "Exception", .type "BaseException", .type "object"]
theorem awv{K:Fg9}{h:Heap}{C:Addr}{bmB:List Value}{newId:String}(X:K.In h)(q:PySem.W.excIn K C bmB newId=true) :
  ∃bm N nm qn bs hdct sn sub ab col dd k0 k1 k2 k3 k5 mN,h.get? C=some (excClassObj nm qn C N bs bm hdct sn sub ab col dd k0 k1 k2 k3 k5 newId)/\h.Ns N mN/\mN "__init__" = none/\OwnTail h bmB bm:=by
 unfold PySem.W.excIn at q;split at q
 ·rename_i dd cd sl ho;split at q
  ·rename_i C' bm k0 k1 k2 k3 n k5 hm hs;simp only[Bool.and_eq_true,beq_iff_eq,Bool.not_eq_true'] at q;obtain⟨⟨⟨⟨⟨e1,e2⟩,e3⟩,e4⟩,e5⟩,e6⟩:=q;subst e1 e2;obtain⟨nm,bs,mro,ns,qn,hd,sn,sub,ab,col,del⟩:=cd;have hm:mro=_:=hm;have e3:del=false:=e3;subst hm e3;have z:sl = #[k0,k1,k2,k3,some (.builtin n),k5]:=Array.toList_inj.mp hs;subst z;exact⟨bm,ns,nm,qn,bs,hd,sn,sub,ab,col,dd,k0,k1,k2,k3,k5,h.nsMap ns,X _ _ ho,.of_isNs (PySem.W.isNs_of_in X e5),PySem.W.nsMap_none_of_in X e5 e6,PySem.W.tail_of_in X e4⟩
  ·cases q
 ·cases q
def agk(x:Exn):Sd:=fun ρ=>some (.exc x,ρ)
section
variable{K:Fg9}{X:Cx}{c:Str}{C:Addr}{np cpos pos:Pos}
theorem anq(hcalm:X.calm=true)(hg:Gl X c)(hm:X.mg c=some (.ref C))(k:ClsOk X.K c C)(q:PySem.W.excIn X.K C bmV "ValueError.__new__" = true)(hd:(c==("__debug__" : Str))=false:=by decide) :
  XS K X (.Raise (some (.Call (.Name c np) [] [] cpos)) none pos) (agk ⟨c,[]⟩):=⟨fun hk hn jv s σ H tg F ρ x ρ' I G em=>by
 have em:=vy.mp em;cases em;subst hk;obtain⟨tl,N,nm,qn,bs,hdct,sn,sub,ab,col,dd,k0,k1,k2,k3,k5,mN,hC,hN,hni,T⟩:=awv I.kIn q;refine wpAny_Raise_call_subU (C:=C) (nm:=nm) (q:=qn) (N:=N) (bs:=bs) (bm:=tl) (hdct:=hdct) (sn:=sn) (sub:=sub) (ab:=ab) (col:=col) (dd:=dd) (k0:=k0) (k1:=k1) (k2:=k2) (k3:=k3) (k5:=k5)
  PySem.F.excBase_ValueError (by decide +kernel) PySem.F.excBase_ValueError (mN:=mN) (T.hasType PySem.F.excBase_ValueError.hasBase) (I.ok.hd hcalm) rfl hni ?_
 refine adu I hg hm ⟨rfl,?_⟩ hd;refine evalArgs_empty ⟨rfl,Nat.zero_le _,hC,hN,T,fun h' e hme =>?_⟩
 obtain⟨t,he,_,_⟩:=hme.there;have J:Inv X jv σ H { s with heap:=h' }:=I.kept (t':=s.toks) hme.keeps
 have hnH:H e=none:=by
  cases z:H e with
  | none=>rfl
  | some o =>
   obtain⟨ob,h1⟩:=aot (I.hok e o z);have h2:s.heap.get? e=none:=hme.new;rw[h2] at h1;cases h1
 exact⟨σ,H,F,J,G,Ext.refl _ _ _,e,C,none,[e],rfl,k,.inl ⟨rfl,rfl⟩,⟨_,_,he,rfl,rfl,rfl,by simp,.inl ⟨rfl,rfl⟩⟩,fun b hb=>by
  obtain rfl:=List.mem_singleton.mp hb;exact Inv.fpX I hme.new hnH⟩⟩
end
end Dn
namespace L2
section
variable{X:Cx}{jv:List (Addr×Obj)}{σ:List (Option V)}{H:Hp}{s:Shared}
theorem a0g{M:Model}{A:Around}{E:Value->Shared->Prop}{i:Nat}{x:Str}{v:V}{Q:Unit->Shared->Prop}(I:Inv X jv σ H s)(hN:X.N.Nodup)(hi:X.N[i]? = some x)(hk:X.env.scope.names.lookup x=some .local)(hv:σ[i]? = some (some v))
  (h:∀s',Inv X jv (σ.set i none) H s'->Q () s'):wpAny M A (unbindName X.env x) Q E s:=by
 obtain⟨m,hn,hl⟩:=id I.loc;have hcls:(X.env.scope.kind==.class||(X.env.scope.kind==.module&&X.env.locals != X.env.globals))=false:=by rw[I.ok.kind];rfl
 have hiσ:i < σ.length:=(List.getElem?_eq_some_iff.mp hv).1;obtain⟨u,_,lk⟩:=hl i x v hi hv (.inl hk);have hmx:∃u,m x=some u:=by
  rcases lk with⟨_,e⟩ | ⟨k,_⟩
  ·exact⟨u,e⟩
  ·rcases k with k | k
   ·exact absurd (hk.symm.trans k) (by simp)
   ·exact absurd (hk.symm.trans k) (by simp)
 obtain⟨u0,hmx⟩:=hmx;refine wpAny_unbindName_local hk hn hmx hcls fun h' u' hn' hs=>h _ ?_
 have ne0:∀b o,X.s₀.heap.get? b=some o->b≠X.env.locals:=fun b o e=>Nat.ne_of_lt (Nat.lt_of_lt_of_le (Heap.lt_size e) I.ok.above)
 refine⟨I.ok,I.os,I.bare,⟨fun b o e n hb hx=>(hs.2 b (ne0 b o e)).trans (I.base.keep b o e n hb hx),fun b o e n hb hx =>?_,I.base.free,fun b o e hx =>?_,I.base.tups,I.base.frzs,I.base.tbls⟩,⟨_,hn',fun j y v' e1 e2 e3 =>?_⟩,fun y c e =>?_,I.free,I.freeC,fun p hp =>?_,fun b ob e =>?_,by simpa using I.len⟩
 ·obtain⟨sl,e1⟩:=I.base.slot b o e n hb hx;exact⟨sl,(hs.2 b (ne0 b o e)).trans e1⟩
 ·obtain⟨o',e1⟩:=I.base.there b o e hx;exact⟨o',(hs.2 b (ne0 b o e)).trans e1⟩
 ·by_cases hj:j=i
  ·subst hj;rw[List.getElem?_set_self hiσ] at e2;cases e2
  ·rw[List.getElem?_set_ne (Ne.symm hj)] at e2;obtain⟨u',r',q⟩:=hl j y v' e1 e2 e3;refine⟨u',r',?_⟩;rcases q with⟨k,e⟩ | ⟨k,c,e,z⟩
   ·refine .inl ⟨k,?_⟩;have:y≠x:=fun e=>hj (ahh hN e1 (e▸hi))
    simp[this,e]
   ·exact .inr ⟨k,c,e,z.sameBut hs (I.cne y c e)⟩
 ·obtain⟨w',z⟩:=I.cell y c e;exact⟨w',z.sameBut hs (I.cne y c e)⟩
 ·obtain⟨e,n,ne,nf,d⟩:=I.pin p hp;exact⟨(hs.2 p.1 ne).trans e,n,ne,nf,d⟩
 ·have nL:∀c z,H c=some z->c≠X.env.locals:=fun c z q w=>by
   have:=I.free;rw[<-w,q] at this;cases this
  refine(I.hok b ob e).stay (fun c w' hc q=>(hs.2 c ?_).trans q) (fun _ q=>q) fun _ _ q=>q
  rcases hc with z | z
  ·rw[z];exact nL b ob e
  ·exact nL c _ z
end
section
variable{M:Model}{A:Around}{E:Value->Shared->Prop}{s:Shared}
theorem aup{fs:List Addr}{a C:Addr}{dx:Option Addr}{ch:List Addr}{L:Addr}{Q:Unit->Shared->Prop}(x:FlyAt s.heap a C dx ch L)(hT:ch≠[a])
  (h:∀h',KeptBut fs ch s.heap h'->(∀L',FlyAt h' a C dx ch L')->h'.get? a=s.heap.get? a->Q () { s with heap:=h' }):wpAny M A (setFlight (.ref a) none) Q E s:=by
 obtain⟨oe,vs,he,hc,hdx,hd,hsz,⟨_,e⟩ | ⟨T,oT,ts,fl,rfl,h1,hTa,hT,hdT,h3,hfl⟩⟩:=x.obj
 ·exact absurd e hT
 ·unfold setFlight;refine wpAny_bind (wpAny_field he hd h1 ?_);rw[if_pos (show(Value.ref T != Value.none)=true from by simp)]
  have hsz3:3 < ts.size:=(Array.getElem?_eq_some_iff.mp h3).1;refine wpAny_setField hT hdT hsz3 (h _ (KeptBut.upd.sub (by simp)) (fun L'=>⟨oe,vs,(Heap.get?_update_other _ _ hTa).trans he,hc,hdx,hd,hsz,.inr ⟨T,_,_,.none,rfl,h1,hTa,Heap.get?_update_self _ hT (Obj.isFreed_of_fields (Obj.data_mapFields hdT _)),Obj.data_mapFields hdT _,by simp[hsz3],.inl rfl⟩⟩) (Heap.get?_update_other _ _ hTa))
theorem aou{base:Heap}{env:Env}{outer:List Env}{L a C:Addr}{dx:Option Addr}{ch:List Addr}{Q:Unit->Shared->Prop}
  (hfr:A.frames=some (env::outer)) (hl:s.heap.FunFrames base (env::outer)) (hf:env.frame=some L) (x:FlyAt s.heap a C dx ch L)
  (h:∀h' ch',ch'≠[a]->(∀b∈ch',b∈ch∨s.heap.objs.size<=b)->KeptBut (frs (env::outer)) ch s.heap h'->(∀L',FlyAt h' a C dx ch' L')->Q () { s with heap:=h' }) :
  wpAny M A (noteFrame (.ref a) env) (fun _ s'=>wpAny M A (setFlight (.ref a) none) Q E s') E s:=by
 refine ay6 hfr hl hf x fun h' T oT ts oe vs hT k e1 e2 e3 e4 e5 e6 e7 e8 e9 e10 =>?_
 unfold setFlight;refine wpAny_bind (wpAny_field e1 e4 e6 ?_);rw[if_pos (show(Value.ref T != Value.none)=true from by simp)]
 have hsz3:3 < ts.size:=(Array.getElem?_eq_some_iff.mp e10).1;refine wpAny_setField e8 e9 hsz3 (h _ [a,T] (by simp) (fun b hb =>?_) ?_ fun L'=>⟨oe,vs,(Heap.get?_update_other _ _ e7).trans e1,e2,e3,e4,e5,.inr ⟨T,_,_,.none,rfl,e6,e7,Heap.get?_update_self _ e8 (Obj.isFreed_of_fields (Obj.data_mapFields e9 _)),Obj.data_mapFields e9 _,by simp[hsz3],.inl rfl⟩⟩)
 ·have:b=a∨b=T:=by simpa using hb
  rcases this with rfl | rfl
  ·exact .inl x.fresh
  ·exact hT
 ·rcases hT with hT | hT
  ·exact k.trans (KeptBut.upd.sub (by simp[hT]))
  ·refine⟨fun b o n1 n2 e =>?_,fun b o n e =>?_⟩
   ·rw[Heap.get?_update_other _ _ fun z=>absurd (Heap.lt_size e) (by rw[<-z];exact Nat.not_lt.mpr hT)]
    exact k.keep b o n1 n2 e
   ·obtain⟨sl,q⟩:=k.slot b o n e;exact⟨sl,by rw[Heap.get?_update_other _ _ fun z=>absurd (Heap.lt_size e) (by rw[<-z];exact Nat.not_lt.mpr hT)];exact q⟩
structure CatK (K:Fg9) (B:Addr):Prop where
 cls:(PySem.W.clsIn K B).isSome=true
 ty:PySem.W.typeIn K (.ref B)=some (.type "type")
 base:PySem.W.subIn K (.ref B) (.type "BaseException")=some true
theorem ar3{K:Fg9}{a C B:Addr}{oe:Obj}{b:Bool}{Q:Bool->Shared->Prop}(X:K.In s.heap)(k:CatK K B)(he:s.heap.get? a=some oe)(hc:oe.cls=.ref C)(hs:PySem.W.subIn K (.ref C) (.ref B)=some b)(h:Q b s):wpAny M A (excMatches (.ref a) (.ref B)) Q E s:=by
 obtain⟨hp,g,d,tk,os⟩:=s;have L0:PySem.W.Looks M hp (isInstance (.ref B) (.type "tuple")) false:=(PySem.W.looks_typeIn X k.ty).andThen (PySem.W.Looks.of_pure (by rw[isSubtype_type];kernel_rfl))
 have L1:PySem.W.Looks M hp (isType (.ref B)) true:=by
  have z:=k.cls;unfold PySem.W.clsIn at z;split at z
  ·rename_i c' d' cd' sl' ho;intro A' Q' E' s' kk q;unfold isType loadHead;exact wpAny_bind (wpAny_loadPart (kk _ _ (X _ _ ho)) (wpAny_pure q))
  ·cases z
 have L2:=PySem.W.looks_subIn (M:=M) X k.base;have L3:=PySem.W.looks_subIn (M:=M) X hs;have L4:PySem.W.Looks M hp (isExcClass (.ref B)) true:=L1.andThen (by rw[if_pos rfl];exact L2)
 have L5:PySem.W.Looks M hp (typeOf (.ref a)) (.ref C):=(PySem.W.Looks.ld he).andThen (PySem.W.Looks.of_pure (by rw[hc]))
 unfold excMatches;refine wpAny_bind (L0.at ?_);simp only[Bool.false_eq_true,if_false];refine wpAny_bind (wpAny_pure ?_);simp only[List.forIn_cons,List.forIn_nil];refine wpAny_bind (wpAny_bind (wpAny_bind (L4.at ?_)));rw[if_neg (by simp)]
 refine wpAny_pure (wpAny_pure (wpAny_bind (L5.at (wpAny_bind (wpAny_bind (wpAny_bind (L3.at ?_)))))));cases b with
 | true =>
  rw[if_pos rfl];exact wpAny_pure (wpAny_pure (wpAny_pure h))
 | false =>
  rw[if_neg Bool.false_ne_true];exact wpAny_pure (wpAny_pure (wpAny_pure h))
end
end L2
namespace Dn
open L2 Mn
def ahn(c0 c:Str):Bool:=c0==c||c == "ArrowError" || c == "ValueError"
def clsAt(K:Fg9)(c:Str):Option Addr:=match nsIn K mainGlobals c with
 | some (some (.ref C))=>some C
 | _=>none
def agt(K:Fg9)(ns:List Str):Bool:=ns.all fun c0=>match clsAt K c0 with
 | some C0=>(ns.all fun c=>match clsAt K c with
  | some C=>PySem.W.kitOne K (.ref C0) (.ref C)==some (ahn c0 c)
  | none=>false)&&PySem.W.kitOne K (.ref C0) (.type "ValueError")==some true
 | none=>false
theorem aem{K:Fg9}{c:Str}{C:Addr}(h:nsIn K mainGlobals c=some (some (.ref C))):clsAt K c=some C:=by
 unfold clsAt;rw[h]
theorem ak7{K:Fg9}{ns:List Str}{c0 c:Str}{C0 C:Addr}(h:agt K ns=true)(h0:ns.contains c0=true)(h1:ns.contains c=true)(e0:nsIn K mainGlobals c0=some (some (.ref C0)))(e1:nsIn K mainGlobals c=some (some (.ref C))) :
  PySem.W.kitOne K (.ref C0) (.ref C)=some (ahn c0 c):=by
 have z:=List.all_eq_true.mp h c0 (List.contains_iff_mem.mp h0);rw[aem e0] at z;have z1:=List.all_eq_true.mp (Bool.and_eq_true_iff.mp z).1 c (List.contains_iff_mem.mp h1);rw[aem e1] at z1;exact beq_iff_eq.mp z1
theorem au3{K:Fg9}{ns:List Str}{c0:Str}{C0:Addr}(h:agt K ns=true)(h0:ns.contains c0=true)(e0:nsIn K mainGlobals c0=some (some (.ref C0))):PySem.W.kitOne K (.ref C0) (.type "ValueError")=some true:=by
 have z:=List.all_eq_true.mp h c0 (List.contains_iff_mem.mp h0);rw[aem e0] at z;exact beq_iff_eq.mp (Bool.and_eq_true_iff.mp z).2
def gIsC(ns:List Str)(c:Str):D->Option D
 | .exn c0 _=>if ns.contains c0 then some (.bl (ahn c0 c)) else none
 | _=>none
def mIsC(ns:List Str)(c:Str)(m:M D):M D:=m.bind fun d=>lift (gIsC ns c d)
section
variable{K:Fg9}{X:Cx}{e:Expr}{pos p:Pos}
theorem ajm{X:Cx}{cv:Value}{cV:V}(rc:∀u,RelV cV u->u=cv):acg X (.builtin "isinstance") (fun xs H Q=>∃F c0 fs x b,xs=[x,cV]/\Same F H/\Is X.K F (.exn c0 fs) x/\(∀C0,nsIn X.K mainGlobals c0=some (some (.ref C0))->PySem.W.kitOne X.K (.ref C0) cv=some b)/\Q (.bl b) H):=by
 intro jv s σ H xs us Q I r z9;obtain⟨F,c0,fs,x,b,e,g,h,hk1,q⟩:=z9;subst e;obtain⟨u,w',rfl,r1,r2⟩:=vals2 r;obtain rfl:=rc w' r2;have fin:∀tk,EP X jv σ Q (.bool b) { s with toks:=tk }:=fun tk=>⟨.bl _,H,I.tok tk,rfl,q⟩
 cases h with
 | @exn a C c dx fs e hc hk hf =>
  cases(show u=Value.ref a from r1)
  obtain⟨⟨oe,ws,h1,h2,h3,h4⟩,_⟩:=(show ue X.prog X.w H s.heap a (.ext (exO a C dx)) from I.hok a _ (g _ _ e))
  have hno:PySem.W.notCls oe=true:=by unfold PySem.W.notCls;rw[h4]
  have ia:∃ox od,PySem.W.InstAt s.heap a ox C od:=by
   rcases hf with⟨rfl,_⟩ | ⟨d,rfl,hd⟩
   ·exact⟨oe,none,h1,h2,hno,by rw[h3];trivial⟩
   ·obtain⟨mA,⟨od,_,_,e1,_⟩,_⟩:=(show ue X.prog X.w H s.heap d (.xd _) from I.hok d _ (g _ _ hd))
    exact⟨oe,some od,h1,h2,hno,by rw[h3];exact e1⟩
  exact PySem.W.kia_one (alv hk) I.kIn ia (hk1 C hc) (fun z=>nomatch z) fin
theorem aub{F H:Hp}{d:D}{v:V}{ns:List Str}{c:Str}{r:D}(b:Bor K F H d v)(e:gIsC ns c d=some r):∃c0 fs,d=.exn c0 fs/\Is K F (.exn c0 fs) v/\ns.contains c0=true/\r=.bl (ahn c0 c):=by
 cases d with
 | exn c0 fs =>
  have e:(if ns.contains c0 then some (D.bl (ahn c0 c)) else none)=some r:=e
  split at e
  ·rename_i hn;cases e;refine⟨c0,fs,rfl,?_,hn,rfl⟩;rcases b with b | ⟨_,_,_,z,_⟩
   ·exact b
   ·cases z
  ·cases e
 | _=>cases e
theorem awz{ns:List Str}{c:Str}{C:Addr}{m:M D}{x:Str}{pc:Pos}(sub:agt K ns=true)(h1:ns.contains c=true)(hgC:Gl X c)(hmC:X.mg c=some (.ref C))(hnC:nsIn K mainGlobals c=some (some (.ref C)))
  (hg:Gl X x) (hm:X.mg x=none) (hv:bootBuiltins x=some (.builtin "isinstance")) (h:EB K X e m) (hdC:(c==("__debug__" : Str))=false:=by decide) (hn:x ≠ "__name__" := by decide) (hdb:(x==("__debug__" : Str))=false:=by decide)
  (h1':starEach [.Name c pc] X.env=(false,eval (.Name c pc) X.env)::starEach [] X.env:=by rfl) (he:starEach [e,.Name c pc] X.env=(false,eval e X.env)::starEach [.Name c pc] X.env:=by rfl) (hpl:(backTo pos (starEach [.Name c pc] X.env)).any (·.1)=false:=by rfl) :
  EV K X (.Call (.Name x p) [e,.Name c pc] [] pos) (mIsC ns c m):=EV.mk fun hk=>by
 refine PE.imp (acq (ajm (cv:=.ref C) (cV:=.ref C) fun u r=>r) hg hm hv (qw (h hk) (qw (avr (v:=.ref C) hgC hmC rfl hdC) ad4 h1') he) hn hdb he hpl) fun σ H Q z9 =>?_
 obtain⟨tg,F,ρ,d,ρ',G,em,q⟩:=z9;obtain⟨d1,ρ1,e1,em⟩:=aq em;obtain⟨e2,rfl⟩:=gk em;subst hk;refine⟨tg,F,ρ,d1,_,G,e1,fun v H' F' G' x bv =>?_⟩
 obtain⟨c0,fs,rfl,hi,h0,rfl⟩:=aub bv e2;exact⟨F',c0,fs,v,_,rfl,G'.sub,hi,fun C0 e0=>ak7 sub h0 h1 e0 hnC,q _ H' F' G' x (.bl _)⟩
theorem awy{ns:List Str}{m:M D}{x:Str}{pc:Pos}(sub:agt K ns=true)(hgC:Gl X "ValueError")(hmC:X.mg "ValueError" = none)(hvC:bootBuiltins "ValueError" = some (.type "ValueError"))
  (hg:Gl X x) (hm:X.mg x=none) (hv:bootBuiltins x=some (.builtin "isinstance")) (h:EB K X e m) (hn:x ≠ "__name__" := by decide) (hdb:(x==("__debug__" : Str))=false:=by decide)
  (h1':starEach [.Name "ValueError" pc] X.env=(false,eval (.Name "ValueError" pc) X.env)::starEach [] X.env:=by rfl) (he:starEach [e,.Name "ValueError" pc] X.env=(false,eval e X.env)::starEach [.Name "ValueError" pc] X.env:=by rfl) (hpl:(backTo pos (starEach [.Name "ValueError" pc] X.env)).any (·.1)=false:=by rfl) :
  EV K X (.Call (.Name x p) [e,.Name "ValueError" pc] [] pos) (mIsC ns "ValueError" m):=EV.mk fun hk=>by
 refine PE.imp (acq (ajm (cv:=.type "ValueError") (cV:=.ty "ValueError") fun u r=>r) hg hm hv (qw (h hk) (qw (afw hgC hmC hvC) ad4 h1') he) hn hdb he hpl) fun σ H Q z9 =>?_
 obtain⟨tg,F,ρ,d,ρ',G,em,q⟩:=z9;obtain⟨d1,ρ1,e1,em⟩:=aq em;obtain⟨e2,rfl⟩:=gk em;subst hk;refine⟨tg,F,ρ,d1,_,G,e1,fun v H' F' G' x bv =>?_⟩
 obtain⟨c0,fs,rfl,hi,h0,rfl⟩:=aub bv e2;refine⟨F',c0,fs,v,ahn c0 "ValueError", rfl,G'.sub,hi,fun C0 e0 =>?_,q _ H' F' G' x (.bl _)⟩
 rw[au3 sub h0 e0];simp[ahn]
end
theorem ah5:bootBuiltins "ValueError" = some (.type "ValueError"):=by decide +kernel
@[simp] theorem a3e(ns:List Str)(c:Str)(m:M D)(ρ:Ro):mIsC ns c m ρ=(m.bind fun d=>lift (gIsC ns c d)) ρ:=rfl
@[simp] theorem a1h(ns:List Str)(c c0:Str)(fs:List (Str×Int)):gIsC ns c (.exn c0 fs)=if ns.contains c0 then some (.bl (ahn c0 c)) else none:=rfl
end Dn
namespace L2
structure RoomU (k:Nat) (A:Around):Prop where
 dp:A.depth+3*k+5 < recursionLimit
 un:A.units+16*k+200 < cLine
 gd:A.guards=some []
theorem RoomU.mono{j k:Nat}{A:Around}(r:RoomU k A)(h:j<=k):RoomU j A:=⟨by have:=r.dp;omega,by have:=r.un;omega,r.gd⟩
theorem RoomU.deeper{k:Nat}{A:Around}(r:RoomU (k+1) A)(env:Env):RoomU k (A.deeper env) :=
 ⟨by have:=r.dp;show A.depth+1+3*k+5 < _;omega,by have:=r.un;show A.units+3+16*k+200 < _;omega,r.gd⟩
theorem RoomU.depth{k:Nat}{A:Around}(r:RoomU k A):A.depth < recursionLimit:=by have:=r.dp;omega
theorem RoomU.units{k:Nat}{A:Around}(r:RoomU k A):A.units+64 < cLine:=by have:=r.un;omega
theorem Room.mark{k:Nat}{A:Around}(r:Room k A)(e:Value):RoomU k (A.mark (some e)):=⟨r.dp,r.un,r.gd⟩
def cxU(P:Program)(w:World)(K:Fg9)(mg:Str->Option Value)(base:Heap)(N:List Str)(qual:Str)(scope:Scope)(f:Addr)(cd:Value)(A:Around)(outer:List Env)(s:Shared)(H:Hp):Cx :=
 { (cxOf CX0 P w K mg base N qual scope f cd A outer s H E0).nox with calm:=false }
structure FnOkU (P:Program) (w:World) (K:Fg9) (mg:Str->Option Value) (base:Heap) (k:Nat) (f:Addr) (fd:FuncData) (ps:List Str) (sp:Sp):Prop where
 len:∀vs H Q E,sp vs H Q E->vs.length=ps.length
 run:∀(A:Around) (outer:List Env) (s:Shared) (H:Hp) (args:Args) (us:List Value) (vs:List V) (Q:VK),RoomU k A->Env0 P w K mg base A outer s H->BindsTo s fd args (ps.zip us)->Vals vs us->sp vs H Q E0 ->
  codeAny (model P w) A (.call (.ref f) args) (CR CX0 outer P w H s Q E0) s
theorem Fun.okU{P:Program}{w:World}{K:Fg9}{mg:Str->Option Value}{base:Heap}{x qual:Str}{st:Stmt}{f:Addr}{fd:FuncData}{N ps:List Str}{k:Nat}{sp:Sp}(F:Fun K x qual st f fd)(S:FnScope N ps (ao st))(len:∀vs H Q E,sp vs H Q E->vs.length=ps.length)
  (hbody:∀(cdv:Value) (A:Around) (outer:List Env) (s:Shared) (H:Hp) (vs:List V) (Q:VK),RoomU k (A.deeper (envOfC qual (ao st) s.heap.objs.size f cdv))->sp vs H Q E0 ->
   ∃t,PSs (cxU P w K mg base N qual (ao st) f cdv A outer s H) (ir st) t/\t { nx:=fun _ H'=>Q .non H',rt:=Q } (start N vs) H):FnOkU P w K mg base (k+1) f fd ps sp:=by
 obtain⟨oc,od,kV,doc,pm,an,cdv,ct,osl,rfl,lk,hcd⟩:=F.ex;refine⟨len,fun A outer s H args us vs Q hr e0 hb r hsp =>?_⟩
 have hl:=len _ _ _ _ hsp;have KX:K.In s.heap:=e0.mod.kin.keeps fun b o e=>(e0.bs b o e).1
 have lim:s.heap.NoLimit:=e0.mod.nolimit.keeps fun b o e=>(e0.bs b o e).1
 have hkind:∀y∈ps.zip us,(ao st).names.lookup y.1=some .local∨((ao st).names.lookup y.1=some .cell/\((cellsFrom (s.heap.objs.size+1) (ao st).names []).lookup y.1).isSome=true):=fun y hy=>by
  rcases S.par y.1 (List.of_mem_zip hy).1 with q | q
  ·exact .inl q
  ·exact .inr ⟨q,PySem.W.cellsFrom_some _ _ _ (.inl q)⟩
 refine codeAny_call_function hr.depth (KX _ _ lk) rfl S.co S.gen rfl (PySem.W.codeRec_of KX hcd) (hb _ _ _ _ ?_);refine wpAny_newFunctionEnv_cells S.kind hkind fun env he s1 x =>?_
 subst he;refine⟨lim.keeps x.toInCall.keep,codeAny_func ?_⟩;obtain⟨t,ht,hq⟩:=hbody cdv A outer s H vs Q (hr.deeper _) hsp;have e1:Env0 P w K mg base { A with handled:=none } outer s H:=⟨e0.frames,e0.mod,e0.bs,e0.bsz,e0.funs,e0.frf,e0.hok,e0.bare⟩
 have J:Inv (cxOf CX0 P w K mg base N qual (ao st) f cdv { A with handled:=none } outer s H E0) [] (start N vs) H s1:=ai6 S rfl e1 hl r x
 have I:Inv (cxU P w K mg base N qual (ao st) f cdv A outer s H) [] (start N vs) H s1 :=
  ⟨⟨J.ok.mod,J.ok.kind,J.ok.glob,J.ok.blt,J.ok.above,J.ok.inj,J.ok.has,J.ok.cab,(fun z=>absurd z Bool.false_ne_true),Around.frames_deeper e0.frames,J.ok.stk,J.ok.exf,J.ok.bs,J.ok.bsz,J.ok.noex,J.ok.exfs,J.ok.funs,J.ok.frf⟩,J.os,J.bare,J.base,J.loc,J.cell,J.free,J.freeC,J.pin,J.hok,J.len⟩
 refine wpAny_mono (ht [] s1 (start N vs) H _ I hq) (fun fl s' hs =>?_) fun e s' hs=>False.elim hs
 have fin:∀{σ':St} {H':Hp} {v:V} {u:Value},Inv (cxU P w K mg base N qual (ao st) f cdv A outer s H) [] σ' H' s'->RelV v u->Q v H'->CE outer P w H s Q u s' :=
  fun{σ' H' v u} J rv q=>⟨v,H',J.os,J.bare,J.base,J.hok,rv,q⟩
 cases fl with
 | ret u =>
  obtain⟨v,σ',H',J,rv,q⟩:=hs;exact fin J rv q
 | next =>
  obtain⟨σ',H',J,q⟩:=hs;exact fin (v:=V.non) (u:=Value.none) J rfl q
 | brk =>
  obtain⟨_,_,_,q⟩:=hs;exact False.elim q
 | cont =>
  obtain⟨_,_,_,q⟩:=hs;exact False.elim q
def DfnU(P:Program)(w:World)(K:Fg9)(mg:Str->Option Value)(base:Heap)(x:Str)(ps:List Str)(k:Nat)(sp:Sp):Prop :=
 ∃(f:Addr) (fd:FuncData),FnOkU P w K mg base k f fd ps sp/\mg x=some (.ref f)/\keepIn K (.ref f)=true/\Binds K fd ps []
theorem ayt{X:Cx}{x:Str}{ps:List Str}{k:Nat}{sp:Sp}{e:Expr}{es:List Expr}{t:TA}{p pos:Pos}(F:DfnU X.prog X.w X.K X.mg X.base x ps k sp)(hr:RoomU k X.A)(hg:Gl X x)(ha:PA X (e::es) t)(hdb:(x==("__debug__" : Str))=false:=by decide)
  (he:starEach (e::es) X.env=(false,eval e X.env)::starEach es X.env:=by rfl) (hpl:(backTo pos (starEach es X.env)).any (·.1)=false:=by rfl):PE X (.Call (.Name x p) (e::es) [] pos) (auw sp [] E0 t):=by
 obtain⟨f,fd,F,hm,hk,hb⟩:=F;intro jv s σ H Q I h;refine wpAny_Call_Name_kw (adu I hg hm ?_ hdb);refine PySem.W.callWith_K (h₀:=X.base) I.ok.mod.kin hk (thn (ha pos jv s σ H _ I h) fun us s1 ⟨vs,H1,I1,r,q⟩=>⟨I1.kIn,?_⟩) he hpl
 have q:sp (vs++[]) H1 Q E0:=q;rw[List.append_nil] at q;have hl:(us++[]).length=ps.length:=by rw[List.append_nil,<-r.length];exact F.len _ _ _ _ q
 have hbn:=hb s1 us I1.kIn hl;rw[List.append_nil] at hbn;refine wpAny_call (codeAny_mono (F.run X.A X.stack s1 H1 ⟨[]++us,[]⟩ us vs Q hr I1.env0 hbn r q) fun r s' hq =>?_)
 cases r with
 | error e=>exact False.elim hq
 | ok fl =>
  cases fl with
  | ret u=>exact I1.after hq
  | next=>exact False.elim hq
  | brk=>exact False.elim hq
  | cont=>exact False.elim hq
end L2
namespace Dn
open L2 Mn
theorem a0d{K:Fg9}{X:Cx}{e:Expr}{es:List Expr}{pos p:Pos}{f:Fd}{n k:Nat}{x:Str}{pn:List Str}{js:List (Option Nat)}{ms:M (List (Option D))}(F:DfnU X.prog X.w X.K X.mg X.base x pn k (spOf K n f))(hr:RoomU k X.A)(hg:Gl X x)(ha:EG K X (e::es) js ms)(hn:js.length=n:=by rfl)(hdb:(x==("__debug__" : Str))=false:=by decide)
  (he:starEach (e::es) X.env=(false,eval e X.env)::starEach es X.env:=by rfl) (hpl:(backTo pos (starEach es X.env)).any (·.1)=false:=by rfl):ER K X (.Call (.Name x p) (e::es) [] pos) (mFn f js ms):=ER.mk fun hk=>PE.imp (ayt F hr hg (ha hk) hdb he hpl) fun σ H Q z9=>by
 obtain⟨tg,F,ρ,r,ρ',G,em,q⟩:=z9;obtain⟨ds,ρ1,ps,e1,hj,e2,rfl⟩:=aty em;refine⟨tg,F,ρ,ds,ρ1,G,e1,fun vs H1 F1 G1 x1 ar =>?_⟩
 have L:=ar.lent;show spOf K n f (vs++[]) H1 Q E0;rw[List.append_nil];refine⟨by rw[ar.length];exact hn,F1,_,r,ps,yg G1 hj L,e2,fun v H' F' O' s' x' fin rr =>?_⟩
 exact q v H' F' (abe G1 L x' s' fin) (x1.trans (adb G1 L x')) (kh x1 (ah7 G1 L fin rr))
theorem awu{K:Fg9}{P:Program}{w:World}{mg:Str->Option Value}{base:Heap}{x qual:Str}{st:Stmt}{f:Addr}{fd:FuncData}{N ps:List Str}{k nl np:Nat}{g:Sd}(F:Fun K x qual st f fd)(S:FnScope N ps (ao st))(h1:N.length=nl)(h2:ps.length=np)
  (body:∀(cdv:Value) (A:Around) (outer:List Env) (s:Shared) (H:Hp),RoomU k (A.deeper (envOfC qual (ao st) s.heap.objs.size f cdv))->SVs K (cxU P w K mg base N qual (ao st) f cdv A outer s H) (ir st) g) :
  FnOkU P w K mg base (k+1) f fd ps (spOf K np (fnD nl np g)):=by
 subst h1 h2;refine F.okU S (fun vs H Q E h=>h.1) fun cdv A outer s H vs Q hr h=>⟨_,body cdv A outer s H hr rfl,?_⟩
 obtain⟨hn,F,as,r,ps',G,em,q⟩:=h;have hl:as.length=(vs.map some).length:=G.len;have G1:=G.app (N.length - vs.length);have es:start N vs=vs.map some++List.replicate (N.length - vs.length) none:=rfl;rw[es];unfold fnD at em;rw[<-hn] at em;have fin:∀{ρ':Ro} {σ':L2.St} {F' H':Hp},Good K (tgOf (vs.map some)) F' H' ρ' σ'->Fin K F' H' (vs.map some) (ρ'.take vs.length) (Own ρ' σ'):=fun{ρ' σ' F' H'} G'=>⟨fun i l e=>by
  have hi:=(List.getElem?_eq_some_iff.mp e).1;rw[List.length_take] at hi;rw[List.getElem?_take_of_lt (by omega)] at e
  obtain⟨o,ho,a,ws,rfl,hf,hh,hl,ht⟩:=G'.at e;rw[ht i rfl];exact⟨⟨i,⟨_,_,e⟩,ho⟩,hf,ws,hh,hl⟩⟩
 split at em
 ·rename_i r' ρ' e;cases em;refine⟨_,F,_,.ret r,ρ',G1,e,fun v σ' H' F' G' x' rr =>?_⟩
  rw[ye hl] at x' rr;exact q v H' F' (Own ρ' σ') G'.sub x' (fin G') rr
 ·rename_i ρ' e;cases em;refine⟨_,F,_,.nx,ρ',G1,e,fun σ' H' F' G' x' =>?_⟩
  rw[ye hl] at x';exact q .non H' F' (Own ρ' σ') G'.sub x' (fin G') .non
 ·cases em
 ·cases em
def cxH(X:Cx)(ev:Value):Cx:={ X with A:=X.A.mark (some ev),calm:=false }
section
variable{K:Fg9}{X:Cx}{jv:List (Addr×Obj)}{σ:L2.St}{H:Hp}{s:Shared}{tg:Nat->Addr}{F:Hp}{ρ:Ro}
theorem Inv.hnd(I:Inv X jv σ H s)(ev:Value):Inv (cxH X ev) jv σ H s :=
 ⟨⟨I.ok.mod,I.ok.kind,I.ok.glob,I.ok.blt,I.ok.above,I.ok.inj,I.ok.has,I.ok.cab,(fun z=>absurd z Bool.false_ne_true),I.ok.frames,I.ok.stk,I.ok.exf,I.ok.bs,I.ok.bsz,I.ok.noex,I.ok.exfs,I.ok.funs,I.ok.frf⟩,I.os,I.bare,I.base,I.loc,I.cell,I.free,I.freeC,I.pin,I.hok,I.len⟩
theorem Inv.unhnd{ev:Value}(hd:X.calm=true->X.A.handled=none)(I:Inv (cxH X ev) jv σ H s):Inv X jv σ H s :=
 ⟨⟨I.ok.mod,I.ok.kind,I.ok.glob,I.ok.blt,I.ok.above,I.ok.inj,I.ok.has,I.ok.cab,hd,I.ok.frames,I.ok.stk,I.ok.exf,I.ok.bs,I.ok.bsz,I.ok.noex,I.ok.exfs,I.ok.funs,I.ok.frf⟩,I.os,I.bare,I.base,I.loc,I.cell,I.free,I.freeC,I.pin,I.hok,I.len⟩
theorem Inv.track{a:Addr}{o:HO}(I:Inv X jv σ H s)(f:FpX X jv H a)(new:ue X.prog X.w (upd H a o) s.heap a o):Inv X jv σ (upd H a o) s:=by
 have ne:∀b z,H b=some z->b≠a:=fun b z q w=>by rw[w,f.1] at q;cases q
 refine⟨I.ok,I.os,I.bare,⟨I.base.keep,I.base.slot,fun b o' e n hx =>?_,I.base.there,fun b xs q =>?_,fun b ob u q =>?_,fun b ps q =>?_⟩,I.loc,I.cell,?_,fun x c e =>?_,fun p hp =>?_,fun b u e =>?_,I.len⟩
 ·rw[b8 (fun w=>by
   rcases f.2.2.2.1 with z | z
   ·exact hx (w▸z)
   ·rw[w,z] at e;cases e)]
  exact I.base.free b o' e n hx
 ·have:=I.base.tups b xs q;rw[b8 (ne _ _ this)];exact this
 ·have:=I.base.frzs b ob u q;rw[b8 (ne _ _ this)];exact this
 ·obtain⟨more,h1⟩:=I.base.tbls b ps q;exact⟨more,by rw[b8 (ne _ _ h1)];exact h1⟩
 ·rw[b8 (Ne.symm f.2.1)];exact I.free
 ·rw[b8 (f.2.2.2.2.1 x c e)];exact I.freeC x c e
 ·obtain⟨h1,h2,h3,h4,h5⟩:=I.pin p hp;exact⟨h1,by rw[b8 (f.2.2.2.2.2 p hp)];exact h2,h3,h4,h5⟩
 ·by_cases hb:b=a
  ·subst hb;rw[f9] at e;cases e;exact new
  ·rw[b8 hb] at e;refine(I.hok b u e).stay (fun c v _ q=>q) (fun c q =>?_) fun c xs q =>?_
   ·rw[b8 (ne _ _ q)];exact q
   ·rw[b8 (ne _ _ q)];exact q
theorem amx{i:Nat}{a:Addr}{σ':L2.St}(hs:∀j,j≠i->σ'[j]? = σ[j]?)(h:Own (List.set ρ i .emp) σ' a):Own ρ σ a:=by
 obtain⟨j,⟨t,l,e⟩,q⟩:=h;rw[List.getElem?_set] at e
 by_cases hj:i=j
 ·subst hj;rw[if_pos rfl] at e;split at e <;> cases e
 ·rw[if_neg hj] at e;exact⟨j,⟨t,l,e⟩,by rw[<-hs j (Ne.symm hj)];exact q⟩
theorem Good.forget(G:Good K tg F H ρ σ)(i:Nat):Good K tg F H (List.set ρ i .emp) (List.set σ i none) where
 sub:=G.sub
 len:=by rw[List.length_set,List.length_set];exact G.len
 sl:=fun j s o e q=>by
  rw[List.getElem?_set] at e q
  by_cases hj:i=j
  ·subst hj;rw[if_pos rfl] at e;split at e
   ·cases e;trivial
   ·cases e
  ·rw[if_neg hj] at e q;exact G.sl j s o e q
 inj:=fun j k a ⟨⟨t,l,e⟩,q⟩ ⟨⟨t',l',e'⟩,q'⟩=>by
  have f:∀{j t l},(List.set ρ i Sl.emp)[j]? = some (Sl.own t l)->i≠j:=fun{j t l} e z=>by
   subst z;rw[List.getElem?_set,if_pos rfl] at e;split at e <;> cases e
  have n1:=f e;have n2:=f e';rw[List.getElem?_set,if_neg n1] at e q;rw[List.getElem?_set,if_neg n2] at e' q';exact G.inj j k a ⟨⟨t,l,e⟩,q⟩ ⟨⟨t',l',e'⟩,q'⟩
theorem Ext.less{O O' O2:Addr->Prop}{F H F' H':Hp}(x:Ext O O' F H F' H')(h:∀a,O2 a->O' a):Ext O O2 F H F' H':=⟨x.sub,x.new,x.keep,fun a z=>x.own a (h a z),x.there⟩
theorem aod{O O' O2:Addr->Prop}{F' H H':Hp}{r:Rv}{v:V}(x:relR K r v H O F' H' O')(h:∀a,O2 a->O' a):relR K r v H O F' H' O2:=by
 cases r with
 | v d=>exact x
 | fr l =>
  obtain⟨a,vs,e1,e2,e3,e4,e5,e6⟩:=x;exact⟨a,vs,e1,e2,e3,e4,e5,fun z=>e6 (h a z)⟩
 | tf d l =>
  obtain⟨t,u,a,vs,e0,e1,e2,e3,e4,e5,e6,e7⟩:=x;exact⟨t,u,a,vs,e0,e1,e2,e3,e4,e5,e6,fun z=>e7 (h a z)⟩
end
def dTry(ns:List Str)(gb:Sd)(i:Nat)(gh:Sd):Sd:=fun ρ=>match gb ρ with
 | some (.exc x,ρ1)=>if ns.contains x.cls then match gh (List.set ρ1 i (.val (.exn x.cls x.fs))) with
   | some (.exc _,_)=>none
   | some (fl,ρ2)=>some (fl,List.set ρ2 i .emp)
   | none=>none
  else none
 | r=>r
structure CatN (K:Fg9) (B:Addr):Prop extends CatK K B where
 ns:nsIn K mainGlobals "ArrowError" = some (some (.ref B))
 self:PySem.W.subIn K (.ref B) (.ref B)=some true
theorem amq{K:Fg9}{C B:Addr}(k:CatN K B)(h:PySem.W.kitOne K (.ref C) (.ref B)=some true):PySem.W.subIn K (.ref C) (.ref B)=some true:=by
 by_cases e:C=B
 ·rw[e];exact k.self
 ·have h1:(if (Value.ref C==Value.ref B)=true then some true else PySem.W.kitCls K (.ref C) (.ref B))=some true:=h
  rw[if_neg (fun z=>e (Value.ref.inj (beq_iff_eq.mp z)))] at h1
  have h2:(if ((PySem.W.clsIn K B).isSome&&PySem.W.typeIn K (.ref B)==some (.type "type"))=true then PySem.W.subIn K (.ref C) (.ref B) else none)=some true:=h1
  split at h2
  ·exact h2
  ·cases h2
def a4t(K:Fg9)(tg:Nat->Addr)(ρ:Ro)(σ:L2.St)(F H:Hp)(ρ2:Ro)(fl:Fl):Ends where
 nx:=fun σ6 H6=>fl=.nx/\∃F6,Good K tg F6 H6 ρ2 σ6/\Ext (Own ρ σ) (Own ρ2 σ6) F H F6 H6
 bk:=fun σ6 H6=>fl=.brk/\∃F6,Good K tg F6 H6 ρ2 σ6/\Ext (Own ρ σ) (Own ρ2 σ6) F H F6 H6
 ct:=fun σ6 H6=>fl=.cont/\∃F6,Good K tg F6 H6 ρ2 σ6/\Ext (Own ρ σ) (Own ρ2 σ6) F H F6 H6
 rt:=fun v H6=>∃r σ6 F6,fl=.ret r/\Good K tg F6 H6 ρ2 σ6/\Ext (Own ρ σ) (Own ρ2 σ6) F H F6 H6/\relR K r v H (Own ρ σ) F6 H6 (Own ρ2 σ6)
section
variable{K:Fg9}{X:Cx}{pos hpos bp:Pos}{n:Str}{B:Addr}{i:Nat}{b₀:Stmt}{body suite:List Stmt}{ns:List Str}{gb gh:Sd}
theorem axv(hcalm:X.calm=true)(hno:X.xe=fun _ _=>False)(hfr:X.env.frame=some X.env.locals)(hst:X.stack=X.env::X.outer)(hN:X.N.Nodup)(hi:X.N[i]? = some n)(hk0:X.env.scope.names.lookup n=some .local)
  (hgB:Gl X "ArrowError") (hmB:X.mg "ArrowError" = some (.ref B)) (cat:CatN K B) (sub:agt K ns=true) (hB:ns.contains "ArrowError" = true) (hb:SVs K X body gb) (hx:XSs K X body gb) (hh:∀ev,SVs K (cxH X ev) (b₀::suite) gh) :
  SV K X (.Try body [.ExceptHandler (some (.Name "ArrowError" bp)) (some n) (b₀::suite) hpos] [] [] pos) (dTry ns gb i gh):=SV.mk fun hk jv s σ H E I z9=>by
 obtain⟨tg,F,ρ,fl,ρ',G,em,q⟩:=z9;refine wpAny_Try_except ?_;unfold dTry at em;split at em
 ·rename_i x ρ1 e1;split at em
  ·rename_i hc0;split at em
   ·cases em
   ·rename_i fl' ρ2 hne e2;cases em;refine wpAny_mono (hx.go hk hno jv s σ H tg F ρ x ρ1 I G (vy.mpr e1)) (fun _ _ z=>z.elim) fun er s1 z9 =>?_
    obtain⟨σ1,H1,F1,I1,G1,x1,a,C,dx,ch,ea,hc,hf,fly,hch⟩:=z9;subst ea;have hl1:=I1.stack;rw[hst] at hl1;refine aou (by rw[<-hst];exact I1.ok.frames) hl1 hfr fly fun h2 ch2 hne2 hch2 kb2 fly2 =>?_
    rw[<-hst] at kb2;have I2:=Inv.records I1 kb2 hch;have fp2:∀b∈ch2,FpX X jv H1 b:=fun b hb=>by
     rcases hch2 b hb with z | z
     ·exact hch b z
     ·exact Inv.fpX I1 (Heap.get?_none_of_le z) (I1.hok.fresh z)
    obtain⟨oe,vs,he,hcl,_⟩:=(fly2 X.env.locals).obj;have hsub:=amq cat (by have z:=ak7 sub hc0 hB hc.ns cat.ns;rw[z];simp[ahn])
    refine wpAny_handleBy_cons (codeAny_handlers_test (adu (X:=cxH X (.ref a)) (Inv.hnd I2 _) hgB hmB ?_ (by decide))) (by intro z;cases z)
    refine ar3 (hk▸I2.kIn) cat.toCatK he hcl hsub ?_;refine codeAny_handlers_suite_as ?_;refine aup (fs:=frs X.stack) (fly2 X.env.locals) hne2 fun h3 kb3 fly3 ha3 =>?_
    have I3:=Inv.records I2 kb3 fp2;obtain⟨oe3,vs3,he3,hcl3,hdx3,hd3,_⟩:=(fly3 X.env.locals).obj;have fa:FpX X jv H1 a:=fp2 a (fly2 X.env.locals).fresh;have I4:=Inv.track (o:=.ext (exO a C dx)) I3 fa ⟨⟨oe3,vs3,he3,hcl3,hdx3,hd3⟩,⟨oe3,he3⟩,fun g1 g2 ⟨o,vs',h1,h2,h3,h4⟩ kp=>⟨o,vs',kp o h1,h2,h3,h4⟩⟩
    have G4:=G1.new fa.1 (.ext (exO a C dx));have x4:=G1.newX fa.1 (.ext (exO a C dx));have isE:Is K (upd F1 a (.ext (exO a C dx))) (.exn x.cls x.fs) (.ref a):=.exn f9 hc.ns hc.ok (hf.imp id fun⟨d,h1,h2⟩=>⟨d,h1,x4.sub _ _ h2⟩)
    obtain⟨G5,x5⟩:=G4.storeV i isE;refine ach I4 hN hi (.inl hk0) (v:=.ref a) rfl (fun s5 I5 =>?_) (.inr hk0)
    have hx5:=(x1.trans x4).trans x5;have back:∀{f:Flow} {s6:Shared} {σ6:L2.St} {H6:Hp},Inv (cxH X (.ref a)) jv σ6 H6 s6->(∀s7,Inv X jv (List.set σ6 i none) H6 s7->SP X jv E f s7) ->
      wpAny (model X.prog X.w) X.A (do bindName X.env n .none;unbindBehindTheSuite X.env n hpos) (fun _ s7=>SP X jv E f s7) X.xe s6:=fun{f s6 σ6 H6} I6 fin=>by
     have I6:=Inv.unhnd I.ok.hd I6;refine wpAny_bind (wpAny_bindName (ach I6 hN hi (.inl hk0) (v:=.non) rfl (fun s7 I7 =>?_) (.inr hk0)))
     unfold unbindBehindTheSuite;refine wpAny_onRaise (a0g I7 hN hi hk0 (v:=.non) (List.getElem?_set_self (by rw[I6.len];exact(List.getElem?_eq_some_iff.mp hi).1)) fun s8 I8=>fin s8 ?_)
     rw[List.set_set] at I8;exact I8
    refine wpAny_mono ((hh (.ref a)).go hk jv s5 _ _ (a4t K tg ρ σ F H ρ2 fl) (Inv.hnd I5 (.ref a))
      ⟨tg,_,_,fl,ρ2,G5,e2,?_⟩) (fun f s6 hs =>?_) fun _ _ z=>by
       have z:X.xe _ _:=z;rw[hno] at z;exact z.elim
    ·cases fl with
     | nx=>exact fun σ6 H6 F6 G6 x6=>⟨rfl,F6,G6,hx5.trans x6⟩
     | brk=>exact fun σ6 H6 F6 G6 x6=>⟨rfl,F6,G6,hx5.trans x6⟩
     | cont=>exact fun σ6 H6 F6 G6 x6=>⟨rfl,F6,G6,hx5.trans x6⟩
     | ret r=>exact fun v σ6 H6 F6 G6 x6 rr=>⟨r,σ6,F6,rfl,G6,hx5.trans x6,kh hx5 rr⟩
     | exc y=>exact(hne y rfl).elim
    ·have sub6:∀(σ6:L2.St) (a:Addr),Own (List.set ρ2 i .emp) (List.set σ6 i none) a->Own ρ2 σ6 a:=fun σ6 a z=>amx (fun j hj=>List.getElem?_set_ne (Ne.symm hj)) z
     cases f with
     | next =>
      obtain⟨σ6,H6,I6,rfl,F6,G6,x6⟩:=hs;exact back I6 fun s7 I7=>⟨_,H6,I7,q _ H6 F6 (G6.forget i) (x6.less (sub6 σ6))⟩
     | brk =>
      obtain⟨σ6,H6,I6,rfl,F6,G6,x6⟩:=hs;exact back I6 fun s7 I7=>⟨_,H6,I7,q _ H6 F6 (G6.forget i) (x6.less (sub6 σ6))⟩
     | cont =>
      obtain⟨σ6,H6,I6,rfl,F6,G6,x6⟩:=hs;exact back I6 fun s7 I7=>⟨_,H6,I7,q _ H6 F6 (G6.forget i) (x6.less (sub6 σ6))⟩
     | ret u =>
      obtain⟨v,σ6,H6,I6,rv,r,σ6',F6,rfl,G6,x6,rr⟩:=hs;exact back I6 fun s7 I7=>⟨v,_,H6,I7,rv,q v _ H6 F6 (G6.forget i) (x6.less (sub6 σ6')) (aod rr (sub6 σ6'))⟩
   ·cases em
  ·cases em
 ·rename_i hn;refine wpAny_mono (hb.go hk jv s σ H E I ⟨tg,F,ρ,fl,ρ',G,em,q⟩) (fun f s1 z =>?_) fun er s1 z=>by rw[hno] at z;exact z.elim
  cases f with
  | next=>exact wpAny_execs_nil z
  | ret v=>exact z
  | brk=>exact z
  | cont=>exact z
end
def okS{α:Type}(m:M α):M α:=fun ρ=>match m ρ with
 | some (.ok a,ρ1)=>some (.ok a,ρ1)
 | _=>none
def dOk(g:Sd):Sd:=fun ρ=>match g ρ with
 | some (.exc _,_)=>none
 | r=>r
@[simp] theorem a4y{α:Type}(m:M α)(ρ:Ro):okS m ρ=match m ρ with
 | some (.ok a,ρ1)=>some (.ok a,ρ1)
 | _=>none:=rfl
@[simp] theorem a5h(g:Sd)(ρ:Ro):dOk g ρ=match g ρ with
 | some (.exc _,_)=>none
 | r=>r:=rfl
theorem aiy{α:Type}{m:M α}{ρ ρ':Ro}{o:Out α}(h:okS m ρ=some (o,ρ')):m ρ=some (o,ρ')/\∃a,o=.ok a:=by
 unfold okS at h;split at h
 ·rename_i a ρ1 e;cases h;exact⟨e,a,rfl⟩
 ·cases h
theorem auf{g:Sd}{ρ ρ':Ro}{fl:Fl}(h:dOk g ρ=some (fl,ρ')):g ρ=some (fl,ρ')/\∀x,fl≠.exc x:=by
 unfold dOk at h;split at h
 ·cases h
 ·rename_i hn;exact⟨h,fun x e=>hn x ρ' (by rw[h,e])⟩
theorem ahg{α:Type}{m:M α}:NoX (okS m):=fun ρ x ρ' h=>by
 obtain⟨_,a,e⟩:=aiy h;cases e
theorem av5{g:Sd}:NoS (dOk g):=fun ρ x ρ' h=>(auf h).2 x rfl
section
variable{K:Fg9}{X:Cx}{e a b c:Expr}{es:List Expr}{pos p:Pos}{st:Stmt}{ss:List Stmt}
theorem SV.s{g:Sd}(h:SV K X st g):SV K X st (dOk g):=SV.mk fun hk=>PS.imp (h.go hk) fun E σ H ⟨tg,F,ρ,fl,ρ',G,em,q⟩=>⟨tg,F,ρ,fl,ρ',G,(auf em).1,q⟩
theorem EV.s{m:M D}(h:EV K X e m):EV K X e (okS m):=EV.mk fun hk=>PE.imp (h.go hk) fun σ H Q ⟨tg,F,ρ,d,ρ',G,em,q⟩=>⟨tg,F,ρ,d,ρ',G,(aiy em).1,q⟩
theorem ER.s{m:M Rv}(h:ER K X e m):ER K X e (okS m):=ER.mk fun hk=>PE.imp (h.go hk) fun σ H Q ⟨tg,F,ρ,d,ρ',G,em,q⟩=>⟨tg,F,ρ,d,ρ',G,(aiy em).1,q⟩
theorem ET.s{m:M Bool}(h:ET K X e m):ET K X e (okS m):=ET.mk fun hk=>fun jv s σ H Q I ⟨tg,F,ρ,d,ρ',G,em,q⟩=>h.go hk jv s σ H Q I ⟨tg,F,ρ,d,ρ',G,(aiy em).1,q⟩
theorem EG.s{js:List (Option Nat)}{m:M (List (Option D))}(h:EG K X es js m):EG K X es js (okS m):=EG.mk fun hk=>PA.imp (h.go hk) fun σ H Q ⟨tg,F,ρ,d,ρ',G,em,q⟩=>⟨tg,F,ρ,d,ρ',G,(aiy em).1,q⟩
theorem ak6{x:Exn}:SV K X st (agk x):=SV.mk fun _=>PS.imp ard fun E σ H z9=>by
 obtain⟨tg,F,ρ,fl,ρ',G,em,q⟩:=z9;cases em;exact(show False from q).elim
theorem axl{g:Sd}:XS K X st (dOk g):=XS.no av5
theorem XE.d{m:M Rv}(h:XE K X e m):XE K X e m.d:=⟨fun hk hn jv s σ H tg F ρ x ρ' I G em=>by
 rcases ac9 (um.mp em) with em | ⟨_,_,_,em⟩
 ·exact h.go hk hn jv s σ H tg F ρ x ρ' I G (um.mpr em)
 ·cases em⟩
theorem XE.v{m:M D}(h:XE K X e m):XE K X e m.v:=⟨fun hk hn jv s σ H tg F ρ x ρ' I G em=>by
 rcases ac9 (um.mp em) with em | ⟨_,_,_,em⟩
 ·exact h.go hk hn jv s σ H tg F ρ x ρ' I G (um.mpr em)
 ·cases em⟩
theorem ati{α:Type}{l:α}:XA K X [] (ret l):=XA.no fun ρ x ρ' h=>by cases h
theorem xa_v{m:M D}{js:List (Option Nat)}{ms:M (List (Option D))}(h:EV K X e m)(hx:XE K X e m)(t:XA K X es ms)(hs:starEach (e::es) X.env=(false,eval e X.env)::starEach es X.env:=by rfl):XA K X (e::es) (bw m ms):=⟨fun pos hk hn jv s σ H tg F ρ x ρ' I G em=>by
 rw[hs];refine Calls.spliced_cons ?_;rcases ac9 (um.mp em) with em | ⟨d,ρ1,e1,em⟩
 ·exact wpAny_mono (hx.go hk hn jv s σ H tg F ρ x ρ' I G (um.mpr em)) (fun _ _ z=>z.elim) fun _ _ z=>z
 ·rcases ac9 em with em | ⟨_,_,_,em⟩
  ·refine wpAny_mono (h.go hk jv s σ H (fun _ H1=>∃F1,Good K tg F1 H1 ρ1 σ/\Ext (Own ρ σ) (Own ρ1 σ) F H F1 H1) I ⟨tg,F,ρ,d,ρ1,G,e1,fun v H1 F1 G1 x1 _=>⟨F1,G1,x1⟩⟩) (fun u s1 ⟨v,H1,I1,_,F1,G1,x1⟩ =>?_) fun e s1 q=>by rw[hn] at q;exact q.elim
   exact wpAny_mono (t.go pos hk hn jv s1 σ H1 tg F1 ρ1 x ρ' I1 G1 (um.mpr em)) (fun _ _ z=>z.elim) fun _ _ z=>z.back x1
  ·cases em⟩
end
section
variable{K:Fg9}{X:Cx}{e:Expr}{es:List Expr}{pos p:Pos}
end
def ClsT(K:Fg9)(mg:Str->Option Value)(c:Str):Prop:=∃C,mg c=some (.ref C)/\ClsOk K c C
def RaiT(K:Fg9)(mg:Str->Option Value)(c:Str):Prop:=∃C,mg c=some (.ref C)/\ClsOk K c C/\PySem.W.excIn K C bmV "ValueError.__new__" = true
def CatT(K:Fg9)(mg:Str->Option Value):Prop:=∃B,mg "ArrowError" = some (.ref B)/\CatN K B
section
variable{K:Fg9}{X:Cx}{e:Expr}{pos p np cpos hpos bp:Pos}{c:Str}
theorem anp(hk:X.K=K)(hcalm:X.calm=true)(hg:Gl X c)(h:RaiT K X.mg c)(hd:(c==("__debug__" : Str))=false:=by decide):XS K X (.Raise (some (.Call (.Name c np) [] [] cpos)) none pos) (agk ⟨c,[]⟩):=by
 obtain⟨C,hm,k,q⟩:=h;subst hk;exact anq hcalm hg hm k q hd
theorem uo{ns:List Str}{m:M D}{x:Str}{pc:Pos}(sub:agt K ns=true)(h1:ns.contains c=true)(hgC:Gl X c)(hC:ClsT K X.mg c)(hg:Gl X x)(hm:X.mg x=none)(hv:bootBuiltins x=some (.builtin "isinstance"))(h:EB K X e m)
  (hdC:(c==("__debug__" : Str))=false:=by decide) (hn:x ≠ "__name__" := by decide) (hdb:(x==("__debug__" : Str))=false:=by decide)
  (h1':starEach [.Name c pc] X.env=(false,eval (.Name c pc) X.env)::starEach [] X.env:=by rfl) (he:starEach [e,.Name c pc] X.env=(false,eval e X.env)::starEach [.Name c pc] X.env:=by rfl) (hpl:(backTo pos (starEach [.Name c pc] X.env)).any (·.1)=false:=by rfl) :
  EV K X (.Call (.Name x p) [e,.Name c pc] [] pos) (mIsC ns c m):=by
 obtain⟨C,hmC,k⟩:=hC;exact awz sub h1 hgC hmC k.ns hg hm hv h hdC hn hdb h1' he hpl
theorem au0{n:Str}{i:Nat}{b₀:Stmt}{body suite:List Stmt}{ns:List Str}{gb gh:Sd}(hcalm:X.calm=true)(hno:X.xe=fun _ _=>False)(hfr:X.env.frame=some X.env.locals)(hst:X.stack=X.env::X.outer)(hN:X.N.Nodup)(hi:X.N[i]? = some n)(hk0:X.env.scope.names.lookup n=some .local)
  (hgB:Gl X "ArrowError") (hB:CatT K X.mg) (sub:agt K ns=true) (hB2:ns.contains "ArrowError" = true) (hb:SVs K X body gb) (hx:XSs K X body gb) (hh:∀ev,SVs K (cxH X ev) (b₀::suite) gh) :
  SV K X (.Try body [.ExceptHandler (some (.Name "ArrowError" bp)) (some n) (b₀::suite) hpos] [] [] pos) (dTry ns gb i gh):=by
 obtain⟨B,hm,cat⟩:=hB;exact axv hcalm hno hfr hst hN hi hk0 hgB hm cat sub hB2 hb hx hh
end
@[simp] theorem a0h(x:Exn)(ρ:Ro):agk x ρ=some (.exc x,ρ):=rfl
def aww(K:Fg9)(C:Addr):Bool:=(findIn K (.ref C) "__getattribute__" == some (some (.builtin "BaseException.__getattribute__")))&&(findIn K (.ref C) "__getattr__" == some none)&&(PySem.W.mroIn K C (.type "BaseException")==some true)&&PySem.W.hasDictIn K C&&(findIn K (.ref C) "__class__" == some (some (.builtin "object.__class__")))&&(PySem.W.specialIn K (.builtin "object.__class__") "__get__" == some (some (.builtin "getset_descriptor.__get__"))) &&
 (PySem.W.takesIn K (.builtin "object.__class__")==some true)&&(PySem.W.mroIn K C (.type "object")==some true)&&["int","bool","tuple","list","str","dict"].all fun T=>PySem.W.subIn K (.ref C) (.type T)==some false
theorem asw{K:Fg9}{C:Addr}(h:aww K C=true):ExcK K C:=by
 unfold aww at h;simp only[Bool.and_eq_true,beq_iff_eq] at h;obtain⟨⟨⟨⟨⟨⟨⟨⟨h0,h1⟩,h8⟩,h2⟩,h3⟩,h4⟩,h5⟩,h6⟩,h7⟩:=h;exact⟨h0,h1,h8,h2,h3,h4,h5,h6,fun T hT=>beq_iff_eq.mp (List.all_eq_true.mp h7 T hT)⟩
def ap1(K:Fg9)(ns:List Str):Bool:=ns.all fun c=>match clsAt K c with
 | some C=>aww K C
 | none=>false
def atq(K:Fg9)(ns:List Str):Bool:=ns.all fun c=>match clsAt K c with
 | some C=>PySem.W.excIn K C bmV "ValueError.__new__"
 | none=>false
def catB(K:Fg9):Bool:=match clsAt K "ArrowError" with
 | some B=>PySem.W.hasDictIn K B&&(PySem.W.typeIn K (.ref B)==some (.type "type"))&&(PySem.W.subIn K (.ref B) (.type "BaseException")==some true)&&(PySem.W.subIn K (.ref B) (.ref B)==some true)
 | none=>false
theorem aen{K:Fg9}{c:Str}{C:Addr}(h:clsAt K c=some C):nsIn K mainGlobals c=some (some (.ref C)):=by
 unfold clsAt at h;split at h
 ·rename_i C' e;cases h;exact e
 ·cases h
section
variable{K:Fg9}{h:Heap}{mg:Str->Option Value}{ns:List Str}{c:Str}
theorem qp(X:K.In h)(G:h.Ns mainGlobals mg)(e:ap1 K ns=true)(hc:ns.contains c=true):ClsT K mg c:=by
 have z:=List.all_eq_true.mp e c (List.contains_iff_mem.mp hc);split at z
 ·rename_i C q;exact⟨C,mg_of X G (aen q),aen q,asw z⟩
 ·cases z
theorem aay{rs:List Str}(X:K.In h)(G:h.Ns mainGlobals mg)(e:ap1 K ns=true)(hc:ns.contains c=true)(e2:atq K rs=true)(hr:rs.contains c=true):RaiT K mg c:=by
 obtain⟨C,h1,h2⟩:=qp X G e hc;have z:=List.all_eq_true.mp e2 c (List.contains_iff_mem.mp hr);rw[aem h2.ns] at z;exact⟨C,h1,h2,z⟩
theorem aw7(X:K.In h)(G:h.Ns mainGlobals mg)(e:catB K=true):CatT K mg:=by
 unfold catB at e;split at e
 ·rename_i B q;simp only[Bool.and_eq_true,beq_iff_eq] at e;obtain⟨⟨⟨h1,h2⟩,h3⟩,h4⟩:=e;obtain⟨cd,hc,_⟩:=PySem.W.any_some h1;exact⟨B,mg_of X G (aen q),⟨by rw[hc];rfl,h2,h3⟩,aen q,h4⟩
 ·cases e
end
end Dn
namespace Stt
open PySem
def Rise(t:SetTable):Prop:=t.place.toList.Pairwise (· < ·)
theorem Rise.lt{t:SetTable}(h:Rise t){i j:Nat}{x y:Nat}(hij:i < j)(hx:t.place[i]? = some x)(hy:t.place[j]? = some y):x < y:=by
 obtain⟨hi,rfl⟩:=Array.getElem?_eq_some_iff.mp hx;obtain⟨hj,rfl⟩:=Array.getElem?_eq_some_iff.mp hy;have:=List.pairwise_iff_getElem.mp h i j (by simpa using hi) (by simpa using hj) hij
 simpa using this
def Cut(xs:Array Nat)(j p:Nat):Prop:=p<=xs.size/\(∀i x,i < p->xs[i]? = some x->x < j)/\∀i x,p<=i->xs[i]? = some x->j<=x
theorem ah6{xs:Array Nat}(hs:xs.toList.Pairwise (· < ·))(j:Nat):∀(fuel lo hi:Nat),hi - lo<=fuel->lo<=hi->hi<=xs.size->(∀i x,i < lo->xs[i]? = some x->x < j)->(∀i x,hi<=i->xs[i]? = some x->j<=x) ->
  Cut xs j (SetTable.below.go xs j fuel lo hi)
 | 0,lo,hi,hf,hle,hsz,a,b=>by
  have:lo=hi:=by omega
  subst this;exact⟨hsz,a,b⟩
 | fuel+1,lo,hi,hf,hle,hsz,a,b=>by
  unfold SetTable.below.go;split
  ·rename_i hlt;dsimp only;have hm:(lo+hi) / 2 < xs.size:=by omega
   have hg:xs.getD ((lo+hi) / 2) j=xs[(lo+hi) / 2]:=by simp[Array.getD,hm]
   have hx:xs[(lo+hi) / 2]? = some (xs[(lo+hi) / 2]):=by simp[hm]
   rw[hg]
   by_cases hc:xs[(lo+hi) / 2] < j
   ·rw[if_pos hc];refine ah6 hs j fuel ((lo+hi) / 2+1) hi (by omega) (by omega) hsz (fun i x hi' hx' =>?_) b
    rcases Nat.lt_or_ge i ((lo+hi) / 2) with h | h
    ·exact Nat.lt_trans (Rise.lt (t:={ mask:=0,place:=xs,dummies := #[],finger:=0,led:=true,moves:=0,plain:=true }) hs h hx' hx) hc
    ·have:i=(lo+hi) / 2:=by omega
     subst this;rw[hx] at hx';cases hx';exact hc
   ·rw[if_neg hc];refine ah6 hs j fuel lo ((lo+hi) / 2) (by omega) (by omega) (by omega) a (fun i x hi' hx' =>?_)
    rcases Nat.lt_or_ge ((lo+hi) / 2) i with h | h
    ·exact Nat.le_trans (Nat.not_lt.mp hc) (Nat.le_of_lt (Rise.lt (t:={ mask:=0,place:=xs,dummies := #[],finger:=0,led:=true,moves:=0,plain:=true }) hs h hx hx'))
    ·have:i=(lo+hi) / 2:=by omega
     subst this;rw[hx] at hx';cases hx';omega
  ·have:lo=hi:=by omega
   subst this;exact⟨hsz,a,b⟩
theorem afs{xs:Array Nat}(hs:xs.toList.Pairwise (· < ·))(j:Nat):Cut xs j (SetTable.below xs j) :=
 ah6 hs j xs.size 0 xs.size (by omega) (Nat.zero_le _) (Nat.le_refl _) (fun i x h _=>absurd h (Nat.not_lt_zero _)) fun i x h hx=>by
  obtain⟨h',_⟩:=Array.getElem?_eq_some_iff.mp hx;omega
theorem aj5{t:SetTable}(h:Rise t){j:Nat}(hj:t.place[SetTable.below t.place j]? ≠ some j):(SetTable.insertAt t.place (SetTable.below t.place j) j).toList.Pairwise (· < ·):=by
 obtain⟨hp,a,b⟩:=afs h j;rw[SetTable.toList_insertAt];generalize hq:SetTable.below t.place j=p at *;rw[List.pairwise_append];refine⟨List.Pairwise.sublist (List.take_sublist _ _) h,?_,?_⟩
 ·rw[List.pairwise_cons];refine⟨fun y hy =>?_,List.Pairwise.sublist (List.drop_sublist _ _) h⟩
  obtain⟨i,hi,rfl⟩:=List.mem_iff_getElem.mp hy;rw[List.length_drop,Array.length_toList] at hi;rw[List.getElem_drop,Array.getElem_toList];have h1:t.place[p+i]? = some t.place[p+i]:=by simp
  have h2:=b (p+i) _ (by omega) h1
  rcases Nat.eq_or_lt_of_le h2 with e | e
  ·exfalso;rcases Nat.eq_zero_or_pos i with z | z
   ·subst z;exact hj (by rw[e];exact h1)
   ·have h3:t.place[p]? = some t.place[p]:=by simp
    have h4:=h.lt (show p < p+i by omega) h3 h1
    have h5:=b p _ (Nat.le_refl _) h3;omega
  ·exact e
 ·intro x hx y hy;have hxj:x < j:=by
   obtain⟨i,hi,rfl⟩:=List.mem_iff_getElem.mp hx;rw[List.length_take,Array.length_toList] at hi;rw[List.getElem_take,Array.getElem_toList];exact a i _ (by omega) (by simp)
  rcases List.mem_cons.mp hy with rfl | hy
  ·exact hxj
  ·obtain⟨i,hi,rfl⟩:=List.mem_iff_getElem.mp hy;rw[List.length_drop,Array.length_toList] at hi;rw[List.getElem_drop,Array.getElem_toList];have:=b (p+i) t.place[p+i] (by omega) (by simp)
   omega
def Kept(b:Bool)(t:SetTable):Prop:=Rise t/\t.led=b
theorem ao4{m f mv:Nat}{b p:Bool}{hs:Array Int}{t:SetTable}{o:Array Nat}(e:SetTable.laid m f mv b p hs=some (t,o)):Kept b t:=by
 unfold SetTable.laid at e;cases e1:SetTable.layClean m hs with
 | none=>rw[e1] at e;cases e
 | some ow =>
  rw[e1] at e;cases e;refine⟨?_,rfl⟩;show List.Pairwise _ _;dsimp only;have h0:((List.range (m+1)).filterMap fun j=>(ow.getD j none).map (j,·)).map (·.1)=(List.range (m+1)).filter fun j=>(ow.getD j none).isSome:=by
   generalize List.range (m+1)=l
   induction l with
   | nil=>rfl
   | cons a r ih =>
    cases h:ow.getD a none with
    | none=>simp only[List.filterMap_cons,List.filter_cons,h,Option.map_none,Option.isSome_none];simpa using ih
    | some z=>simp only[List.filterMap_cons,List.filter_cons,h,Option.map_some,Option.isSome_some,List.map_cons];simpa using ih
  rw[h0];exact List.Pairwise.sublist List.filter_sublist List.pairwise_lt_range
theorem am9(b:Bool):Kept b (.fresh 0 0 b):=⟨List.Pairwise.nil,rfl⟩
open PySem.Spec PyProof.Rows
def keyE(e:Int×Value):Int:=match e.2 with
 | .int k _=>k
 | _=>0
def Ent(e:Int×Value):Prop:=∃k u,e=(hashInt k,Value.int k u)
structure SetG (w:World) (es:Array (Int×Value)) (t:SetTable) (ns:List Int):Prop where
 ent:∀e∈es.toList,Ent e
 nd:(es.toList.map keyE).Nodup
 mem:∀k,k∈es.toList.map keyE↔k∈ns
 fit:t.fits es.size=true
 kept:Kept (!w.params.followText "set-order") t
def setO(es:Array (Int×Value))(ep:Nat)(t:SetTable):Obj:={ cls:=.type "set", dict:=none,data:=.set es ep t }
theorem SetG.empty(w:World):SetG w #[] (.fresh 0 0 (!w.params.followText "set-order")) []:=⟨fun e he=>by simp at he,List.Pairwise.nil,fun k=>by simp,rfl,am9 _⟩
theorem SetG.push{w:World}{es es':Array (Int×Value)}{t t':SetTable}{ns:List Int}{k:Int}{u:Tok}(g:SetG w es t ns)(hn:k∉es.toList.map keyE)(hp:es'.toList.Perm (es.push (hashInt k,.int k u)).toList)(hf:t'.fits es'.size=true)
  (hk:Kept (!w.params.followText "set-order") t'):SetG w es' t' (ns++[k]):=by
 rw[Array.toList_push] at hp;have hm:=hp.map keyE;rw[List.map_append] at hm;refine⟨fun e he =>?_,?_,fun j =>?_,hf,hk⟩
 ·rcases List.mem_append.mp (hp.mem_iff.mp he) with h | h
  ·exact g.ent e h
  ·rw[List.mem_singleton] at h;exact⟨k,u,h⟩
 ·rw[hm.nodup_iff,List.nodup_append];refine⟨g.nd,by simp,fun a ha b hb e =>?_⟩
  simp only[List.map_cons,List.map_nil,List.mem_singleton] at hb;subst hb;subst e;exact hn ha
 ·rw[hm.mem_iff,List.mem_append,List.mem_append,g.mem j];rfl
section
variable{prog:Program}{w:World}{A:Around}{E:Value->Shared->Prop}{s:Shared}
theorem ak9{h:Heap}{a:Addr}{es es':Array (Int×Value)}{ep:Nat}{t t':SetTable}(ho:h.get? a=some (setO es ep t)):(h.update a (Obj.putSet es' t')).get? a=some (setO es' (ep+1) t'):=by
 have:=Heap.get?_update_self (Obj.putSet es' t') ho (by rw[putSet_of es' t' (o:=setO es ep t) rfl];rfl)
 rw[putSet_of es' t' (o:=setO es ep t) rfl] at this;exact this
end
section
variable{prog:Program}{w:World}{A:Around}{R:Result->Shared->Prop}{I:Addr}{fp wr:List Addr}{G:Array GenState->Array GenState->Prop}{n:Nat}{P:Nat->Value->Prop}{St:Nat->Shared->Prop}
end
section
variable{prog:Program}{w:World}{A:Around}{E:Value->Shared->Prop}{s:Shared}
abbrev fresh0(w:World):Obj:=setO #[] 0 (.fresh 0 0 (!w.params.followText "set-order"))
theorem av6(a:Value){Q₁:Value->Shared->Prop}(h:Q₁ (.ref s.heap.objs.size) { s with heap:=s.heap.push (fresh0 w) }) :
  codeAny (model prog w) A (.call (.builtin "set.__new__") ⟨[.type "set", a],[]⟩) (wants Q₁ E) s:=by
 refine codeAny_of_tree ?_;show wpAny _ A.in1 (do checkBuiltinCall "set.__new__" ⟨[.type "set", a],[]⟩;again (.builtin "set.__new__" ⟨[.type "set", a],[]⟩)) _ _ s
 refine wpAny_bind (wpAny_of_eq (F.newCall_set_1 a) (wpAny_pure ⟨plainId_quiet F.plain_set_new _,codeAny_builtin F.entry_set_new ?_⟩));rw[Around.under_plainId F.plain_set_new _];unfold Builtin.«set.__new__» Builtin.Frozenset.newClass;have hsub:=sub_set_self;obtain⟨hp,g,d,tk,os⟩:=s;dsimp only;wp_walk;refine wpAny_askSetting (wpAny_pure ?_);dsimp only;simp only[newObj];refine wpAny_bind (wpAny_alloc (wpAny_pure ?_));exact wpAny_pure h
end
end Stt
namespace Dn
open PySem L2 Mn
theorem af0{c:M Bool}{g:Sd}(Inv:Nat->Ro->Prop)(Done:Ro->Prop)(hs:∀k ρ,Inv k ρ->(∃ρ',c ρ=some (.ok false,ρ')/\Done ρ')∨∃ρ1 ρ2 k',c ρ=some (.ok true,ρ1)/\g ρ1=some (.nx,ρ2)/\k' < k/\Inv k' ρ2) :
  ∀(n k:Nat) (ρ:Ro),k < n->Inv k ρ->∃ρ',whileD c g n ρ=some (.nx,ρ')/\Done ρ'
 | 0,k,ρ,h,_=>absurd h (Nat.not_lt_zero _)
 | n+1,k,ρ,h,h0=>by
  unfold whileD;rcases hs k ρ h0 with⟨ρ',e,d⟩ | ⟨ρ1,ρ2,k',e1,e2,hk,h2⟩
  ·rw[e];exact⟨ρ',rfl,d⟩
  ·rw[e1];dsimp only;rw[e2];exact af0 Inv Done hs n k' ρ2 (by omega) h2
theorem asr:100000 < fuel:=by unfold fuel;decide
theorem akt(a b:Int):eqD (.int a) (.int b)=decide (a=b):=by
 show(a==b)=_
 by_cases h:a=b <;> simp[h]
theorem axd(ns:List Int)(a:Int):(ns.map D.int).any (fun y=>eqD y (.int a))=decide (a∈ns):=by
 induction ns with
 | nil=>simp
 | cons x r ih=>simp[akt,List.mem_cons,ih,eq_comm]
theorem ali(n:Nat)(ns:List Int):(ns.map D.int).all (okD n)=true:=by
 induction ns with
 | nil=>rfl
 | cons x r ih=>simp[okD]
theorem awn(neg:Bool)(a:Int)(ns:List Int):gIn neg (.int a) (.lst (ns.map D.int))=some (.v (.bl (if neg then !decide (a∈ns) else decide (a∈ns)))):=by
 have h:=ali 30 ns;have h2:=axd ns a;simp only[gIn,itemsD,h,h2];simp[okD]
theorem ahz:∀(a b:List Int),eqDs (a.map D.int) (b.map D.int)=decide (a=b)
 | [],[]=>rfl
 | [],_::_=>rfl
 | _::_,[]=>rfl
 | x::r,y::t=>by
  show(eqD (.int x) (.int y)&&eqDs (r.map D.int) (t.map D.int))=_;rw[akt,ahz r t]
  by_cases h:x=y <;> simp[h]
theorem apt(a b:List Int):eqD (.tup (a.map D.int)) (.tup (b.map D.int))=decide (a=b):=by
 rw[<-ahz];exact ahy _ _
theorem apk(r:List Int):∀x:Int,(0<=r.foldl (fun m y=>if decide (y < m)=true then y else m) x)↔0<=x/\∀y∈r,0<=y:=by
 induction r with
 | nil=>intro x;simp
 | cons z t ih =>
  intro x;rw[List.foldl_cons,ih]
  by_cases h:z < x
  ·simp only[h,decide_true,if_true,List.mem_cons,forall_eq_or_imp];constructor
   ·rintro⟨a,b⟩;exact⟨by omega,a,b⟩
   ·rintro⟨_,a,b⟩;exact⟨a,b⟩
  ·simp only[h,decide_false,Bool.false_eq_true,if_false,List.mem_cons,forall_eq_or_imp];constructor
   ·rintro⟨a,b⟩;exact⟨a,by omega,b⟩
   ·rintro⟨a,_,b⟩;exact⟨a,b⟩
def minI(ns:List Int):Int:=ada (fun i j=>decide (i < j)) ns
theorem ar0{ns:List Int}(h:ns≠[]):0<=minI ns↔∀y∈ns,0<=y:=by
 cases ns with
 | nil=>exact absurd rfl h
 | cons x r =>
  show 0<=r.foldl (fun m y=>if decide (y < m)=true then y else m) x↔_
  rw[apk];simp
theorem asn{ns:List Int}(h:ns≠[]):awm (.tup (ns.map D.int))=some (.v (.int (minI ns))):=by
 show(mj (ns.map D.int)).bind _=_;rw[aa3];simp[h,minI]
theorem aja{ns:List Int}(h:ns.length < 64):ahs (.lst (ns.map D.int))=some (.fr ((sortI ns).map D.int)):=by
 show(mj (ns.map D.int)).bind _=_;rw[aa3];simp[h]
@[simp] theorem az9(d:D):akp [d]=(itemsD d).map aeh:=rfl
@[simp] theorem az5(a b:D):awk [a,b]=(itemsD a).bind fun l1=>(itemsD b).bind fun l2=>if l1.length<=l2.length then some (aep l1 l2) else none:=rfl
@[simp] theorem azf(ρ:Ro)(i:Nat)(ms:M (List D)):af8 i ms ρ=((di i).bind fun d0=>ms.bind fun ds=>(di i).bind fun d=>(lift (match d0,d with
 | .lst _,.lst _=>some ()
 | .tup _,.tup _=>some ()
 | _,_=>none)).bind fun _=>lift (afk d ds)) ρ:=rfl
@[simp] theorem awr(l:List D)(x:D):afk (.lst l) [x]=if okD 30 x&&l.all (okD 30) then some (.int (l.countP fun y=>eqD y x)) else none:=rfl
@[simp] theorem awq(l:List D)(x:D):afk (.tup l) [x]=if okD 30 x&&l.all (okD 30) then some (.int (l.countP fun y=>eqD y x)) else none:=rfl
theorem ah8{ns:List Int}{k:Int}(h0:0<=k)(h1:k < (ns.length:Int)):atI (ns.map D.int) k=some (.int (ns.getD k.toNat 0)):=by
 have hk:k.toNat < ns.length:=by omega
 have q:atI (ns.map D.int) ((k.toNat:Nat):Int)=some (.int (ns.getD k.toNat 0)):=aft (by simp[List.getElem?_eq_getElem hk])
 rw[show((k.toNat:Nat):Int)=k by omega] at q
 exact q
theorem ahl{n:Nat}{k:Int}(h0:0<=k)(h1:k < (n:Int)):ixN n k=some k.toNat:=by
 unfold ixN;simp[h0,h1]
open PySem.Spec PyProof.Rows
theorem jg{K:Fg9}{P:Program}{w:World}{mg:Str->Option Value}{base:Heap}{x qual:Str}{st:Stmt}{f:Addr}{fd:FuncData}{N ps:List Str}{k nl np:Nat}{g:Sd}(F:Fun K x qual st f fd)(S:FnScope N ps (ao st))(h1:N.length=nl)(h2:ps.length=np)
  (body:∀(cdv:Value) (A:Around) (outer:List Env) (s:Shared) (H:Hp) (E:XK),Room k (A.deeper (envOfC qual (ao st) s.heap.objs.size f cdv))->SVs K (cxOf CX0 P w K mg base N qual (ao st) f cdv A outer s H E).nox (ir st) g) :
  FnOk P w K mg base CX0 (k+1) f fd ps (spOf K np (fnD nl np g)):=by
 subst h1 h2;exact a4c F S body
end Dn
namespace Mn
open L2
section
variable{X:Cx}
end
end Mn
namespace Dn
open L2 Mn
section
variable{K:Fg9}{X:Cx}
end
theorem mkSc{N P:List Str}{sc:Scope}(a:sc.kind=.function)(b:sc.isCoroutine=false)(c:sc.isGenerator=false)(e:N.take P.length=P)(d:N.Nodup/\(∀x∈P,sc.names.lookup x=some .local∨sc.names.lookup x=some .cell)/\∀y∈sc.names,y.2≠.free):FnScope N P sc:=⟨a,b,c,d.1,e,d.2.1,d.2.2⟩
theorem _root_.L2.Inv.gh{X:Cx}{jv:List (Addr×Obj)}{σ σ2:L2.St}{H:Hp}{s:Shared}(I:Inv X jv σ H s)(hl:σ2.length=σ.length)(h:∀(i:Nat) (x:Str) (v:V),X.N[i]? = some x->σ2[i]? = some (some v)->Vis X.env.scope x->σ[i]? = some (some v)):Inv X jv σ2 H s:=by
 obtain⟨m,hm,hx⟩:=I.loc;exact⟨I.ok,I.os,I.bare,I.base,⟨m,hm,fun i x v e q vis=>hx i x v e (h i x v e q vis) vis⟩,I.cell,I.free,I.freeC,I.pin,I.hok,hl.trans I.len⟩
def GH(X:Cx)(σ σ2:L2.St):Prop:=σ2.length=σ.length/\∀(i:Nat) (x:Str) (v:V),X.N[i]? = some x->σ2[i]? = some (some v)->Vis X.env.scope x->σ[i]? = some (some v)
theorem ayc{X:Cx}{ss:List Stmt}{t:TS}(h:PSs X ss t):PSs X ss (fun D σ H=>∃σ2,GH X σ σ2/\t D σ2 H):=fun jv s σ H D I ⟨σ2,g,q⟩=>h jv s σ2 H D (I.gh g.1 g.2) q
def ay8:Sl->Bool
 | .box _ _=>false
 | _=>true
section
variable{K:Fg9}{X:Cx}{tg:Nat->Addr}{F H F1 H1:Hp}{O O1:Addr->Prop}{ρ:Ro}{σ:L2.St}
inductive FdR (K:Fg9) (F H:Hp) (O:Addr->Prop):List (Str×Rv)->List (Str×V)->List Addr->Prop
 | nil:FdR K F H O [] [] []
 | v {f:Str} {d:D} {v:V} {rs:List (Str×Rv)} {fvs:List (Str×V)} {A:List Addr} (h:Is K F d v) (t:FdR K F H O rs fvs A):FdR K F H O ((f,.v d)::rs) ((f,v)::fvs) A
 | fr {f:Str} {l:List D} {e:Addr} {ws:List V} {rs:List (Str×Rv)} {fvs:List (Str×V)} {A:List Addr} (hf:F e=none) (hn:¬O e) (hh:H e=some (.lst ws)) (h:IsL K F l ws) (ne:e∉A) (t:FdR K F H O rs fvs A):FdR K F H O ((f,.fr l)::rs) ((f,.ref e)::fvs) (e::A)
theorem FdR.step{rs:List (Str×Rv)}{fvs:List (Str×V)}{A:List Addr}(h:FdR K F H O rs fvs A)(x:Ext O O1 F H F1 H1):FdR K F1 H1 O1 rs fvs A:=by
 induction h with
 | nil=>exact .nil
 | v h t ih=>exact .v (h.mono x.sub) ih
 | @fr f l e ws rs fvs A hf hn hh h ne t ih =>
  refine .fr ?_ (fun z =>?_) (x.keep e _ hh hn) (h.mono x.sub) ne ih
  ·cases z:F1 e with
   | none=>rfl
   | some o =>
    rcases x.new e o z with z | z | z
    ·rw[hf] at z;cases z
    ·rw[hh] at z;cases z
    ·exact absurd z hn
  ·rcases x.own e z with z | z
   ·exact hn z
   ·rw[hh] at z;cases z
theorem FdR.out{rs:List (Str×Rv)}{fvs:List (Str×V)}{A:List Addr}(h:FdR K F H O rs fvs A):∀e∈A,¬O e/\F e=none/\∃ws,H e=some (.lst ws)/\∃l,IsL K F l ws:=by
 induction h with
 | nil=>exact fun e he=>absurd he List.not_mem_nil
 | v h t ih=>exact ih
 | @fr f l e ws rs fvs A hf hn hh h ne t ih =>
  intro e' he;rcases List.mem_cons.mp he with rfl | he
  ·exact⟨hn,hf,ws,hh,l,h⟩
  ·exact ih e' he
theorem FdR.upd{rs:List (Str×Rv)}{fvs:List (Str×V)}{A:List Addr}{d:Addr}{o:HO}(h:FdR K F H O rs fvs A)(hd:d∉A):FdR K F (L2.upd H d o) O rs fvs A:=by
 induction h with
 | nil=>exact .nil
 | v h t ih=>exact .v h (ih hd)
 | @fr f l e ws rs fvs A hf hn hh h ne t ih =>
  have h1:d≠e/\d∉A:=⟨fun q=>hd (q▸List.mem_cons_self ..),fun q=>hd (List.mem_cons_of_mem _ q)⟩
  exact .fr hf hn (by rw[b8 (Ne.symm h1.1)];exact hh) h ne (ih h1.2)
def Oa(ρ:Ro)(σ:L2.St)(a:Addr)(A:List Addr):Addr->Prop:=fun z=>Own ρ σ z∨z=a∨z∈A
def iniD:List (Str×M Rv)->Ro->Option (List (Str×Rv)×Ro)
 | [],ρ=>some ([],ρ)
 | (f,m)::r,ρ=>match m ρ with
  | some (.ok (.v d),ρ1)=>if (ρ1:List Sl).all ay8=true then (iniD r ρ1).map fun p=>((f,.v d)::p.1,p.2) else none
  | some (.ok (.fr l),ρ1)=>if (ρ1:List Sl).all ay8=true then (iniD r ρ1).map fun p=>((f,.fr l)::p.1,p.2) else none
  | _=>none
def TSi(K:Fg9)(C:Addr)(fms:List (Str×M Rv)):TS:=fun D σ H=>∃tg F ρ a dx rs0 fvs0 A0 rs ρ',Good K tg F H ρ σ/\σ[0]? = some (some (.ref a))/\H a=some (.ins C dx fvs0)/\F a=none/\FdR K F H (Own ρ σ) rs0 fvs0 A0/\fvs0.length+fms.length < 1000 /\
 (∀f∈fms.map (·.1),fvs0.lookup f=none)/\(fms.map (·.1)).Nodup/\iniD fms ρ=some (rs,ρ') /\
 ∀H' F' fvs A,Good K tg F' H' ρ' σ->H' a=some (.ins C dx fvs)->F' a=none->FdR K F' H' (Own ρ' σ) (rs0++rs) fvs A->Ext (Oa ρ σ a A0) (Oa ρ' σ a A) F H F' H'->D.nx σ H'
structure SI (K:Fg9) (X:Cx) (C:Addr) (ss:List Stmt) (fms:List (Str×M Rv)):Prop where
 go:X.K=K->PSs X ss (TSi K C fms)
end
def tagB:Sl->Bool
 | .own (some k) _=>decide (k < 1000)
 | .box _ _=>false
 | .lol _=>false
 | .lnk _=>false
 | _=>true
section
variable{K:Fg9}{X:Cx}{tg tg1:Nat->Addr}{F H F1 H1:Hp}{ρ:Ro}{σ:L2.St}
theorem Good.retag(G:Good K tg F H ρ σ)(hb:(ρ:List Sl).all tagB=true)(h:∀k,k < 1000->tg k=tg1 k):Good K tg1 F H ρ σ where
 sub:=G.sub
 len:=G.len
 inj:=G.inj
 sl:=fun i s o e q=>by
  have z:=G.sl i s o e q;have t:=List.all_eq_true.mp hb _ (List.mem_of_getElem? e);cases s with
  | emp=>trivial
  | val _=>exact z
  | box c fs=>cases t
  | lol _=>cases t
  | lnk _=>cases t
  | own t' l =>
   obtain⟨a,vs,e1,f,e2,h',ht⟩:=z;refine⟨a,vs,e1,f,e2,h',fun k ek =>?_⟩
   subst ek;have t:decide (k < 1000)=true:=t;rw[<-h k (of_decide_eq_true t)];exact ht k rfl
def offs(ρ:Ro):List Nat->Ro
 | []=>ρ
 | j::js=>offs (List.set ρ j .emp) js
theorem Good.offs(G:Good K tg F H ρ σ):∀{js:List Nat},Good K tg F H (Dn.offs ρ js) σ/\∀z,Own (Dn.offs ρ js) σ z->Own ρ σ z:=fun{js}=>by
 induction js generalizing ρ with
 | nil=>exact⟨G,fun _ h=>h⟩
 | cons j js ih =>
  obtain⟨g,h⟩:=ih (G.drop j);exact⟨g,fun z hz=>(wy (h z hz)).1⟩
def setG:List (Str×Rv)->List Nat->Nat->Ro->Option Ro
 | [],[],_,ρ=>some ρ
 | (_,.v _)::r,gs,n,ρ=>setG r gs n ρ
 | (_,.fr l)::r,j::gs,n,ρ=>setG r gs (n+1) (List.set ρ j (.own (some (1000+n)) l))
 | _,_,_,_=>none
theorem ava{O:Addr->Prop}{rs:List (Str×Rv)}{fvs:List (Str×V)}{A:List Addr}(h:FdR K F H O rs fvs A):∀{gs:List Nat} {n:Nat} {ρ ρ':Ro} {σ:L2.St},Good K tg1 F H ρ σ->(∀e∈A,¬Own ρ σ e)->(∀(m:Nat) (e:Addr),A[m]? = some e->tg1 (1000+(n+m))=e)->setG rs gs n ρ=some ρ' ->
  ∃σ',Good K tg1 F H ρ' σ'/\(∀j,j∉gs->σ'[j]? = σ[j]?)/\σ'.length=σ.length/\∀z,Own ρ' σ' z->Own ρ σ z∨z∈A:=by
 induction h with
 | nil =>
  intro gs n ρ ρ' σ G hA ht em;cases gs with
  | nil=>cases em;exact⟨σ,G,fun _ _=>rfl,rfl,fun _ h=>.inl h⟩
  | cons _ _=>cases em
 | v h t ih=>exact fun{gs n ρ ρ' σ} G hA ht em=>ih G hA ht em
 | @fr f l e ws rs fvs A hf hn hh h ne t ih =>
  intro gs n ρ ρ' σ G hA ht em;cases gs with
  | nil=>cases em
  | cons j gs =>
   have em:setG rs gs (n+1) (List.set ρ j (.own (some (1000+n)) l))=some ρ':=em;have hne:=hA e (List.mem_cons_self ..);have hte:tg1 (1000+n)=e:=ht 0 e rfl;have G1:=G.put (s:=.own (some (1000+n)) l) (v:=.ref e) j ⟨e,ws,rfl,hf,hh,h,fun k ek=>by cases ek;exact hte⟩ (fun t l' a _ ea=>by cases ea;exact hne)
   obtain⟨σ',g1,g2,g3,g4⟩:=ih G1 (fun e' he' w=>by
    rcases ab3 G.len w with w | ⟨_,w⟩
    ·exact hA e' (List.mem_cons_of_mem _ he') w
    ·cases w;exact ne he') (fun m e' he'=>by
    have:=ht (m+1) e' (by simpa using he')
    rw[show n+1+m=n+(m+1) by omega]
    exact this) em
   refine⟨σ',g1,fun k hk =>?_,by rw[g3,List.length_set],fun z hz =>?_⟩
   ·rw[g2 k (fun q=>hk (List.mem_cons_of_mem _ q)),List.getElem?_set,if_neg (fun q:j=k=>hk (q▸List.mem_cons_self ..))]
   ·rcases g4 z hz with w | w
    ·rcases ab3 G.len w with w | ⟨_,w⟩
     ·exact .inl w
     ·cases w;exact .inr (List.mem_cons_self ..)
    ·exact .inr (List.mem_cons_of_mem _ w)
end
structure DfnI (P:Program) (w:World) (K:Fg9) (mg:Str->Option Value) (base:Heap) (c:Str) (ps:List Str) (k:Nat) (sp:Addr->Sp):Prop where
 ex:∃C f fd,nsIn K mainGlobals c=some (some (.ref C))/\mg c=some (.ref C)/\Mk K C f/\FnOk P w K mg base CX0 k f fd ps (sp C)/\Binds K fd ps []
theorem Fin.mono{K:Fg9}{F' H':Hp}{τ:L2.St}{ps:Ro}{O O':Addr->Prop}(h:Fin K F' H' τ ps O)(w:∀z,O z->O' z):Fin K F' H' τ ps O':=⟨fun i l e=>let ⟨a,b,c⟩:=h.at' i l e;⟨w _ a,b,c⟩⟩
theorem Ext.imp{O O1 O2:Addr->Prop}{F H F1 H1:Hp}(x:Ext O O1 F H F1 H1)(w:∀z,O2 z->O1 z):Ext O O2 F H F1 H1:=⟨x.sub,x.new,x.keep,fun z h=>x.own z (w z h),x.there⟩
theorem aq9{K:Fg9}{r:Rv}{v:V}{H:Hp}{O:Addr->Prop}{F' H':Hp}{O1 O2:Addr->Prop}(w:∀z,O2 z->O1 z)(h:relR K r v H O F' H' O1):relR K r v H O F' H' O2:=by
 cases r with
 | v d=>exact h
 | fr l =>
  obtain⟨a,vs,e,h1,h2,h3,h4,h5⟩:=h;exact⟨a,vs,e,h1,h2,h3,h4,fun z=>h5 (w _ z)⟩
 | tf d l =>
  obtain⟨t,u,a,vs,e,h1,h2,h3,h4,h5,h6,h7⟩:=h;exact⟨t,u,a,vs,e,h1,h2,h3,h4,h5,h6,fun z=>h7 (w _ z)⟩
theorem FlOk.off{K:Fg9}{tg tg1:Nat->Addr}{ρ ρ4:Ro}{σ:L2.St}{F H:Hp}{E:Ends}{fl:Fl}{js:List Nat}(ht:∀k,k < 1000->tg1 k=tg k)(hb:(offs ρ4 js:List Sl).all tagB=true)(q:FlOk K tg ρ σ F H E fl (offs ρ4 js)):FlOk K tg1 ρ σ F H E fl ρ4:=by
 have go:∀{σ':L2.St} {H' F':Hp},Good K tg1 F' H' ρ4 σ'->Good K tg F' H' (offs ρ4 js) σ'/\∀z,Own (offs ρ4 js) σ' z->Own ρ4 σ' z:=fun G=>by
  obtain⟨g,h⟩:=G.offs (js:=js);exact⟨g.retag hb ht,h⟩
 cases fl with
 | nx=>exact fun σ' H' F' G' x'=>let ⟨g,h⟩:=go G';q σ' H' F' g (x'.imp h)
 | brk=>exact fun σ' H' F' G' x'=>let ⟨g,h⟩:=go G';q σ' H' F' g (x'.imp h)
 | cont=>exact fun σ' H' F' G' x'=>let ⟨g,h⟩:=go G';q σ' H' F' g (x'.imp h)
 | ret r=>exact fun v σ' H' F' G' x' rr=>let ⟨g,h⟩:=go G';q v σ' H' F' g (x'.imp h) (aq9 h rr)
 | exc _=>exact q
section
variable{K:Fg9}{C:Addr}{fs:List Str}{c f m:Str}
end
def ghB(N:List Str)(gs:List Nat)(sc:Scope):Bool:=gs.all fun j=>match N[j]? with
 | some y=>(sc.names.lookup y).isNone
 | none=>true
theorem a3t{N:List Str}{gs:List Nat}{sc:Scope}(h:ghB N gs sc=true):∀j∈gs,∀y,N[j]? = some y->¬Vis sc y:=fun j hj y hy v=>by
 have z:=List.all_eq_true.mp h j hj;rw[hy] at z;have z:sc.names.lookup y=none:=Option.isNone_iff_eq_none.mp z;rcases v with v | v | v <;> (rw[z] at v;cases v)
end Dn
namespace Kst
open PySem PySem.W PyProof.Rows
structure Od (n:Nat) (c:Nat->Nat->Bool):Prop where
 tr:∀i j k,c i j=true->c j k=true->c i k=true
 to:∀i j,i < n->j < n->i≠j->c i j=false->c j i=true
def Asks(n:Nat)(c:Nat->Nat->Bool)(cmp:Nat->Nat->(Bool->Shared->Prop)->Shared->Prop)(s:Shared):Prop:=∀i j,i < n->j < n->∀C:Bool->Shared->Prop,C (c i j) s->cmp i j C s
structure Pm (n:Nat) (p:Array Nat):Prop where
 pm:p.toList.Perm (List.range n)
section
variable{n:Nat}{c:Nat->Nat->Bool}{cmp:Nat->Nat->(Bool->Shared->Prop)->Shared->Prop}{s:Shared}{p:Array Nat}
theorem Pm.size(h:Pm n p):p.size=n:=by have:=h.pm.length_eq;simpa using this
theorem Pm.get(h:Pm n p){k:Nat}(hk:k < n):p[k]? = some (p.getD k 0):=by
 have:=h.size;have h':k < p.size:=by omega
 simp[Array.getD,h']
theorem Pm.lt(h:Pm n p){k:Nat}(hk:k < n):p.getD k 0 < n:=by
 have e:=h.get hk;have m:p.getD k 0∈p.toList:=by
  rw[<-Array.getElem?_toList] at e;exact List.mem_of_getElem? e
 have:=h.pm.mem_iff.mp m
 simpa using this
theorem Pm.inj(h:Pm n p){i j:Nat}(hi:i < n)(hj:j < n)(e:p.getD i 0=p.getD j 0):i=j:=by
 have nd:p.toList.Nodup:=h.pm.nodup_iff.mpr List.nodup_range;have e1:=h.get hi;have e2:=h.get hj;rw[<-Array.getElem?_toList] at e1 e2;have s1:=h.size;exact(List.getElem?_inj (by simpa[s1] using hi) nd).mp (by rw[e1,e2,e])
def Srt(c:Nat->Nat->Bool)(p:Array Nat)(m:Nat):Prop:=∀i j,i < j->j < m->c (p.getD i 0) (p.getD j 0)=true
theorem atn(O:Od n c){m:Nat}(h:∀k,1<=k->k < m->c (p.getD (k - 1) 0) (p.getD k 0)=true):Srt c p m:=by
 intro i j hij hj
 induction j with
 | zero=>omega
 | succ j ih =>
  have a:=h (j+1) (by omega) hj
  rw[Nat.add_sub_cancel] at a
  by_cases e:i=j
  ·subst e;exact a
  ·exact O.tr _ _ _ (ih (by omega) (by omega)) a
theorem agp(A:Asks n c cmp s)(hp:Pm n p){Q:Nat->Shared->Prop}:∀f a,1<=a->a+f<=n->(∀m,a<=m->m<=a+f->(∀k,a<=k->k < m->c (p.getD k 0) (p.getD (k - 1) 0)=false)->(m < a+f->c (p.getD m 0) (p.getD (m - 1) 0)=true)->Q m s)->(kas_asc p f a).kasWp cmp Q s
 | 0,a,_,_,h=>h a (Nat.le_refl _) (Nat.le_refl _) (fun k _ _=>by omega) (fun _=>by omega)
 | f+1,a,h1,h2,h=>A _ _ (hp.lt (by omega)) (hp.lt (by omega)) _ (by
   cases e:c (p.getD a 0) (p.getD (a - 1) 0) with
   | true =>
    dsimp only;rw[if_pos rfl];exact h a (Nat.le_refl _) (by omega) (fun k _ _=>by omega) fun _=>e
   | false =>
    dsimp only;rw[if_neg (by simp)]
    exact agp A hp f (a+1) (by omega) (by omega) fun m x1 x2 x3 x4=>h m (by omega) (by omega) (fun k k1 k2=>by
     by_cases q:k=a
     ·subst q;exact e
     ·exact x3 k (by omega) k2) fun q=>x4 (by omega))
theorem apv(A:Asks n c cmp s)(O:Od n c)(hp:Pm n p){Q:Array Nat×Nat×Nat->Shared->Prop}:∀f a,1<=a->a+f<=n->(∀k,1<=k->k < a->c (p.getD k 0) (p.getD (k - 1) 0)=true)->(∀m,a<=m->m<=a+f->(∀k,1<=k->k < m->c (p.getD k 0) (p.getD (k - 1) 0)=true)->Q (p,m,0) s)->(kas_desc f p a 0).kasWp cmp Q s
 | 0,a,_,_,hs,h=>h a (Nat.le_refl _) (Nat.le_refl _) hs
 | f+1,a,h1,h2,hs,h=>A _ _ (hp.lt (by omega)) (hp.lt (by omega)) _ (by
   cases e:c (p.getD a 0) (p.getD (a - 1) 0) with
   | true =>
    dsimp only;rw[if_pos rfl,if_neg (by omega)]
    exact apv A O hp f (a+1) (by omega) (by omega) (fun k k1 k2=>by
     by_cases q:k=a
     ·subst q;exact e
     ·exact hs k k1 (by omega)) fun m x1 x2 x3=>h m (by omega) (by omega) x3
   | false =>
    dsimp only;rw[if_neg (by simp)]
    refine A _ _ (hp.lt (by omega)) (hp.lt (by omega)) _ ?_
    rw[O.to _ _ (hp.lt (by omega)) (hp.lt (by omega)) (fun q=>by have:=hp.inj (by omega) (by omega) q;omega) e]
    dsimp only;rw[if_pos rfl];exact h a (Nat.le_refl _) (by omega) hs)
theorem ad1(hp:Pm n p)(i j:Nat):Pm n (kas_rev p i j):=⟨(Array.perm_iff_toList_perm.mp (mirror_perm p i j _)).trans hp.pm⟩
theorem adm(hp:Pm n p){m:Nat}(hm:m<=n){k:Nat}(hk:k < m):(kas_rev p 0 m).getD k 0=p.getD (m - 1 - k) 0:=by
 have e:=getElem?_mirror_all (xs:=p) (i:=0) (j:=m) (by rw[hp.size];exact hm) k
 rw[if_pos ⟨Nat.zero_le _,hk⟩,hp.get (by omega)] at e
 have e2:=(ad1 hp 0 m).get (k:=k) (by omega)
 unfold kas_rev at e2 ⊢
 rw[e2] at e;have:=Option.some.inj e;rw[this]
 congr 1
 omega
theorem aq8(hp:Pm n p){m:Nat}(hm:m<=n){k:Nat}(hk:m<=k)(hn:k < n):(kas_rev p 0 m).getD k 0=p.getD k 0:=by
 have e:=getElem?_mirror_all (xs:=p) (i:=0) (j:=m) (by rw[hp.size];exact hm) k
 rw[if_neg (by omega),hp.get hn] at e
 have e2:=(ad1 hp 0 m).get (k:=k) hn;unfold kas_rev at e2 ⊢
 rw[e2] at e;exact Option.some.inj e
theorem flip(O:Od n c)(hp:Pm n p){i j:Nat}(hi:i < n)(hj:j < n)(h:i≠j)(e:c (p.getD i 0) (p.getD j 0)=false):c (p.getD j 0) (p.getD i 0)=true :=
 O.to _ _ (hp.lt hi) (hp.lt hj) (fun q=>h (hp.inj hi hj q)) e
theorem auu(A:Asks n c cmp s)(O:Od n c)(hp:Pm n p){m:Nat}(h1:1<=m)(hm:m<=n)(hd:∀k,1<=k->k < m->c (p.getD k 0) (p.getD (k - 1) 0)=true){Q:Nat×Array Nat->Shared->Prop}
  (h:∀m' p',1<=m'->m'<=n->Pm n p'->Srt c p' m'->Q (m',p') s):(kas_tail3 m n p).kasWp cmp Q s:=by
 unfold kas_tail3;rw[KasT.kasWp_bind];have hr:=ad1 hp 0 m;refine agp A hr _ _ h1 (by omega) fun m' x1 x2 x3 _ =>?_
 refine h m' _ (by omega) (by omega) hr (atn O fun k k1 k2 =>?_)
 by_cases q:k < m
 ·rw[adm hp hm q,adm hp hm (k:=k - 1) (by omega)]
  have:=hd (m - 1 - (k - 1)) (by omega) (by omega)
  rwa[show m - 1 - (k - 1) - 1=m - 1 - k by omega] at this
 ·exact flip O hr (by omega) (by omega) (by omega) (x3 k (by omega) k2)
theorem asy(A:Asks n c cmp s)(O:Od n c)(hp:Pm n p)(h2:2<=n){Q:Nat×Array Nat->Shared->Prop}
  (h:∀m' p',1<=m'->m'<=n->Pm n p'->Srt c p' m'->Q (m',p') s):(kas_count n p).kasWp cmp Q s:=by
 unfold kas_count;rw[KasT.kasWp_bind];refine agp A hp _ _ (Nat.le_refl _) (by omega) fun m x1 x2 x3 x4 =>?_
 have hs:Srt c p m:=atn O fun k k1 k2=>flip O hp (by omega) (by omega) (by omega) (x3 k k1 k2)
 by_cases q:m=n
 ·rw[if_pos (by simp[q])]
  exact h m p x1 (by omega) hp hs
 ·rw[if_neg (by simp[q])]
  by_cases q1:m > 1
  ·rw[if_pos q1];refine A _ _ (hp.lt (by omega)) (hp.lt (by omega)) _ ?_
   rw[hs 0 (m - 1) (by omega) (by omega)]
   dsimp only;rw[if_pos rfl];exact h m p x1 (by omega) hp hs
  ·rw[if_neg q1];have e1:m=1:=by omega
   subst e1;have y:=x4 (by omega)
   unfold kas_descPart;rw[KasT.kasWp_bind];refine apv A O hp _ _ (by omega) (by omega) (fun k k1 k2 =>?_) fun m y1 y2 y3 =>?_
   ·have:k=1:=by omega
    subst this;exact y
   ·dsimp only;rw[if_neg (by omega)]
    exact auu A O hp (by omega) (by omega) y3 h
theorem ag6(A:Asks n c cmp s)(O:Od n c)(hp:Pm n p){k:Nat}(hk:k < n)(hs:Srt c p k){Q:Nat->Shared->Prop}:∀f l r,l<=r->r<=k->r - l<=f->(∀i,i < l->c (p.getD i 0) (p.getD k 0)=true)->(∀i,r<=i->i < k->c (p.getD k 0) (p.getD i 0)=true) ->
  (∀l',l'<=k->(∀i,i < l'->c (p.getD i 0) (p.getD k 0)=true)->(∀i,l'<=i->i < k->c (p.getD k 0) (p.getD i 0)=true)->Q l' s)->(kas_place p k f l r).kasWp cmp Q s
 | 0,l,r,h1,h2,h3,a,b,h=>h l (by omega) a fun i i1 i2=>b i (by omega) i2
 | f+1,l,r,h1,h2,h3,a,b,h=>by
  show KasT.kasWp cmp (if l≥r then .ret l else _) Q s
  by_cases q:l≥r
  ·rw[if_pos q];exact h l (by omega) a fun i i1 i2=>b i (by omega) i2
  ·rw[if_neg q];refine A _ _ (hp.lt hk) (hp.lt (by omega)) _ ?_
   cases e:c (p.getD k 0) (p.getD ((l+r) / 2) 0) with
   | true =>
    dsimp only;rw[if_pos rfl];refine ag6 A O hp hk hs f l ((l+r) / 2) (by omega) (by omega) (by omega) a (fun i i1 i2 =>?_) h
    by_cases z:i=(l+r) / 2
    ·subst z;exact e
    ·exact O.tr _ _ _ e (hs _ i (by omega) i2)
   | false =>
    dsimp only;rw[if_neg (by simp)]
    have e':=flip O hp hk (by omega) (by omega) e
    refine ag6 A O hp hk hs f ((l+r) / 2+1) r (by omega) h2 (by omega) (fun i i1 =>?_) b h
    by_cases z:i=(l+r) / 2
    ·subst z;exact e'
    ·exact O.tr _ _ _ (hs i ((l+r) / 2) (by omega) (by omega)) e'
theorem ah3(hp:Pm n p){k l:Nat}(hk:k < n)(hl:l<=k){j:Nat}(hj:j < n):(bubble p k (k - l)).getD j 0=if j=l then p.getD k 0 else if l < j/\j<=k then p.getD (j - 1) 0 else p.getD j 0:=by
 have e:=getElem?_bubble (xs:=p) (src:=k) (by rw[hp.size];exact hk) (k - l) (by omega) j
 rw[show k - (k - l)=l by omega,hp.get hk,hp.get hj] at e
 have hb:Pm n (bubble p k (k - l)):=⟨(Array.perm_iff_toList_perm.mp (bubble_perm p k _)).trans hp.pm⟩;rw[hb.get hj] at e
 by_cases h1:j=l
 ·rw[if_pos h1] at e ⊢
  exact Option.some.inj e
 ·rw[if_neg h1] at e ⊢
  by_cases h2:l < j/\j<=k
  ·rw[if_pos h2,hp.get (by omega)] at e
   rw[if_pos h2];exact Option.some.inj e
  ·rw[if_neg h2] at e ⊢
   exact Option.some.inj e
theorem auk(A:Asks n c cmp s)(O:Od n c){Q:Array Nat->Shared->Prop}(h:∀p',Pm n p'->Srt c p' n->Q p' s):∀f p k,k+f=n->Pm n p->Srt c p k->(kas_bin f p k).kasWp cmp Q s
 | 0,p,k,e,hp,hs=>h p hp (by rw[<-e];exact hs)
 | f+1,p,k,e,hp,hs=>by
  show KasT.kasWp cmp (KasT.bind _ _) Q s;rw[KasT.kasWp_bind];refine ag6 A O hp (by omega) hs k 0 k (by omega) (Nat.le_refl _) (by omega) (fun i hi=>by omega) (fun i i1 i2=>by omega) fun l hl a b =>?_
  refine auk A O h f _ (k+1) (by omega) ⟨(Array.perm_iff_toList_perm.mp (bubble_perm p k _)).trans hp.pm⟩ fun i j hij hj =>?_
  rw[ah3 hp (by omega) hl (by omega),ah3 hp (by omega) hl (by omega)]
  by_cases i1:i=l
  ·rw[if_pos i1,if_neg (by omega),if_pos (by omega)]
   exact b (j - 1) (by omega) (by omega)
  ·rw[if_neg i1]
   by_cases j1:j=l
   ·rw[if_pos j1,if_neg (by omega)]
    exact a i (by omega)
   ·rw[if_neg j1]
    by_cases i2:l < i
    ·rw[if_pos (by omega),if_pos (by omega)]
     exact hs _ _ (by omega) (by omega)
    ·rw[if_neg (by omega)]
     by_cases j2:l < j
     ·rw[if_pos (by omega)]
      by_cases z:i=j - 1
      ·omega
      ·exact hs _ _ (by omega) (by omega)
     ·rw[if_neg (by omega)]
      exact hs _ _ hij (by omega)
theorem au6(A:Asks n c cmp s)(O:Od n c)(h2:2<=n){Q:Array Nat->Shared->Prop}(h:∀p',Pm n p'->Srt c p' n->Q p' s):(kas_sort n).kasWp cmp Q s:=by
 unfold kas_sort;rw[KasT.kasWp_bind];refine asy A O ⟨by simp⟩ h2 fun m p m1 m2 hp hs =>?_
 dsimp only
 by_cases q:m < n
 ·rw[if_pos q];rw[show max m 1=m by omega]
  exact auk A O h _ _ _ (by omega) hp hs
 ·rw[if_neg q];exact h p hp (by rw[show n=m by omega];exact hs)
end
section
variable{prog:Program}{w:World}{A:Around}{E:Value->Shared->Prop}{s:Shared}
def acr(vs:List Value)(p:Array Nat):Array Value:=(p.toList.map fun i=>vs.getD i Value.none).toArray
theorem aim(vs:List Value):((List.range vs.length).map fun i=>vs.getD i Value.none)=vs:=by
 apply List.ext_getElem?;intro i;rw[List.getElem?_map]
 by_cases h:i < vs.length
 ·rw[List.getElem?_range h];simp[h]
 ·rw[List.getElem?_eq_none (by simpa using h),List.getElem?_eq_none (by omega)]
  rfl
theorem ams{a:Addr}{vs:List Value}{n:Nat}{P:PySem.Fin->Shared->Prop}{κ:SortKind}{c:Nat->Nat->Bool}(ho:s.heap.get? a=some (seqObj "list" vs.toArray n))(h64:vs.length < 64)(O:Od vs.length c)
  (hk:2<=vs.length->∀h':Heap,(∀b o,b≠a->s.heap.get? b=some o->h'.get? b=some o)->(∀Q:SortKind->Shared->Prop,Q κ { s with heap:=h' }->wpAny (model prog w) A (keyKind' vs.toArray) Q (fun _ _=>False) { s with heap:=h' })/\Asks vs.length c (kas_ask prog w A κ vs) { s with heap:=h' })
  (h:∀p,Pm vs.length p->Srt c p vs.length->P (.done (.ret .none)) { s with heap:=sortedHeap s.heap a vs (acr vs p) }) :
  wpAny (model prog w) A (Builtin.«list.sort» ⟨[.ref a],[]⟩) P E s:=by
 have ha:a < s.heap.objs.size:=Heap.lt_size ho;obtain⟨e1,ho1⟩:∃e1,(s.heap.update a (Obj.mapSeq fun _=>(#[]:Array Value))).get? a=some (seqObj "list" #[] e1):=⟨_,get?_update_seq ho fun _ => #[]⟩
 have ho6:(((s.heap.update a (Obj.mapSeq fun _=>(#[]:Array Value))).push (seqObj "tuple" vs.toArray 0)).push (seqObj "list" #[] 0)).get? a=some (seqObj "list" #[] e1):=Heap.get?_push_of_some _ (Heap.get?_push_of_some _ ho1)
 have kp:∀b o,b≠a->s.heap.get? b=some o->(((s.heap.update a (Obj.mapSeq fun _=>(#[]:Array Value))).push (seqObj "tuple" vs.toArray 0)).push (seqObj "list" #[] 0)).get? b=some o:=fun b o hb e =>
  Heap.get?_push_of_some _ (Heap.get?_push_of_some _ (by rw[Heap.get?_update_ne _ _ _ _ hb];exact e))
 rw[list_sort_plain];refine wpAny_bind (listItems_at ho rfl ?_);refine wpAny_bind (listUpdate_at ho rfl ?_ (by rw[List.size_toArray,sizeLine_eq];omega) (Nat.zero_le _))
 refine wpAny_bind (seqEpoch_at ho1 rfl ?_);refine wpAny_bind (wpAny_newTuple ?_ (by show vs.length<=_;rw[sizeLine_eq];omega))
 refine wpAny_bind (wpAny_newList ?_ (Nat.zero_le _));refine wpAny_holding ?_;show wpAny (model prog w) A _ P E { s with heap:=((s.heap.update a (Obj.mapSeq fun _=>(#[]:Array Value))).push (seqObj "tuple" vs.toArray 0)).push (seqObj "list" #[] 0) }
 dsimp only
 by_cases h2:vs.length < 2
 ·rw[if_pos (by rw[List.size_toArray];exact h2),if_pos (by rw[List.size_toArray];exact h2)]
  refine wpAny_bind (wpAny_pure ?_);rw[StateT.run_pure];refine wpAny_bind (wpAny_pure ?_);dsimp only;refine wpAny_bind (seqEpoch_at ho6 rfl ?_);have e0:(vs.toArray.zip vs.toArray).map (·.2)=acr vs (List.toArray (List.range vs.length)):=by
   unfold acr;rw[show(List.toArray (List.range vs.length)).toList=List.range vs.length from rfl,aim]
   apply Array.toList_inj.mp;simp[List.map_snd_zip]
  have hz:((vs.toArray.zip vs.toArray).map (·.2)).size<=sizeLine:=by
   rw[Array.size_map,Array.size_zip,List.size_toArray,sizeLine_eq];omega
  refine wpAny_bind (listUpdate_at ho6 rfl ?_ (Nat.zero_le _) (Nat.le_succ_of_le hz));simp only[bne_self_eq_false,Bool.false_eq_true,if_false];have z:=h (List.toArray (List.range vs.length)) ⟨List.Perm.refl _⟩ (fun i j hij hj=>by omega)
  rw[<-e0] at z;exact wpAny_pure z
 ·have hn2:¬vs.toArray.size < 2:=by rw[List.size_toArray];exact h2
  rw[if_neg hn2,if_neg hn2];obtain⟨k1,k2⟩:=hk (by omega) _ kp
  refine wpAny_bind (wpAny_mono (k1 _ ?_) (fun κ' s' q=>q) fun _ _ x=>x.elim)
  refine wpAny_bind (wpAny_mono (kat_run (Q:=fun st' s'=>s'={ s with heap:=((s.heap.update a (Obj.mapSeq fun _=>(#[]:Array Value))).push (seqObj "tuple" vs.toArray 0)).push (seqObj "list" #[] 0) }/\∃p:Array Nat,Pm vs.length p/\Srt c p vs.length/\arrOf st'=p.map (kas_item (vs.toArray.zip vs.toArray))/\failedOf st'=none)
   (G:=fun p s'=>s'={ s with heap:=((s.heap.update a (Obj.mapSeq fun _=>(#[]:Array Value))).push (seqObj "tuple" vs.toArray 0)).push (seqObj "list" #[] 0) }/\Pm vs.length p/\Srt c p vs.length)
   rfl (by omega) h64 (fun p st' s' a1 a2 a3 a4=>⟨a4.1,p,a4.2.1,a4.2.2,a2,a3⟩) (au6 k2 O (by omega) fun p hp hs=>⟨rfl,hp,hs⟩)) ?_ fun _ _ e=>e)
  intro r s' hr;obtain⟨u,st'⟩:=r;obtain⟨e,p,hp,hs,har,hf⟩:=hr;subst e;dsimp only at har hf ⊢
  have hout:(arrOf st').map (·.2)=acr vs p:=kat_snds rfl har;rw[hout];have hz:(acr vs p).size<=sizeLine:=by
   unfold acr;rw[List.size_toArray,List.length_map,Array.length_toList,hp.size,sizeLine_eq];omega
  refine wpAny_bind (seqEpoch_at ho6 rfl ?_);refine wpAny_bind (listUpdate_at ho6 rfl ?_ (Nat.zero_le _) (Nat.le_succ_of_le hz));rw[hf];simp only[bne_self_eq_false,Bool.false_eq_true,if_false];exact wpAny_pure (h p hp hs)
theorem aif{l:Addr}{vs:List Value}{Q:Value->Shared->Prop}{κ:SortKind}{c:Nat->Nat->Bool}(hl:s.heap.IsList l vs.toArray)(h64:vs.length < 64)(O:Od vs.length c)
  (hk:2<=vs.length->∀h':Heap,(∀b o,s.heap.get? b=some o->h'.get? b=some o)->(∀Q:SortKind->Shared->Prop,Q κ { s with heap:=h' }->wpAny (model prog w) A.in1.in1 (keyKind' vs.toArray) Q (fun _ _=>False) { s with heap:=h' })/\Asks vs.length c (kas_ask prog w A.in1.in1 κ vs) { s with heap:=h' })
  (h:∀p,Pm vs.length p->Srt c p vs.length->Q (.ref (s.heap.objs.size+1)) { s with heap:=sortedAll s.heap vs (acr vs p) }) :
  wpAny (model prog w) A (call (.builtin "sorted") [.ref l]) Q E s:=by
 refine Calls.call_function_entry kind_sorted plain_sorted entry_sorted (args_sorted1 _) ?_;unfold Builtin.«sorted»
 refine wpAny_bind (m:=checkCount "sorted" 1 1 _) (wpAny_pure ?_);refine wpAny_bind (collect_list hl ?_ (by rw[sizeLine_eq];omega))
 refine wpAny_bind (wpAny_newList ?_ (by rw[sizeLine_eq];omega))
 have hsz:((s.heap.push (seqObj "list" #[] 0)).update s.heap.objs.size (Obj.mapSeq (· ++ vs.toArray))).objs.size=s.heap.objs.size+1:=by
  rw[Heap.size_update,size_push']
 have hoL:(((s.heap.push (seqObj "list" #[] 0)).update s.heap.objs.size (Obj.mapSeq (· ++ vs.toArray))).push (seqObj "list" vs.toArray 0)).get? (s.heap.objs.size+1)=some (seqObj "list" vs.toArray 0):=by
  rw[<-hsz];exact Heap.get?_push_size _ rfl
 have keep:∀b o,s.heap.get? b=some o->(((s.heap.push (seqObj "list" #[] 0)).update s.heap.objs.size (Obj.mapSeq (· ++ vs.toArray))).push (seqObj "list" vs.toArray 0)).get? b=some o:=fun b o q=>by
  have hlt:b < s.heap.objs.size:=Heap.lt_size q;rw[Heap.get?_push_ne _ _ _ (by rw[hsz];exact Nat.ne_of_lt (Nat.lt_succ_of_lt hlt)),Heap.get?_update_ne _ _ _ _ (Nat.ne_of_lt hlt),Heap.get?_push_ne _ _ _ (Nat.ne_of_lt hlt)]
  exact q
 show wpAny _ _ _ _ _ { s with heap:=((s.heap.push (seqObj "list" #[] 0)).update s.heap.objs.size (Obj.mapSeq (· ++ vs.toArray))).push (seqObj "list" vs.toArray 0) }
 rw[hsz];refine wpAny_bind (wpAny_holding (wpAny_call_entry slot_list_sort ⟨_,hoL,rfl⟩ entry_list_sort (ams (κ:=κ) hoL h64 O (fun h2 h' k'=>hk h2 h' fun b o e=>k' b o (fun q=>absurd (Heap.lt_size e) (by rw[q];exact Nat.not_lt.mpr (Nat.le_succ _))) (keep b o e)) fun p hp hs=>⟨_,rfl,?_⟩) (args_list_sort _)))
 exact wpAny_pure ⟨_,rfl,h p hp hs⟩
def lexB:List Int->List Int->Bool
 | [],[]=>false
 | [],_::_=>true
 | _::_,[]=>false
 | a::x,b::y=>if a=b then lexB x y else decide (a < b)
theorem ahk:∀x y z:List Int,lexB x y=true->lexB y z=true->lexB x z=true
 | [],[],_,h,_=>by simp[lexB] at h
 | [],_::_,[],_,h=>by simp[lexB] at h
 | [],_::_,_::_,_,_=>by simp[lexB]
 | _::_,[],_,h,_=>by simp[lexB] at h
 | _::_,_::_,[],_,h=>by simp[lexB] at h
 | a::x,b::y,c::z,h,k=>by
  unfold lexB at h k ⊢
  by_cases e1:a=b
  ·subst e1;rw[if_pos rfl] at h
   by_cases e2:a=c
   ·rw[if_pos e2] at k ⊢
    exact ahk x y z h k
   ·rw[if_neg e2] at k ⊢
    exact k
  ·rw[if_neg e1,decide_eq_true_eq] at h
   by_cases e2:b=c
   ·subst e2;rw[if_neg e1,decide_eq_true_eq];exact h
   ·rw[if_neg e2,decide_eq_true_eq] at k;rw[if_neg (by omega),decide_eq_true_eq]
    omega
theorem ae8:∀x y:List Int,x≠y->lexB x y=false->lexB y x=true
 | [],[],h,_=>absurd rfl h
 | [],_::_,_,h=>by simp[lexB] at h
 | _::_,[],_,_=>by simp[lexB]
 | a::x,b::y,h,k=>by
  unfold lexB at k ⊢
  by_cases e:a=b
  ·subst e;rw[if_pos rfl] at k ⊢
   exact ae8 x y (fun q=>h (by rw[q])) k
  ·rw[if_neg e,decide_eq_false_iff_not] at k;rw[if_neg (fun q=>e q.symm),decide_eq_true_eq]
   omega
theorem ab5:∀x y:List Int,lexB x y=true->lexB y x=false
 | [],[],h=>by simp[lexB] at h
 | [],_::_,_=>by simp[lexB]
 | _::_,[],h=>by simp[lexB] at h
 | a::x,b::y,h=>by
  unfold lexB at h ⊢
  by_cases e:a=b
  ·subst e;rw[if_pos rfl] at h ⊢
   exact ab5 x y h
  ·rw[if_neg e,decide_eq_true_eq] at h;rw[if_neg (fun q=>e q.symm),decide_eq_false_iff_not]
   omega
theorem aln{b:Bool}{Q:Bool->Shared->Prop}:∀{xs ys:List Value} {as bs:List Int} (i:Nat),IntsAre xs as->IntsAre ys bs->Q (lexB as bs) s->KatLex prog w A b (decide (as.length < bs.length)) Q (xs.zip ys) i s
 | [],[],_,_,i,.nil,.nil,h=>kat_nil h
 | [],_::_,_,_,i,.nil,.cons n t r,h=>kat_nil (by simpa[lexB] using h)
 | _::_,[],_,_,i,.cons n t r,.nil,h=>kat_nil (by simpa[lexB] using h)
 | _::_,_::_,_,_,i,.cons n t r,.cons m u r',h=>by
  rw[List.zip_cons_cons];refine kat_cons (wpAny_eqBool_int ?_);unfold lexB at h
  by_cases e:n=m
  ·rw[if_pos e] at h;rw[show(n==m)=true by simpa using e]
   refine kat_yes ?_;have:=aln (b:=b) (i+1) r r' h
   simpa using this
  ·rw[if_neg e] at h;rw[show(n==m)=false by simpa using e]
   refine kat_no ?_;cases b&&i==0 with
   | true=>exact oneLt_int h
   | false=>exact kat_one _ _ (lt_int h)
end
end Kst
namespace Dn
open PySem PySem.Spec PySem.W PyProof.Rows L2 Mn Kst
def rowT(r:List Int):D:=.tup (r.map D.int)
def uw:List D->Option (LL9)
 | []=>some []
 | .tup l::r=>(mj l).bind fun a=>(uw r).map (a :: ·)
 | _::_=>none
theorem mq:∀rows:LL9,uw (rows.map rowT)=some rows
 | []=>rfl
 | r::rows=>by
  show(mj (r.map D.int)).bind _=_;rw[aa3,Option.bind_some,mq rows];rfl
theorem aco:∀{l:List D} {rows:LL9},uw l=some rows->l=rows.map rowT
 | [],_,h=>by cases h;rfl
 | .tup t::l,rows,h=>by
  have h:(mj t).bind (fun a=>(uw l).map (a :: ·))=some rows:=h
  cases e:mj t with
  | none=>rw[e] at h;cases h
  | some a =>
   rw[e,Option.bind_some] at h;cases e2:uw l with
   | none=>rw[e2] at h;cases h
   | some rs =>
    rw[e2] at h;cases h;rw[List.map_cons,<-aco e2,rowT,<-za e]
def insL(x:List Int):LL9->LL9
 | []=>[x]
 | y::r=>if lexB x y then x::y::r else y::insL x r
def wk:LL9->LL9
 | []=>[]
 | x::r=>insL x (wk r)
theorem ac2(x:List Int):∀l,(insL x l).Perm (x::l)
 | []=>.refl _
 | y::r=>by
  unfold insL;split
  ·exact .refl _
  ·exact((ac2 x r).cons y).trans (.swap x y r)
theorem uz:∀l,(wk l).Perm l
 | []=>.refl _
 | x::r=>(ac2 x (wk r)).trans ((uz r).cons x)
abbrev LxS(l:LL9):Prop:=l.Pairwise fun a b=>lexB a b=true
theorem afc(x:List Int):∀{l},x∉l->LxS l->LxS (insL x l)
 | [],_,_=>by simp[insL,LxS]
 | y::r,hx,h=>by
  unfold insL;have h:=List.pairwise_cons.mp h;split
  ·rename_i hxy;refine List.pairwise_cons.mpr ⟨fun z hz =>?_,List.pairwise_cons.mpr h⟩
   rcases List.mem_cons.mp hz with rfl | hz
   ·exact hxy
   ·exact ahk _ _ _ hxy (h.1 z hz)
  ·rename_i hxy;refine List.pairwise_cons.mpr ⟨fun z hz =>?_,afc x (fun q=>hx (List.mem_cons_of_mem _ q)) h.2⟩
   rcases List.mem_cons.mp ((ac2 x r).mem_iff.mp hz) with rfl | hz
   ·exact ae8 _ _ (fun q=>hx (by rw[q];exact List.mem_cons_self ..)) (by simpa using hxy)
   ·exact h.1 z hz
theorem ad0:∀{l:LL9},l.Nodup->LxS (wk l)
 | [],_=>.nil
 | x::r,h=>by
  have h:=List.nodup_cons.mp h;exact afc x (fun q=>h.1 ((uz r).mem_iff.mp q)) (ad0 h.2)
theorem aoy:∀{l k:LL9},l.Perm k->LxS l->LxS k->l=k
 | [],k,h,_,_=>h.nil_eq
 | x::r,[],h,_,_=>absurd h.length_eq (by simp)
 | x::r,y::t,h,hl,hk=>by
  have hl:=List.pairwise_cons.mp hl;have hk:=List.pairwise_cons.mp hk;have e:x=y:=by
   have h1:x∈y::t:=h.mem_iff.mp (List.mem_cons_self ..);have h2:y∈x::r:=h.mem_iff.mpr (List.mem_cons_self ..);rcases List.mem_cons.mp h1 with h1 | h1
   ·exact h1
   ·rcases List.mem_cons.mp h2 with h2 | h2
    ·exact h2.symm
    ·have a:=hk.1 x h1;have b:=hl.1 y h2;rw[ab5 _ _ a] at b;cases b
  subst e;rw[aoy ((List.perm_cons x).mp h) hl.2 hk.2]
inductive TupsAre (h:Heap):List Value->LL9->Prop
 | nil:TupsAre h [] []
 | cons {a:Addr} {o:Obj} {xs:List Value} {n:Nat} {r:List Int} {us:List Value} {rs:LL9} (e:h.get? a=some o) (c:o.cls=.type "tuple") (d:o.data=.seq xs.toArray n) (i:IntsAre xs r) (t:TupsAre h us rs):TupsAre h (.ref a::us) (r::rs)
theorem TupsAre.len{h:Heap}:∀{us:List Value} {rs:LL9},TupsAre h us rs->us.length=rs.length
 | _,_,.nil=>rfl
 | _,_,.cons _ _ _ _ t=>by rw[List.length_cons,List.length_cons,t.len]
theorem TupsAre.mono{h h':Heap}(k:∀b o,h.get? b=some o->h'.get? b=some o):∀{us:List Value} {rs:LL9},TupsAre h us rs->TupsAre h' us rs
 | _,_,.nil=>.nil
 | _,_,.cons e c d i t=>.cons (k _ _ e) c d i (t.mono k)
theorem TupsAre.at{h:Heap}:∀{us:List Value} {rs:LL9},TupsAre h us rs->∀i,i < rs.length->∃a o xs n,us.getD i Value.none=.ref a/\h.get? a=some o/\o.data=.seq (List.toArray xs) n/\IntsAre xs (rs.getD i [])
 | _,_,.cons e c d i t,0,_=>⟨_,_,_,_,rfl,e,d,i⟩
 | _,_,.cons e c d i t,k+1,hk=>by
  obtain⟨a,o,xs,n,e1,e2,e3,e4⟩:=t.at k (by simpa using hk)
  exact⟨a,o,xs,n,by simpa using e1,e2,e3,by simpa using e4⟩
theorem TupsAre.kat{h:Heap}:∀{us:List Value} {rs:LL9},TupsAre h us rs->(∀r∈rs,r≠[])->∃fs:List Value,KatTups h us fs/\fs.length=rs.length/\∀f∈fs,∃i t,f=Value.int i t
 | _,_,.nil,_=>⟨[],.nil,rfl,fun _ h=>by cases h⟩
 | _,_,.cons (r:=r) e c d i t,hn=>by
  obtain⟨fs,k,l,z⟩:=t.kat fun r hr=>hn r (List.mem_cons_of_mem _ hr)
  cases i with
  | nil=>exact absurd rfl (hn _ (List.mem_cons_self ..))
  | cons m u q =>
   refine⟨.int m u::fs,KatTups.cons e c d (by simp) k,by simp[l],fun f hf =>?_⟩
   rcases List.mem_cons.mp hf with rfl | hf
   ·exact⟨m,u,rfl⟩
   ·exact z f hf
section
variable{K:Fg9}{X:Cx}
theorem xx{jv:List (Addr×Obj)}{σ:L2.St}{F H:Hp}{s:Shared}(I:Inv X jv σ H s)(g:Same F H):∀{rs:LL9} {vs:List V} {us:List Value},IsL X.K F (rs.map rowT) vs->Vals vs us->TupsAre s.heap us rs
 | [],_,_,h,r=>by cases h;cases r;exact .nil
 | a::rs,_,_,.cons h t,r=>by
  cases r with
  | cons r1 r2 =>
   have z:=xx I g t r2;have h:Is X.K F (.tup (a.map D.int)) _:=h;cases h with
   | tup e hl =>
    rw[hl.int_inv] at e;cases r1;obtain⟨its,rv,⟨o,e1,e2,n,e3⟩,_⟩:=I.tuple (SqT.of (g _ _ e));exact .cons e1 e2 e3 (intsAre_of rv) z
def apg:D->Option Rv
 | .lst l=>(uw l).bind fun rows=>if (decide (rows.length < 64)&&rows.all (fun r => !r.isEmpty)&&decide rows.Nodup)=true then some (.fr ((wk rows).map rowT)) else none
 | _=>none
theorem akn{rows:LL9}(h:rows.length < 64)(hn:∀r∈rows,r≠[])(nd:rows.Nodup):apg (.lst (rows.map rowT))=some (.fr ((wk rows).map rowT)):=by
 show(uw (rows.map rowT)).bind _=_;rw[mq,Option.bind_some,if_pos];simp only[Bool.and_eq_true,decide_eq_true_eq,List.all_eq_true];exact⟨⟨h,fun r hr=>by cases r with
  | nil=>exact absurd rfl (hn _ hr)
  | cons=>rfl⟩,nd⟩
theorem acp{α:Type}(d:α){l:List α}{p:Array Nat}(hp:Pm l.length p):(p.toList.map fun i=>l.getD i d).Perm l:=by
 refine(hp.pm.map _).trans ?_;have e:((List.range l.length).map fun i=>l.getD i d)=l:=by
  apply List.ext_getElem?;intro i;rw[List.getElem?_map]
  by_cases h:i < l.length
  ·rw[List.getElem?_range h];simp[h]
  ·rw[List.getElem?_eq_none (by simpa using h),List.getElem?_eq_none (by omega)]
   rfl
 rw[e]
theorem au4{rows:LL9}{p:Array Nat}(hp:Pm rows.length p)(hs:Srt (fun i j=>lexB (rows.getD i []) (rows.getD j [])) p rows.length):LxS (p.toList.map fun i=>rows.getD i []):=by
 rw[LxS,List.pairwise_map,List.pairwise_iff_getElem];intro i j hi hj hij;have h:=hs i j hij (by rw[<-hp.size];simpa using hj)
 have e1:=hp.get (k:=i) (by rw[<-hp.size];simpa using hi)
 have e2:=hp.get (k:=j) (by rw[<-hp.size];simpa using hj)
 have f1:p.toList[i]=p.getD i 0:=by
  have hi':i < p.size:=by simpa using hi
  simp[Array.getD,hi']
 have f2:p.toList[j]=p.getD j 0:=by
  have hj':j < p.size:=by simpa using hj
  simp[Array.getD,hj']
 rw[f1,f2];exact h
theorem aho{F:Hp}{rows:LL9}{vs:List V}(h:IsL K F (rows.map rowT) vs):∀{p:List Nat},(∀i∈p,i < rows.length)->IsL K F ((p.map fun i=>rows.getD i []).map rowT) (p.map fun i=>vs.getD i .non)
 | [],_=>.nil
 | i::p,hp=>by
  have hi:=hp i (List.mem_cons_self ..);obtain⟨v,e,hv⟩:=h.get (i:=i) (d:=rowT (rows.getD i [])) (by simp[hi])
  have e':vs.getD i .non=v:=by simp[e]
  refine .cons ?_ (aho h fun j hj=>hp j (List.mem_cons_of_mem _ hj))
  dsimp only;rw[e'];exact hv
theorem aeq{vs:List V}{us:List Value}(h:Vals vs us):∀{p:List Nat},(∀i∈p,i < vs.length)->Vals (p.map fun i=>vs.getD i .non) (p.map fun i=>us.getD i Value.none)
 | [],_=>.nil
 | i::p,hp=>by
  have hi:=hp i (List.mem_cons_self ..);refine .cons ?_ (aeq h fun j hj=>hp j (List.mem_cons_of_mem _ hj))
  have:∀{vs:List V} {us:List Value} {i:Nat},Vals vs us->i < vs.length->RelV (vs.getD i .non) (us.getD i Value.none):=by
   intro vs us i h
   induction h generalizing i with
   | nil=>intro h;simp at h
   | cons a b ih =>
    intro hi;cases i with
    | zero=>exact a
    | succ i=>simpa using ih (by simpa using hi)
  exact this h hi
theorem as5:CallD K X (.builtin "sorted") (g1 apg):=uv fun hk jv s σ0 H x u Q tg F ρ σ d r I ru G bd eg q=>by
 subst hk;cases d with
 | lst l =>
  have eg:(uw l).bind (fun rows=>if (decide (rows.length < 64)&&rows.all (fun r => !r.isEmpty)&&decide rows.Nodup)=true then some (Rv.fr ((wk rows).map rowT)) else none)=some r:=eg
  cases e:uw l with
  | none=>rw[e] at eg;cases eg
  | some rows =>
   rw[e,Option.bind_some] at eg;split at eg
   ·rename_i hc;simp only[Bool.and_eq_true,decide_eq_true_eq,List.all_eq_true] at hc;obtain⟨⟨h64,hne⟩,nd⟩:=hc;have hne:∀r∈rows,r≠[]:=fun r hr q=>by have:=hne r hr;rw[q] at this;cases this
    cases eg;obtain⟨a,vs,rfl,ea,hl⟩:=bd.lst G.sub;rw[aco e] at hl;cases ru;obtain⟨its,rv,pl,_⟩:=I.list (SqL.of ea);have hlen:vs.length=its.length:=rv.length;have T:=xx I G.sub hl rv;have tl:=T.len;have O:Od its.length fun i j=>lexB (rows.getD i []) (rows.getD j []):=⟨fun i j k=>ahk _ _ _,fun i j hi hj hij=>ae8 _ _ fun q=>hij (by
     have hi':i < rows.length:=by omega
     have hj':j < rows.length:=by omega
     exact(List.getElem?_inj hi' nd).mp (by
      have e1:rows[i]? = some (rows.getD i []):=by simp[hi']
      have e2:rows[j]? = some (rows.getD j []):=by simp[hj']
      rw[e1,e2,q]))⟩
    refine aif (κ:=tuples' (Value.type "int" != Value.type "tuple")) pl.isList (by omega) O (fun h2 h' k'=>⟨fun Q q =>?_,fun i j hi hj C hC =>?_⟩) fun p hp hs =>?_
    ·obtain⟨fs,kt,fl,fz⟩:=(T.mono k').kat hne;refine kat_kind kt (by omega) (fun v hv =>?_) (by decide) q
     obtain⟨i,t,rfl⟩:=fz v hv;exact Looks.of_pure rfl
    ·obtain⟨a1,o1,xs1,n1,f1,g1,d1,i1⟩:=(T.mono k').at i (by omega)
     obtain⟨a2,o2,xs2,n2,f2,g2,d2,i2⟩:=(T.mono k').at j (by omega)
     unfold kas_ask;rw[f1,f2];refine kat_lt g1 d1 g2 d2 ?_;have l1:xs1.toArray.size=(rows.getD i []).length:=i1.length;have l2:xs2.toArray.size=(rows.getD j []).length:=i2.length;rw[l1,l2];exact aln 0 i1 i2 hC
    ·have hp':Pm rows.length p:=tl▸hp;have hs':Srt (fun i j=>lexB (rows.getD i []) (rows.getD j [])) p rows.length:=tl▸hs
     have e':(p.toList.map fun i=>rows.getD i [])=wk rows:=aoy ((acp [] hp').trans (uz rows).symm) (au4 hp' hs') (ad0 nd)
     have hm:∀i∈p.toList,i < rows.length:=fun i hi=>by simpa using hp'.pm.mem_iff.mp hi
     obtain⟨ep,eo⟩:=PyProof.Rows.sortedAll_at s.heap its (acr its p);have hn:H (s.heap.objs.size+1)=none:=I.hok.fresh (Nat.le_succ _);have il:=aho hl hm;rw[e'] at il;refine⟨.ref (s.heap.objs.size+1),upd H (s.heap.objs.size+1) (.lst (p.toList.map fun i=>vs.getD i .non)),?_,rfl,Res.lst G q il hn⟩
     refine I.laid (t':=s.toks) (fun b u e=>PyProof.Rows.sortedAll_old e) (Nat.le_succ _) ?_
     refine⟨?_,(p.toList.map fun i=>its.getD i Value.none),ep,aeq rv fun i hi=>by have:=hm i hi;omega,eo⟩
     rw[List.length_map,Array.length_toList,hp'.size];exact Nat.le_of_lt (aan (by omega))
   ·cases eg
 | _=>cases eg
def ac3(d:D):Option Rv:=match abi d with
 | some r=>some r
 | none=>apg d
theorem anf:CallD K X (.builtin "sorted") (g1 ac3):=uv fun hk jv s σ0 H x u Q tg F ρ σ d r I ru G bd eg q=>by
 unfold ac3 at eg;cases e:abi d with
 | some r' =>
  rw[e] at eg;cases eg;exact agm.go hk jv s σ0 H [x] [u] Q I (.cons ru .nil) ⟨tg,F,ρ,σ,[d],_,G,.cons bd .nil,e,q⟩
 | none =>
  rw[e] at eg;exact as5.go hk jv s σ0 H [x] [u] Q I (.cons ru .nil) ⟨tg,F,ρ,σ,[d],_,G,.cons bd .nil,eg,q⟩
theorem ahr{rows:LL9}(h:rows.length < 64)(hn:∀r∈rows,r≠[])(nd:rows.Nodup):ac3 (.lst (rows.map rowT))=some (.fr ((wk rows).map rowT)):=by
 cases rows with
 | nil=>rfl
 | cons r rows =>
  unfold ac3;rw[show abi (.lst ((r::rows).map rowT))=none from rfl]
  exact akn h hn nd
end
section
variable{K:Fg9}{X:Cx}{e a b:Expr}{es:List Expr}{pos p:Pos}
def TP(K:Fg9)(m:M Nat):TE:=fun σ H Q=>∃tg F ρ g ρ',Good K tg F H ρ σ/\m ρ=some (.ok g,ρ') /\
 ∀v H' F',Good K tg F' H' ρ' σ->Ext (Own ρ σ) (Own ρ' σ) F H F' H'->σ[g]? = some (some v)->(∃t l,(ρ':List Sl)[g]? = some (.own t l))->Q v H'
structure EPt (K:Fg9) (X:Cx) (e:Expr) (m:M Nat):Prop where
 go:X.K=K->PE X e (TP K m)
def mGh(base k:Nat):M Nat:=fun ρ=>match (ρ:List Sl)[base+(k - 1000)]? with
 | some (.own (some k') _)=>if k'=k then some (.ok (base+(k - 1000)),ρ) else none
 | _=>none
def mLol(i:Nat):M (List Nat):=fun ρ=>match (ρ:List Sl)[i]? with
 | some (.lol ts)=>some (.ok ts,ρ)
 | _=>none
def mRow(i base:Nat)(mb:M D):M Nat:=(mLol i).bind fun _=>mb.bind fun d=>(mLol i).bind fun ts=>(lift ((asI d).bind fun r=>atI ts r)).bind fun k=>mGh base k
section
variable{tg:Nat->Addr}{F H:Hp}{ρ ρ':Ro}{σ:L2.St}
theorem a3v(G:Good K tg F H ρ σ){base k g:Nat}(em:mGh base k ρ=some (.ok g,ρ')):ρ'=ρ/\σ[g]? = some (some (.ref (tg k)))/\∃l,(ρ:List Sl)[g]? = some (.own (some k) l):=by
 unfold mGh at em;split at em
 ·rename_i k' l eo;split at em
  ·rename_i hk;cases em;subst hk;obtain⟨o,ho,a,vs,rfl,hf,hh,hl,ht⟩:=G.at eo;exact⟨rfl,by rw[ht _ rfl];exact ho,l,eo⟩
  ·cases em
 ·cases em
theorem atz(G:Good K tg F H ρ σ){i:Nat}{ts:List Nat}(em:mLol i ρ=some (.ok ts,ρ')):ρ'=ρ/\∃a,σ[i]? = some (some (.ref a))/\F a=some (.lst (ts.map fun k=>V.ref (tg k))):=by
 unfold mLol at em;split at em
 ·rename_i ts' eo;cases em;obtain⟨o,ho,a,rfl,hf⟩:=G.at eo;exact⟨rfl,a,ho,hf⟩
 ·cases em
end
theorem a0p{ts:List Nat}{r:Int}{k:Nat}(h:atI ts r=some k)(f:Nat->V):atI (ts.map f) r=some (f k):=by
 unfold atI at h ⊢
 rw[List.length_map];cases e:ixN ts.length r with
 | none=>rw[e] at h;cases h
 | some j =>
  rw[e] at h;have h:ts[j]? = some k:=h;show(ts.map f)[j]? = _;rw[List.getElem?_map,h];rfl
theorem alc{i base:Nat}{mb:M D}(ho:PE X a (tVar i))(hb:EV K X b mb)(hs:ak1 b):EPt K X (.Subscript a b pos) (mRow i base mb):=EPt.mk fun hk=>PE.imp (ayr apa ho (hb hk) hs) fun σ H Q z9=>by
 subst hk;obtain⟨tg,F,ρ,g,ρ',G,em1,q⟩:=z9;obtain⟨ts0,ρ0,e0,em2⟩:=aq em1;obtain⟨d,ρ1,e1,em3⟩:=aq em2;obtain⟨ts,ρ2,e2,em4⟩:=aq em3;obtain⟨k,ρ3,e3,em5⟩:=aq em4;obtain⟨ek,rfl⟩:=gk e3;obtain⟨rfl,a0,hv,_⟩:=atz G e0;refine⟨_,hv,tg,F,_,d,ρ1,G,e1,fun y H1 F1 G1 x1 r1 =>?_⟩
 obtain⟨rfl,a1,hv',hF⟩:=atz G1 e2;rw[hv] at hv';cases hv';cases ed:asI d with
 | none=>rw[ed] at ek;cases ek
 | some n =>
  rw[ed] at ek;obtain rfl:=ajw ed;cases r1;obtain⟨rfl,hg,l,el⟩:=a3v G1 em5;exact⟨a0,_,n,_,rfl,rfl,SqL.of (G1.sub _ _ hF),a0p ek _,q _ H1 F1 G1 x1 hg ⟨_,l,el⟩⟩
def mPtB(m:M Nat):M D:=m.bind fun g=>di g
theorem a0e{m:M Nat}(h:EPt K X e m):EB K X e (mPtB m):=EB.mk fun hk=>PE.imp (h.go hk) fun σ H Q z9=>by
 obtain⟨tg,F,ρ,d,ρ',G,em,q⟩:=z9;obtain⟨g,ρ1,e1,em⟩:=aq em;refine⟨tg,F,ρ,g,ρ1,G,e1,fun v H' F' G' x hv _ =>?_⟩
 obtain⟨rfl,v',hv',b'⟩:=qb G' em;rw[hv] at hv';cases hv';exact q v H' F' G' x b'
def mOne(m:M D):M (List D):=m.bind fun d=>ret [d]
theorem aue{m:M D}(h:EB K X e m)(hs:starEach [e] X.env=(false,eval e X.env)::starEach [] X.env:=by rfl):EA K X [e] (mOne m):=EA.mk fun hk=>PA.imp (qw (h hk) ad4 hs) fun σ H Q z9=>by
 obtain⟨tg,F,ρ,ds,ρ',G,em,q⟩:=z9;obtain⟨d,ρ1,e1,em⟩:=aq em;obtain⟨rfl,rfl⟩:=jf em;exact⟨tg,F,ρ,d,_,G,e1,fun v H1 F1 G1 x1 r1=>q _ H1 F1 G1 x1 (.cons r1 .nil)⟩
def akg(mp:M Nat)(g:List D->List D->Option (D×List D))(ms:M (List D)):M D:=mp.bind fun i=>ms.bind fun ds=>(mOwn i).bind fun l=>(lift (g l ds)).bind fun r=>(aa2 i r.2).bind fun _=>ret r.1
theorem apr{mp:M Nat}{name:Str}{id:String}{r:V->List V->Hp->VK->Prop}{g:List D->List D->Option (D×List D)}{ms:M (List D)}{apos cpos:Pos}(hr:MutD K r g)(slot:Slot "list" name id)(hty:typeOf (.builtin id)=pure (.type "method_descriptor"))(hm:MtR X id r)(ho:EPt K X a mp)(ha:ED K X (e::es) ms)
  (hbase:attributeBase a name X.env (eval a X.env)=eval a X.env:=by rfl)
  (hfew:((backTo cpos (starEach (e::es) X.env)).all (fun x => !x.1)&&(backToKw cpos (keywordEach [] X.env)).all (fun x=>x.1.isSome)
   && decide ((e::es).length+([]:List Keyword).length+(if ([]:List Keyword).isEmpty then 0 else 1) < 30))=true:=by rfl)
  (hline:(apos.endLine==cpos.line)=true:=by rfl) (hs:starEach (e::es) X.env=(false,eval e X.env)::starEach es X.env:=by rfl) (hplain:(backTo cpos (starEach es X.env)).any (·.1)=false:=by rfl) :
  EV K X (.Call (.Attribute a name apos) (e::es) [] cpos) (akg mp g ms):=EV.mk fun hk=>by
 intro jv s σ H Q I z9;obtain⟨tg,F,ρ,d,ρ',G,em,q⟩:=z9;obtain⟨i,ρ0,e0,em1⟩:=aq em;obtain⟨ds,ρ1,e1,em2⟩:=aq em1;obtain⟨l,ρ2,e2,em3⟩:=aq em2;obtain⟨x,ρ3,e3,em4⟩:=aq em3;obtain⟨u,ρ4,e4,em5⟩:=aq em4;obtain⟨rfl,rfl⟩:=jf em5;obtain⟨eg,rfl⟩:=gk e3;refine aol (r:=fun x vs H Q=>(∀b xs,x=.ref b->H b=some (.lst xs)->xs.length<=capS)->r x vs H Q) PySem.F.plainAttrs_list slot hty (fun jv s σ H x xs v us Q I rx rv h=>hm jv s σ H x xs v us Q I rx rv (h fun b xs _ hb =>?_)) (ho.go hk) (ha hk) hbase hfew hline hs hplain jv s σ H Q I ?_
 ·obtain⟨z,_⟩:=I.lstM hb;rw[sizeLine_eq] at z;exact z
 refine⟨tg,F,ρ,i,ρ0,G,e0,fun v H0 F0 G0 x0 hv ho =>?_⟩
 obtain⟨t0,l0,eo⟩:=ho;obtain⟨o,ho',b,xs0,rfl,_,hh0,_,_⟩:=G0.at eo;rw[hv] at ho';cases ho';refine⟨.inl ⟨rfl,_,SqL.of hh0⟩,tg,F0,ρ0,ds,ρ1,G0,e1,fun vs H1 F1 G1 x1 r1 cap =>?_⟩
 obtain⟨rfl,t,a',xs,es',hv',hh,hl⟩:=ae2 G1 e2;rw[hv] at hv';cases hv';refine hr F1 H1 _ xs vs l ds x.1 x.2 Q G1.sub hh (cap _ _ rfl hh) hl r1 eg fun w ys iw il =>?_
 obtain⟨G2,x2⟩:=ahi G1 e4 hv il;exact q w _ F1 G2 ((x0.trans x1).trans x2) iw
def mkR(l:List D):Str×Rv:=("", .fr l)
def mkV(a:Addr):Str×V:=("", .ref a)
section
variable{F H:Hp}{O:Addr->Prop}
theorem FdR.snoc{rs:List (Str×Rv)}{fvs:List (Str×V)}{A:List Addr}(h:FdR K F H O rs fvs A){f:Str}{l:List D}{e:Addr}{ws:List V}(hf:F e=none)(hn:¬O e)(hh:H e=some (.lst ws))(hl:IsL K F l ws)(ne:e∉A) :
  FdR K F H O (rs++[(f,.fr l)]) (fvs++[(f,.ref e)]) (A++[e]):=by
 induction h with
 | nil=>exact .fr hf hn hh hl List.not_mem_nil .nil
 | v h t ih=>exact .v h (ih ne)
 | fr hf' hn' hh' h' ne' t ih =>
  refine .fr hf' hn' hh' h' (fun z =>?_) (ih fun z=>ne (List.mem_cons_of_mem _ z))
  rcases List.mem_append.mp z with z | z
  ·exact ne' z
  ·rw[List.mem_singleton] at z;subst z;exact ne (List.mem_cons_self ..)
theorem FdR.out2{rs:List (Str×Rv)}{fvs:List (Str×V)}{A:List Addr}(h:FdR K F H O rs fvs A){O':Addr->Prop}(w:∀z∈A,¬O' z):FdR K F H O' rs fvs A:=by
 induction h with
 | nil=>exact .nil
 | v h t ih=>exact .v h (ih w)
 | @fr f l e ws rs fvs A hf hn hh h ne t ih=>exact .fr hf (w e (List.mem_cons_self ..)) hh h ne (ih fun z hz=>w z (List.mem_cons_of_mem _ hz))
theorem FdR.frz{rs:List (Str×Rv)}{fvs:List (Str×V)}{A:List Addr}(h:FdR K F H O rs fvs A){d:Addr}{o:HO}(hd:d∉A)(hf:F d=none):FdR K (L2.upd F d o) H O rs fvs A:=by
 induction h with
 | nil=>exact .nil
 | v h t ih=>exact .v (h.mono (Same.new hf o)) (ih hd)
 | @fr f l e ws rs fvs A hf' hn hh h ne t ih =>
  have h1:e≠d:=fun q=>hd (q▸List.mem_cons_self ..)
  exact .fr (by rw[b8 h1];exact hf') hn hh (h.mono (Same.new hf o)) ne (ih fun q=>hd (List.mem_cons_of_mem _ q))
theorem FdR.lenA{rs:List (Str×Rv)}{fvs:List (Str×V)}{A:List Addr}(h:FdR K F H O rs fvs A):(∀r∈rs,∃l,r.2=.fr l)->A.length=rs.length:=by
 induction h with
 | nil=>exact fun _=>rfl
 | v h t ih =>
  intro w;obtain⟨l,z⟩:=w _ (List.mem_cons_self ..);cases z
 | fr hf hn hh h ne t ih=>intro w;rw[List.length_cons,List.length_cons,ih fun r hr=>w r (List.mem_cons_of_mem _ hr)]
end
def compR(b:D->Ro->Option Ro)(me:M Rv):List D->List (List D)->M (List (List D))
 | [],ys=>ret ys
 | d::ds,ys=>fun ρ=>match b d ρ with
  | none=>none
  | some ρ1=>(me.bind fun y=>match y with | .fr l=>compR b me ds (ys++[l]) | _=>fun _=>none) ρ1
def af9(src:List (Option Nat))(mi:M (List D))(b:D->Ro->Option Ro)(me:M Rv):M (List (List D)):=mi.bind fun l ρ=>if okJs ρ src=true then match compR b me l [] (lend ρ src (src.map fun _=>none)) with
  | some (.ok ys,ps)=>if ys.length<=capS then some (.ok ys,putB ρ src ps) else none
  | some (.exc x,ps)=>some (.exc x,putB ρ src ps)
  | none=>none
 else none
theorem ajj{b:D->Ro->Option Ro}{me:M Rv}:∀{l:List D} {ys yf:List (List D)} {ρ ρ':Ro},compR b me l ys ρ=some (.ok yf,ρ')->ys.length<=yf.length
 | [],ys,yf,ρ,ρ',h=>by
  obtain⟨rfl,_⟩:=jf (show ret ys ρ=_ from h)
  exact Nat.le_refl _
 | d::ds,ys,yf,ρ,ρ',h=>by
  unfold compR at h;split at h
  ·cases h
  ·obtain⟨y,ρ3,e3,h⟩:=aq h;split at h
   ·have:=ajj h;rw[List.length_append] at this;omega
   ·cases h
theorem aox{src:List (Option Nat)}{mi:M (List D)}{b:D->Ro->Option Ro}{me:M Rv}{ρ ρ':Ro}{ys:List (List D)}(h:af9 src mi b me ρ=some (.ok ys,ρ')):∃l ρ1 ps,mi ρ=some (.ok l,ρ1)/\okJs ρ1 src=true/\compR b me l [] (lend ρ1 src (src.map fun _=>none))=some (.ok ys,ps)/\ys.length<=capS/\ρ'=putB ρ1 src ps:=by
 obtain⟨l,ρ1,e1,em⟩:=aq h;have em:(if okJs ρ1 src=true then match compR b me l [] (lend ρ1 src (src.map fun _=>none)) with
  | some (.ok ys,ps)=>if ys.length<=capS then some (Out.ok ys,putB ρ1 src ps) else none
  | some (.exc x,ps)=>some (.exc x,putB ρ1 src ps)
  | none=>none
  else none)=some (.ok ys,ρ'):=em
 split at em
 ·rename_i hk;split at em
  ·rename_i ys' ps e2;split at em
   ·rename_i hz;cases em;exact⟨l,ρ1,ps,e1,hk,e2,hz,rfl⟩
   ·cases em
  ·cases em
  ·cases em
 ·cases em
structure RowsAt (K:Fg9) (H:Hp) (O:Addr->Prop) (F' H':Hp) (O':Addr->Prop) (rows:List (List D)) (dd:Addr) (A:List Addr):Prop where
 h0:H dd=none
 f:F' dd=none
 n:¬O' dd
 h:H' dd=some (.lst (A.map V.ref))
 na:dd∉A
 new:∀e∈A,H e=none∨O e
 fd:FdR K F' H' O' (rows.map mkR) (A.map mkV) A
def a4s(K:Fg9)(m:M (List (List D))):TE:=fun σ H Q=>∃tg F ρ rows ρ',Good K tg F H ρ σ/\m ρ=some (.ok rows,ρ') /\
 ∀dd A H' F',Good K tg F' H' ρ' σ->Ext (Own ρ σ) (Own ρ' σ) F H F' H'->RowsAt K H (Own ρ σ) F' H' (Own ρ' σ) rows dd A->Q (.ref dd) H'
theorem RowsAt.step{H:Hp}{O:Addr->Prop}{F1 H1 F2 H2:Hp}{O1 O2:Addr->Prop}{rows:List (List D)}{dd:Addr}{A:List Addr}(r:RowsAt K H O F1 H1 O1 rows dd A)(x:Ext O1 O2 F1 H1 F2 H2):RowsAt K H O F2 H2 O2 rows dd A:=by
 refine⟨r.h0,?_,fun z =>?_,x.keep _ _ r.h r.n,r.na,r.new,r.fd.step x⟩
 ·cases z:F2 dd with
  | none=>rfl
  | some o =>
   rcases x.new _ _ z with z | z | z
   ·rw[r.f] at z;cases z
   ·rw[r.h] at z;cases z
   ·exact absurd z r.n
 ·rcases x.own _ z with z | z
  ·exact r.n z
  ·rw[r.h] at z;cases z
theorem ap0{mi:M (List D)}{bb:D->Ro->Option Ro}{me:M Rv}{src:List (Option Nat)}(σ:L2.St)(H:Hp)(Q:VK)(t:a4s K (af9 src mi bb me) σ H Q):aq2 (TIt K mi) (TGd K bb) (TB K (ret true)) (T K (relR K) me) src σ H Q:=by
 obtain⟨tg,F,ρ,rows,ρ',G,em,q⟩:=t;obtain⟨l,ρ1,ps,e1,hj,e2,hz,rfl⟩:=aox em;refine⟨tg,F,ρ,l,ρ1,G,e1,fun J H1 F1 G1 x1 Z dd hd =>?_⟩
 have L:Lent K F1 σ (pick src σ) src (src.map fun _=>none):=aio src
 have Gl:=yg G1 hj L;have own0:¬Own (lend ρ1 src (src.map fun _=>none)) (pick src σ) dd:=fun z=>Gl.own_ne hd z rfl
 refine amf Z (fun i ys σc Hc=>∃Fc ρc yd A,Good K (tgOf (pick src σ)) Fc Hc ρc σc/\Ext (Own (lend ρ1 src (src.map fun _=>none)) (pick src σ)) (Own ρc σc) F1 H1 Fc Hc/\RowsAt K H1 (Own (lend ρ1 src (src.map fun _=>none)) (pick src σ)) Fc Hc (Own ρc σc) yd dd A/\ys=A.map V.ref/\yd.length=A.length/\compR bb me (l.drop i) yd ρc=some (.ok rows,ps))
  ⟨F1,_,[],[],Gl.upd (G1.freeF hd) own0 _ (fun _ _ _ z=>by rw[hd] at z;cases z),(Ext.refl _ _ _).upd hd,⟨hd,G1.freeF hd,own0,f9,List.not_mem_nil,fun _ z=>absurd z List.not_mem_nil,.nil⟩,rfl,rfl,e2⟩ ?_ ?_ ?_
 ·rintro i ys σc Hc _ z9
  obtain⟨Fc,ρc,yd,A,Gc,xc,R,rfl,_,_⟩:=z9;exact⟨xc.sub.trans Gc.sub,R.h⟩
 ·rintro i d x ys σc Hc0 Hc M hdl z9 al hM
  obtain⟨Fc0,ρc,yd,A,Gc0,xc0,R0,rfl,hlen,ec⟩:=z9;obtain⟨Fc,Gc,xc,_,idl,xa⟩:=ah9 Gc0 xc0 xc0.sub al;have R:=R0.step xa;have hlt:i < l.length:=(List.getElem?_eq_some_iff.mp hdl).1;have edl:l[i]=d:=(List.getElem?_eq_some_iff.mp hdl).2;rw[List.drop_eq_getElem_cons hlt,edl] at ec;unfold compR at ec;split at ec
  ·cases ec
  ·rename_i ρ2 eb;refine⟨_,Fc,ρc,d,ρ2,Gc,idl,eb,fun σ2 H2 F2 G2 x2 =>?_⟩
   have R2:=R.step x2;refine⟨_,F2,ρ2,true,ρ2,G2,rfl,fun H3 F3 G3 x3 =>?_⟩
   have R3:=R2.step x3;obtain⟨y,ρ4,ey,ec⟩:=aq ec;refine iteT ⟨_,F3,ρ2,y,ρ4,G3,ey,fun v H4 F4 G4 x4 iv =>?_⟩
   have R4:=R3.step x4;cases y with
   | v _=>cases ec
   | tf _ _=>cases ec
   | fr lr =>
    obtain⟨ar,vs,rfl,ha,hf,hh,hl,hn⟩:=iv;have ec:compR bb me (l.drop (i+1)) (yd++[lr]) ρ4=some (.ok rows,ps):=ec;have hne:ar∉A:=fun z=>by
     obtain⟨o1,_,ws,o3,_⟩:=R3.fd.out ar z;rcases ha with ha | ha
     ·rw[o3] at ha;cases ha
     ·exact o1 ha
    have hda:dd≠ar:=fun z=>by
     subst z;rcases ha with ha | ha
     ·rw[R3.h] at ha;cases ha
     ·exact R3.n ha
    have x13:=(xc.trans x2).trans x3;refine⟨R4.h,?_,hM _ _ _ ⟨F4,ρ4,yd++[lr],A++[ar],G4.upd R4.f R4.n _ (fun _ _ _ z=>by rw[R4.h] at z;cases z),(x13.trans x4).upd hd,⟨R4.h0,R4.f,R4.n,?_,fun z =>?_,fun z hz' =>?_,?_⟩,?_,by simp[hlen],ec⟩⟩
    ·have:=ajj ec;rw[List.length_append,List.length_singleton] at this;rw[List.length_map,sizeLine_eq];exact Nat.lt_of_lt_of_le (by omega) (Nat.le_trans this hz)
    ·rw[f9,List.map_append];rfl
    ·rcases List.mem_append.mp z with z | z
     ·exact R4.na z
     ·exact hda (List.mem_singleton.mp z)
    ·rcases List.mem_append.mp hz' with z' | z'
     ·exact R4.new z z'
     ·rw[List.mem_singleton] at z';subst z';rcases ha with ha | ha
      ·exact .inl (x13.there z ha)
      ·exact(x13.own z ha).symm
    ·rw[List.map_append,List.map_append];refine FdR.upd (FdR.snoc R4.fd hf hn hh hl hne) fun z =>?_
     rcases List.mem_append.mp z with z | z
     ·exact R4.na z
     ·exact hda (List.mem_singleton.mp z)
    ·rw[List.map_append];rfl
 ·rintro ys σc Hc z9
  obtain⟨Fc,ρc,yd,A,Gc,xc,R,rfl,hlen,ec⟩:=z9;rw[List.drop_eq_nil_of_le (Nat.le_refl _)] at ec;obtain⟨rfl,rfl⟩:=jf (show ret yd ρc=_ from ec)
  have fin:Fin K Fc Hc (pick src σ) ps (Own ps σc):=⟨fun i l' e=>by
   obtain⟨o,ho,a,ws,rfl,hf,hh,hl,ht⟩:=Gc.at e;rw[ht i rfl];exact⟨⟨i,⟨_,_,e⟩,ho⟩,hf,ws,hh,hl⟩⟩
  refine q dd A Hc Fc (abe G1 L xc Gc.sub fin) (x1.trans (adb G1 L xc)) ⟨x1.there dd hd,R.f,fun⟨j,w⟩=>G1.own_ne hd ⟨j,abn w⟩ rfl,R.h,R.na,fun z hz' =>?_,R.fd.out2 fun z hz' w =>?_⟩
  ·rcases R.new z hz' with w | ⟨i,w⟩
   ·exact .inl (x1.there z w)
   ·obtain⟨j,_,w⟩:=yx G1 L w;exact(x1.own z ⟨j,w⟩).symm
  ·obtain⟨o1,o2,ws,o3,l',o4⟩:=R.fd.out z hz';have rr:relR K (.fr l') (.ref z) H1 (Own (lend ρ1 src (src.map fun _=>none)) (pick src σ)) Fc Hc (Own ps σc):=⟨z,ws,rfl,R.new z hz',o2,o3,o4,o1⟩
   obtain⟨a',vs',e',_,_,_,_,h5⟩:=ah7 (ps:=ps) G1 L fin rr;cases e';exact h5 w
def dLol(i:Nat)(gs os:List Nat)(m:M (List (List D)))(k:Sd):Sd:=dM m fun rows ρ =>
 if (ρ:List Sl).all tagB=true/\rows.length<=gs.length then match setG (rows.map mkR) (gs.take rows.length) 0 (List.set ρ i (.lol ((List.range rows.length).map fun j=>1000+j))) with
  | some ρ3=>match k ρ3 with
   | some (fl,ρ4)=>if (offs ρ4 os:List Sl).all tagB=true then some (fl,offs ρ4 os) else none
   | none=>none
  | none=>none
 else none
theorem auy{tgt iter elt:Expr}{i:Nat}{x:Str}{scope:Scope}{cpos:Pos}{ss:List Stmt}{mi:M (List D)}{bb:D->Ro->Option Ro}{me:M Rv}{k:Sd}{gs os:List Nat}(fr N:List Str)(src:List (Option Nat))(hN:X.N.Nodup)(hxi:X.N[i]? = some x)(hx:Loc X.env.scope x)(hc:X.calm=true)(hi:IT K X tgt iter mi)
  (hg:∀fp s H,GV K (cxC X N scope fr fp s H) tgt bb) (he:∀fp s H,ER K (cxC X N scope fr fp s H) elt me) (t:SVs K X ss k)
  (hgh:∀j∈gs,∀y,X.N[j]? = some y->¬Vis X.env.scope y)
  (hsw:swapsWith (.ListComp elt [⟨tgt,iter,[],0⟩] scope cpos) (some (.Name x p)) pos.line X.env=pure true:=by rfl)
  (hok:afo X.env X.N scope fr N src=true:=by rfl) (hkind:scope.kind=.function:=by rfl) (hclos:closureFor scope X.env=pure (xf X.env fr):=by rfl)
  (hs:∀x,foldedSetIterable iter X.env x=pure x:=by intro _;rfl) (hf:X.fn x=true∨X.env.scope.names.lookup x=some .local:=by first | exact .inl rfl | exact .inr rfl | assumption) :
  SVs K X (.Assign [.Name x p] (.ListComp elt [⟨tgt,iter,[],0⟩] scope cpos) pos::ss) (dLol i gs os (af9 src mi bb me) k):=SVs.mk fun hk=>by
 subst hk;have hkc:∀fp s H,(cxC X N scope fr fp s H).K=X.K:=fun _ _ _=>rfl
 refine PSs.imp (ald (aog fr N src hN hxi hx hc (hi rfl) (fun fp s H=>(hg fp s H).go (hkc _ _ _)) (fun fp s H=>(lq (K:=X.K)).go (hkc _ _ _)) (fun fp s H=>(he fp s H).go (hkc _ _ _)) hsw hok hkind hclos hs hf) (ayc (t rfl))) fun E σ H ⟨tg,F,ρ,fl,ρ',G,em,q⟩=>aa9 em q fun rows ρ1 e1 em =>?_
 refine ap0 σ H _ ⟨tg,F,ρ,rows,ρ1,G,e1,fun dd A H' F' G' x' R =>?_⟩
 split at em
 ·rename_i hz;obtain⟨hb,hrl⟩:=hz;split at em
  ·rename_i ρ3 e3;split at em
   ·rename_i fl' ρ4 e4;split at em
    ·rename_i hb4;cases em;have hAl:A.length=rows.length:=by
      have:=R.fd.lenA fun r hr=>by
       obtain⟨l,_,rfl⟩:=List.mem_map.mp hr;exact⟨l,rfl⟩
      rwa[List.length_map] at this
     have htg:∀m',m' < 1000->tg m'=(fun m=>if m < 1000 then tg m else A.getD (m - 1000) 0) m':=fun m' hm=>by simp[hm]
     have hnm:∀(m:Nat) (e':Addr),A[m]? = some e'->(fun m=>if m < 1000 then tg m else A.getD (m - 1000) 0) (1000+(0+m))=e':=fun m e' he'=>by
      show(if 1000+(0+m) < 1000 then tg (1000+(0+m)) else A.getD (1000+(0+m) - 1000) 0)=e'
      rw[if_neg (by omega),show 1000+(0+m) - 1000=m by omega,List.getD_eq_getElem?_getD,he']
      rfl
     have Gt:=G'.retag (tg1:=fun m=>if m < 1000 then tg m else A.getD (m - 1000) 0) hb htg
     have Gz:=Gt.freeze R.h R.n R.f;have eA:A.map V.ref=((List.range rows.length).map fun j=>1000+j).map fun k=>V.ref ((fun m=>if m < 1000 then tg m else A.getD (m - 1000) 0) k):=by
      refine List.ext_getElem? fun m =>?_
      rw[List.map_map,List.getElem?_map,List.getElem?_map];rcases Nat.lt_or_ge m A.length with hm | hm
      ·rw[List.getElem?_eq_getElem hm,List.getElem?_eq_getElem (by rw[List.length_range];omega),List.getElem_range]
       have:=hnm m _ (List.getElem?_eq_getElem hm);rw[Nat.zero_add] at this;show some (V.ref A[m])=some (V.ref _);exact congrArg (fun z=>some (V.ref z)) this.symm
      ·rw[List.getElem?_eq_none hm,List.getElem?_eq_none (by rw[List.length_range];omega)]
       rfl
     have Gi:=Gz.put (s:=.lol ((List.range rows.length).map fun j=>1000+j)) (v:=.ref dd) i ⟨dd,rfl,by rw[f9,eA]⟩ (fun t l a z=>by cases z)
     have ob:∀z,Own (List.set ρ1 i (.lol ((List.range rows.length).map fun j=>1000+j))) (List.set σ i (some (V.ref dd))) z->Own ρ1 σ z:=fun z hz=>by
      rcases ab3 G'.len hz with w | ⟨⟨t,l,w⟩,_⟩
      ·exact w
      ·cases w
     have fd2:=R.fd.frz (o:=.lst (A.map V.ref)) R.na R.f;obtain⟨σ2,Gf,s1,s2,s3⟩:=ava (n:=0) fd2 Gi (fun z hz w=>(R.fd.out z hz).1 (ob z w)) hnm e3
     refine⟨σ2,⟨s2,fun j yy v hj' hv vis =>?_⟩,_,_,ρ3,fl,ρ4,Gf,e4,?_⟩
     ·by_cases hg':j∈gs.take rows.length
      ·exact absurd vis (hgh j (List.mem_of_mem_take hg') yy hj')
      ·rw[<-s1 j hg'];exact hv
     ·refine FlOk.off (fun m hm=>(htg m hm).symm) hb4 (FlOk.back ⟨x'.sub.trans (Same.new R.f _),fun z o hz =>?_,x'.keep,fun z hz =>?_,x'.there⟩ q)
      ·by_cases hzd:z=dd
       ·subst hzd;exact .inr (.inl R.h0)
       ·rw[b8 hzd] at hz;exact x'.new z o hz
      ·rcases s3 z hz with w | w
       ·exact x'.own z (ob z w)
       ·exact(R.new z w).symm
    ·cases em
   ·cases em
  ·cases em
 ·cases em
def frzR(base:Nat):List Nat->Ro->Option (List (List D)×Ro)
 | [],ρ=>some ([],ρ)
 | t::ts,ρ=>match (ρ:List Sl)[base+(t - 1000)]? with
  | some (.own (some t') l)=>if t'=t then match frzR base ts (List.set ρ (base+(t - 1000)) .emp) with
   | some (rs,ρ2)=>some (l::rs,ρ2)
   | none=>none
   else none
  | _=>none
def dFrz(i base:Nat)(k:Sd):Sd:=fun ρ=>match (ρ:List Sl)[i]? with
 | some (.lol ts)=>match frzR base ts ρ with
  | some (rows,ρ2)=>match (ρ2:List Sl)[i]? with
   | some (.lol ts')=>if ts'=ts then k (List.set ρ2 i (.val (.lst (rows.map D.lst)))) else none
   | _=>none
  | none=>none
 | _=>none
theorem al0{tg:Nat->Addr}{H:Hp}{σ:L2.St}{base:Nat}:∀{ts:List Nat} {ρ ρ2:Ro} {F:Hp} {rows:List (List D)},Good K tg F H ρ σ->frzR base ts ρ=some (rows,ρ2) ->
  ∃F2,Good K tg F2 H ρ2 σ/\Same F F2/\(∀a o,F2 a=some o->F a=some o∨Own ρ σ a)/\IsL K F2 (rows.map D.lst) (ts.map fun t=>V.ref (tg t))/\∀z,Own ρ2 σ z->Own ρ σ z
 | [],ρ,ρ2,F,rows,G,em=>by
  cases em;exact⟨F,G,Same.refl F,fun _ _ h=>.inl h,.nil,fun _ h=>h⟩
 | t::ts,ρ,ρ2,F,rows,G,em=>by
  unfold frzR at em;split at em
  ·rename_i t' l eo;split at em
   ·rename_i ht;subst ht;split at em
    ·rename_i rs ρ3 e3;cases em;obtain⟨o,ho,a,vs,rfl,hf,hh,hl,hta⟩:=G.at eo;have no:¬Own (List.set ρ (base+(t' - 1000)) .emp) σ a:=fun z=>(wy z).2 _ _ eo G.inj ⟨⟨_,_,eo⟩,ho⟩
     have G1:=(G.drop (base+(t' - 1000))).freeze hh no hf;obtain⟨F2,G2,s2,n2,i2,o2⟩:=al0 G1 e3;have sN:=Same.new hf (.lst vs);refine⟨F2,G2,sN.trans s2,fun b o' hb =>?_,.cons ?_ i2,fun z hz=>(wy (o2 z hz)).1⟩
     ·rcases n2 b o' hb with w | w
      ·by_cases hb':b=a
       ·subst hb';exact .inr ⟨_,⟨_,_,eo⟩,ho⟩
       ·rw[b8 hb'] at w;exact .inl w
      ·exact .inr (wy w).1
     ·show Is K F2 (.lst l) (V.ref (tg t'));rw[hta _ rfl];exact .lst (s2 _ _ f9) ((hl.mono sN).mono s2)
    ·cases em
   ·cases em
  ·cases em
theorem set_same{α:Type}{l:List α}{i:Nat}{x:α}(h:l[i]? = some x):l.set i x=l:=by
 obtain⟨hi,e⟩:=List.getElem?_eq_some_iff.mp h;rw[<-e];exact List.set_getElem_self hi
theorem auz{ss:List Stmt}{k:Sd}{i base:Nat}(t:SVs K X ss k):SVs K X ss (dFrz i base k):=SVs.mk fun hk=>PSs.imp (t hk) fun E σ H z9=>by
 obtain⟨tg,F,ρ,fl,ρ',G,em,q⟩:=z9;unfold dFrz at em;split at em
 ·rename_i ts eo;split at em
  ·rename_i rows ρ2 e2;split at em
   ·rename_i ts' e3;split at em
    ·rename_i hts;subst hts;obtain⟨F2,G2,s2,n2,i2,o2⟩:=al0 G e2;obtain⟨o,ho,a,rfl,hF⟩:=G2.at e3;have G3:=G2.put (s:=.val (.lst (rows.map D.lst))) (v:=.ref a) i ⟨_,rfl,.lst hF i2⟩ (fun t l a z=>by cases z)
     have ob:∀z,Own (List.set ρ2 i (.val (.lst (rows.map D.lst)))) (List.set σ i (some (.ref a))) z->Own ρ2 σ z:=fun z hz=>by
      rcases ab3 G2.len hz with w | ⟨⟨t,l,w⟩,_⟩
      ·exact w
      ·cases w
     rw[set_same ho] at G3 ob;refine⟨tg,F2,_,fl,ρ',G3,em,FlOk.back ⟨s2,fun b o' hb =>?_,fun _ _ h _=>h,fun z hz=>.inl (o2 z (ob z hz)),fun _ h=>h⟩ q⟩
     rcases n2 b o' hb with w | w
     ·exact .inl w
     ·exact .inr (.inr w)
    ·cases em
   ·cases em
  ·cases em
 ·cases em
end
end Dn
namespace Kst
open PySem PySem.W PyProof.Rows
theorem ai0:∀f n r:Nat,r<=1->2<=n->minRun' f n r<=n+r
 | 0,n,r,_,_=>Nat.le_refl _
 | f+1,n,r,hr,hn=>by
  rw[minRun'_succ]
  by_cases q:n < 64
  ·rw[if_pos q];exact Nat.le_refl _
  ·rw[if_neg q];have hm:n % 2<=1:=by omega
   have:=ai0 f (n / 2) (max r (n % 2)) (by omega) (by omega)
   omega
section
variable{prog:Program}{w:World}{A:Around}{E:Value->Shared->Prop}{κ:SortKind}{s:Shared}
theorem av0{it:Array Keyed}{n:Nat}{Q:Unit->SortSt->Shared->Prop}{G:Array Nat->Shared->Prop}(h2:2<=n)
  (hG:∀p' st' s',p'.size=n->arrOf st'=p'.map (kas_item it)->failedOf st'=none->G p' s'->Q () st' s') (h:(kas_count n (List.toArray (List.range n))).kasWp (kas_cmp prog w A κ it) (fun r s'=>r.1=n/\G r.2 s') s) :
  kasC (model prog w) A E sortRuns' Q (kas_st κ it (List.toArray (List.range n))) s:=by
 obtain⟨r,rfl⟩:∃r,n=r+2:=⟨n - 2,by omega⟩
 have z1:(List.toArray (List.range (r+2))).size=r+2:=by simp
 have z2:(arrOf (kas_st κ it (List.toArray (List.range (r+2))))).size=r+2:=by
  show((List.toArray (List.range (r+2))).map (kas_item it)).size=_;rw[Array.size_map,z1]
 have z3:¬r+2 < minRun' (r+2) (r+2) 0:=Nat.not_lt.mpr (ai0 _ _ _ (by decide) (by omega))
 rw[sortRuns'_eq];refine kasC_bind (kasC_get ?_);dsimp only;simp only[z2];refine kasC_bind (kasC_range ?_);show kasC _ _ _ (forIn (0::1::List.range' 2 r) _ _) _ _ _;refine kasC_cons ?_;dsimp only;rw[if_neg (by omega)]
 simp only[Nat.sub_zero,Nat.zero_add];refine kasC_bind (kas_count_ (by omega) (by rw[z1];exact Nat.le_refl _) (fun m p' s' _ _ hp hg =>?_) h)
 have hg1:m=r+2/\G p' s':=hg
 clear hg
 obtain⟨rfl,hg⟩:=hg1;dsimp only;rw[if_neg z3];refine kasC_bind (kasC_get ?_);rw[show(pendingOf (kas_st κ it p')).back? = none from rfl]
 dsimp only;refine kasC_bind (kasC_modify (kasC_pure ?_));show kasC _ _ _ (forIn (1::List.range' 2 r) _ _) _ _ _;refine kasC_cons ?_;dsimp only;rw[if_pos (Nat.le_refl _)];refine kasC_pure ?_;dsimp only;refine kasC_bind (kasC_range ?_);show kasC _ _ _ (forIn (0::1::List.range' 2 r) _ _) _ _ _;refine kasC_cons ?_;refine kasC_bind (kasC_get ?_);rw[if_pos (show(pendingOf (setPending (kas_st κ it p') ((pendingOf (kas_st κ it p')).push (0,r+2,0)))).size<=1 from Nat.le_refl 1)]
 refine kasC_pure ?_;dsimp only;exact kasC_pure (hG p' _ _ (hp.trans z1) rfl rfl hg)
theorem amz{vs:List Value}{Q:SortSt->Shared->Prop}{G:Array Nat->Shared->Prop}(h2:2<=vs.length)
  (hG:∀p st' s',p.size=vs.length->arrOf st'=p.map (kas_item (vs.toArray.zip vs.toArray))->failedOf st'=none->G p s'->Q st' s') (h:(kas_count vs.length (List.toArray (List.range vs.length))).kasWp (kas_ask prog w A κ vs) (fun r s'=>r.1=vs.length/\G r.2 s') s) :
  wpAny (model prog w) A ((sortRuns').run (SortSt.mk' κ (vs.toArray.zip vs.toArray) #[] 7 none)) (fun r s'=>Q r.2 s') E s:=by
 rw[kat_ask_eq (ks:=vs) (vs:=vs) rfl] at h;have e:=kas_range (vs.toArray.zip vs.toArray);rw[show(vs.toArray.zip vs.toArray).size=vs.length by simp] at e
 have est:SortSt.mk' κ (vs.toArray.zip vs.toArray) #[] 7 none=kas_st κ (vs.toArray.zip vs.toArray) (List.toArray (List.range vs.length)):=by
  show SortSt.mk' κ (vs.toArray.zip vs.toArray) #[] 7 none=SortSt.mk' κ ((List.toArray (List.range vs.length)).map (kas_item (vs.toArray.zip vs.toArray))) #[] 7 none;rw[e]
 rw[est];exact av0 (E:=E) (Q:=fun _ st' s'=>Q st' s') h2 hG h
theorem aqp{n:Nat}{c:Nat->Nat->Bool}{cmp:Nat->Nat->(Bool->Shared->Prop)->Shared->Prop}(a:Asks n c cmp s)(h2:2<=n)(hs:∀k,1<=k->k < n->c k (k - 1)=false){G:Array Nat->Shared->Prop}(h:G (List.toArray (List.range n)) s) :
  (kas_count n (List.toArray (List.range n))).kasWp cmp (fun r s'=>r.1=n/\G r.2 s') s:=by
 have hp:Pm n (List.toArray (List.range n)):=⟨by simp⟩
 have hg:∀k,k < n->(List.toArray (List.range n)).getD k 0=k:=fun k hk=>by simp[hk]
 unfold kas_count;rw[KasT.kasWp_bind];refine agp a hp _ _ (Nat.le_refl _) (by omega) fun m x1 x2 x3 x4 =>?_
 have e:m=n:=by
  rcases Nat.lt_or_ge m n with q | q
  ·have:=x4 (by omega)
   rw[hg m q,hg (m - 1) (by omega),hs m x1 q] at this
   cases this
  ·omega
 subst e;rw[if_pos (by simp)]
 exact⟨rfl,h⟩
theorem aqo{a:Addr}{vs:List Value}{n:Nat}{P:PySem.Fin->Shared->Prop}{c:Nat->Nat->Bool}(ho:s.heap.get? a=some (seqObj "list" vs.toArray n))(h2:2<=vs.length)(hz:vs.length<=1000)(hs:∀k,1<=k->k < vs.length->c k (k - 1)=false)
  (hk:∀h':Heap,(∀b o,b≠a->s.heap.get? b=some o->h'.get? b=some o)->(∀Q:SortKind->Shared->Prop,Q κ { s with heap:=h' }->wpAny (model prog w) A (keyKind' vs.toArray) Q (fun _ _=>False) { s with heap:=h' })/\Asks vs.length c (kas_ask prog w A κ vs) { s with heap:=h' })
  (h:P (.done (.ret .none)) { s with heap:=sortedHeap s.heap a vs vs.toArray }) :
  wpAny (model prog w) A (Builtin.«list.sort» ⟨[.ref a],[]⟩) P E s:=by
 have ha:a < s.heap.objs.size:=Heap.lt_size ho;obtain⟨e1,ho1⟩:∃e1,(s.heap.update a (Obj.mapSeq fun _=>(#[]:Array Value))).get? a=some (seqObj "list" #[] e1):=⟨_,get?_update_seq ho fun _ => #[]⟩
 have ho6:(((s.heap.update a (Obj.mapSeq fun _=>(#[]:Array Value))).push (seqObj "tuple" vs.toArray 0)).push (seqObj "list" #[] 0)).get? a=some (seqObj "list" #[] e1):=Heap.get?_push_of_some _ (Heap.get?_push_of_some _ ho1)
 have kp:∀b o,b≠a->s.heap.get? b=some o->(((s.heap.update a (Obj.mapSeq fun _=>(#[]:Array Value))).push (seqObj "tuple" vs.toArray 0)).push (seqObj "list" #[] 0)).get? b=some o:=fun b o hb e =>
  Heap.get?_push_of_some _ (Heap.get?_push_of_some _ (by rw[Heap.get?_update_ne _ _ _ _ hb];exact e))
 rw[list_sort_plain];refine wpAny_bind (listItems_at ho rfl ?_);refine wpAny_bind (listUpdate_at ho rfl ?_ (by rw[List.size_toArray,sizeLine_eq];omega) (Nat.zero_le _))
 refine wpAny_bind (seqEpoch_at ho1 rfl ?_);refine wpAny_bind (wpAny_newTuple ?_ (by show vs.length<=_;rw[sizeLine_eq];omega))
 refine wpAny_bind (wpAny_newList ?_ (Nat.zero_le _));refine wpAny_holding ?_;show wpAny (model prog w) A _ P E { s with heap:=((s.heap.update a (Obj.mapSeq fun _=>(#[]:Array Value))).push (seqObj "tuple" vs.toArray 0)).push (seqObj "list" #[] 0) }
 dsimp only;have hn2:¬vs.toArray.size < 2:=by rw[List.size_toArray];omega
 rw[if_neg hn2,if_neg hn2];obtain⟨k1,k2⟩:=hk _ kp;refine wpAny_bind (wpAny_mono (k1 _ ?_) (fun κ' s' q=>q) fun _ _ x=>x.elim)
 refine wpAny_bind (wpAny_mono (amz (Q:=fun st' s'=>s'={ s with heap:=((s.heap.update a (Obj.mapSeq fun _=>(#[]:Array Value))).push (seqObj "tuple" vs.toArray 0)).push (seqObj "list" #[] 0) }/\arrOf st'=(List.toArray (List.range vs.length)).map (kas_item (vs.toArray.zip vs.toArray))/\failedOf st'=none)
  (G:=fun p s'=>s'={ s with heap:=((s.heap.update a (Obj.mapSeq fun _=>(#[]:Array Value))).push (seqObj "tuple" vs.toArray 0)).push (seqObj "list" #[] 0) }/\p=List.toArray (List.range vs.length))
  h2 (fun p st' s' a1 a2 a3 a4=>And.intro a4.1 (And.intro (a4.2▸a2) a3)) (aqp (G:=fun p s'=>s'={ s with heap:=((s.heap.update a (Obj.mapSeq fun _=>(#[]:Array Value))).push (seqObj "tuple" vs.toArray 0)).push (seqObj "list" #[] 0) }/\p=List.toArray (List.range vs.length)) k2 h2 hs (And.intro rfl rfl))) ?_ fun _ _ e=>e)
 intro r s' hr;obtain⟨u,st'⟩:=r;obtain⟨e,har,hf⟩:=hr;subst e;dsimp only at har hf ⊢
 have hout:(arrOf st').map (·.2)=vs.toArray:=by
  rw[kat_snds rfl har];rw[show(List.toArray (List.range vs.length)).toList=List.range vs.length from rfl,aim]
 rw[hout];refine wpAny_bind (seqEpoch_at ho6 rfl ?_);refine wpAny_bind (listUpdate_at ho6 rfl ?_ (Nat.zero_le _) (Nat.le_succ_of_le (by rw[List.size_toArray,sizeLine_eq];omega)))
 rw[hf];simp only[bne_self_eq_false,Bool.false_eq_true,if_false];exact wpAny_pure h
theorem ang{l:Addr}{vs:List Value}{Q:Value->Shared->Prop}{c:Nat->Nat->Bool}(hl:s.heap.IsList l vs.toArray)(h2:2<=vs.length)(hz:vs.length<=1000)(hs:∀k,1<=k->k < vs.length->c k (k - 1)=false)
  (hk:∀h':Heap,(∀b o,s.heap.get? b=some o->h'.get? b=some o)->(∀Q:SortKind->Shared->Prop,Q κ { s with heap:=h' }->wpAny (model prog w) A.in1.in1 (keyKind' vs.toArray) Q (fun _ _=>False) { s with heap:=h' })/\Asks vs.length c (kas_ask prog w A.in1.in1 κ vs) { s with heap:=h' })
  (h:Q (.ref (s.heap.objs.size+1)) { s with heap:=sortedAll s.heap vs vs.toArray }) :
  wpAny (model prog w) A (call (.builtin "sorted") [.ref l]) Q E s:=by
 refine Calls.call_function_entry kind_sorted plain_sorted entry_sorted (args_sorted1 _) ?_;unfold Builtin.«sorted»
 refine wpAny_bind (m:=checkCount "sorted" 1 1 _) (wpAny_pure ?_);refine wpAny_bind (collect_list hl ?_ (by rw[sizeLine_eq];omega))
 refine wpAny_bind (wpAny_newList ?_ (by rw[sizeLine_eq];omega))
 have hsz:((s.heap.push (seqObj "list" #[] 0)).update s.heap.objs.size (Obj.mapSeq (· ++ vs.toArray))).objs.size=s.heap.objs.size+1:=by
  rw[Heap.size_update,size_push']
 have hoL:(((s.heap.push (seqObj "list" #[] 0)).update s.heap.objs.size (Obj.mapSeq (· ++ vs.toArray))).push (seqObj "list" vs.toArray 0)).get? (s.heap.objs.size+1)=some (seqObj "list" vs.toArray 0):=by
  rw[<-hsz];exact Heap.get?_push_size _ rfl
 have keep:∀b o,s.heap.get? b=some o->(((s.heap.push (seqObj "list" #[] 0)).update s.heap.objs.size (Obj.mapSeq (· ++ vs.toArray))).push (seqObj "list" vs.toArray 0)).get? b=some o:=fun b o q=>by
  have hlt:b < s.heap.objs.size:=Heap.lt_size q;rw[Heap.get?_push_ne _ _ _ (by rw[hsz];exact Nat.ne_of_lt (Nat.lt_succ_of_lt hlt)),Heap.get?_update_ne _ _ _ _ (Nat.ne_of_lt hlt),Heap.get?_push_ne _ _ _ (Nat.ne_of_lt hlt)]
  exact q
 show wpAny _ _ _ _ _ { s with heap:=((s.heap.push (seqObj "list" #[] 0)).update s.heap.objs.size (Obj.mapSeq (· ++ vs.toArray))).push (seqObj "list" vs.toArray 0) }
 rw[hsz];refine wpAny_bind (wpAny_holding (wpAny_call_entry slot_list_sort ⟨_,hoL,rfl⟩ entry_list_sort (aqo (κ:=κ) hoL h2 hz hs (fun h' k'=>hk h' fun b o e=>k' b o (fun q=>absurd (Heap.lt_size e) (by rw[q];exact Nat.not_lt.mpr (Nat.le_succ _))) (keep b o e)) ⟨_,rfl,?_⟩) (args_list_sort _)))
 exact wpAny_pure ⟨_,rfl,h⟩
end
end Kst
namespace Dn
open L2 Mn Kst PySem.W
section
variable{K:Fg9}{X:Cx}
def alz:D->Option Rv
 | .lst l=>(uw l).bind fun rows=>if (decide (2<=rows.length)&&decide (rows.length<=1000)&&rows.all (fun r => !r.isEmpty)&&decide (LxS rows))=true then some (.fr l) else none
 | _=>none
theorem as6:CallD K X (.builtin "sorted") (g1 alz):=uv fun hk jv s σ0 H x u Q tg F ρ σ d r I ru G bd eg q=>by
 subst hk;cases d with
 | lst l =>
  have eg:(uw l).bind (fun rows=>if (decide (2<=rows.length)&&decide (rows.length<=1000)&&rows.all (fun r => !r.isEmpty)&&decide (LxS rows))=true then some (Rv.fr l) else none)=some r:=eg
  cases e:uw l with
  | none=>rw[e] at eg;cases eg
  | some rows =>
   rw[e,Option.bind_some] at eg;split at eg
   ·rename_i hc;simp only[Bool.and_eq_true,decide_eq_true_eq,List.all_eq_true] at hc;obtain⟨⟨⟨h2,hz⟩,hne⟩,so⟩:=hc;have hne:∀r∈rows,r≠[]:=fun r hr q=>by have:=hne r hr;rw[q] at this;cases this
    cases eg;obtain⟨a,vs,rfl,ea,hl⟩:=bd.lst G.sub;have hl0:=hl;rw[aco e] at hl;cases ru;obtain⟨its,rv,pl,_⟩:=I.list (SqL.of ea);have hlen:vs.length=its.length:=rv.length;have T:=xx I G.sub hl rv;have tl:=T.len;refine ang (κ:=tuples' (Value.type "int" != Value.type "tuple")) (c:=fun i j=>lexB (rows.getD i []) (rows.getD j [])) pl.isList (by omega) (by omega) (fun k k1 k2 =>?_) (fun h' k'=>⟨fun Q q =>?_,fun i j hi hj C hC =>?_⟩) ?_
    ·refine ab5 _ _ ?_;have:=List.pairwise_iff_getElem.mp so (k - 1) k (by omega) (by omega) (by omega)
     rw[List.getD_eq_getElem?_getD,List.getElem?_eq_getElem (show k - 1 < rows.length by omega),List.getD_eq_getElem?_getD,List.getElem?_eq_getElem (show k < rows.length by omega)]
     exact this
    ·obtain⟨fs,kt,fl,fz⟩:=(T.mono k').kat hne;refine kat_kind kt (by omega) (fun v hv =>?_) (by decide) q
     obtain⟨i,t,rfl⟩:=fz v hv;exact Looks.of_pure rfl
    ·obtain⟨a1,o1,xs1,n1,f1,g1,d1,i1⟩:=(T.mono k').at i (by omega)
     obtain⟨a2,o2,xs2,n2,f2,g2,d2,i2⟩:=(T.mono k').at j (by omega)
     unfold kas_ask;rw[f1,f2];refine kat_lt g1 d1 g2 d2 ?_;have l1:xs1.toArray.size=(rows.getD i []).length:=i1.length;have l2:xs2.toArray.size=(rows.getD j []).length:=i2.length;rw[l1,l2];exact aln 0 i1 i2 hC
    ·obtain⟨ep,eo⟩:=PyProof.Rows.sortedAll_at s.heap its its.toArray;have hn:H (s.heap.objs.size+1)=none:=I.hok.fresh (Nat.le_succ _);refine⟨.ref (s.heap.objs.size+1),upd H (s.heap.objs.size+1) (.lst vs),?_,rfl,Res.lst G q hl0 hn⟩;refine I.laid (t':=s.toks) (fun b u e=>PyProof.Rows.sortedAll_old e) (Nat.le_succ _) ?_
     refine⟨?_,its,ep,rv,eo⟩;exact Nat.le_of_lt (aan (by omega))
   ·cases eg
 | _=>cases eg
def aej(d:D):Option Rv:=match alz d with
 | some r=>some r
 | none=>ac3 d
theorem ane:CallD K X (.builtin "sorted") (g1 aej):=uv fun hk jv s σ0 H x u Q tg F ρ σ d r I ru G bd eg q=>by
 unfold aej at eg;cases e:alz d with
 | some r' =>
  rw[e] at eg;cases eg;exact as6.go hk jv s σ0 H [x] [u] Q I (.cons ru .nil) ⟨tg,F,ρ,σ,[d],_,G,.cons bd .nil,e,q⟩
 | none =>
  rw[e] at eg;exact anf.go hk jv s σ0 H [x] [u] Q I (.cons ru .nil) ⟨tg,F,ρ,σ,[d],_,G,.cons bd .nil,eg,q⟩
end
end Dn
namespace Kst
open PySem PySem.W PyProof.Rows
structure Wk (c:Nat->Nat->Bool):Prop where
 as:∀i j,c i j=true->c j i=false
 nt:∀i j k,c i j=false->c j k=false->c i k=false
def Sw(c:Nat->Nat->Bool)(p:Array Nat)(m:Nat):Prop:=∀i j,i < j->j < m->c (p.getD j 0) (p.getD i 0)=false
def Dw(c:Nat->Nat->Bool)(p:Array Nat)(m:Nat):Prop:=∀i j,i < j->j < m->c (p.getD i 0) (p.getD j 0)=false
def Eb(c:Nat->Nat->Bool)(p:Array Nat)(a b:Nat):Prop:=∀i j,a<=i->i < b->a<=j->j < b->c (p.getD i 0) (p.getD j 0)=false
section
variable{n:Nat}{c:Nat->Nat->Bool}{cmp:Nat->Nat->(Bool->Shared->Prop)->Shared->Prop}{s:Shared}{p:Array Nat}
theorem Wk.rf(O:Wk c)(i:Nat):c i i=false:=by
 cases e:c i i with
 | false=>rfl
 | true=>rw[O.as i i e] at e;cases e
theorem axu(O:Wk c){m:Nat}(h:∀k,1<=k->k < m->c (p.getD k 0) (p.getD (k - 1) 0)=false):Sw c p m:=by
 intro i j hij hj
 induction j with
 | zero=>omega
 | succ j ih =>
  have a:=h (j+1) (by omega) hj
  rw[Nat.add_sub_cancel] at a
  by_cases e:i=j
  ·subst e;exact a
  ·exact O.nt _ _ _ a (ih (by omega) (by omega))
theorem Dw.snoc(O:Wk c){m:Nat}(h:Dw c p m)(h1:1<=m)(e:c (p.getD (m - 1) 0) (p.getD m 0)=false):Dw c p (m+1):=fun i j hij hj=>by
 by_cases z:j=m
 ·subst z
  by_cases y:i=j - 1
  ·rw[y];exact e
  ·exact O.nt _ _ _ (h i (j - 1) (by omega) (by omega)) e
 ·exact h i j hij (by omega)
theorem revg(hp:Pm n p){a b:Nat}(hb:b<=n){k:Nat}(hk:k < n):(kas_rev p a b).getD k 0=p.getD (if a<=k/\k < b then a+b - 1 - k else k) 0:=by
 have e:=getElem?_mirror_all (xs:=p) (i:=a) (j:=b) (by rw[hp.size];exact hb) k
 have e2:=(ad1 hp a b).get (k:=k) hk;unfold kas_rev at e2 ⊢
 rw[e2] at e
 by_cases z:a<=k/\k < b
 ·rw[if_pos z,hp.get (by omega)] at e
  rw[if_pos z];exact Option.some.inj e
 ·rw[if_neg z,hp.get hk] at e;rw[if_neg z];exact Option.some.inj e
theorem Dw.rev(hp:Pm n p){a b m:Nat}(hb:b<=m)(hm:m<=n)(h:Dw c p m)(e:Eb c p a b):Dw c (kas_rev p a b) m:=fun i j hij hj=>by
 rw[revg hp (by omega) (by omega),revg hp (by omega) (by omega)]
 by_cases zi:a<=i/\i < b
 ·by_cases zj:a<=j/\j < b
  ·rw[if_pos zi,if_pos zj];exact e _ _ (by omega) (by omega) (by omega) (by omega)
  ·rw[if_pos zi,if_neg zj];exact h _ _ (by omega) (by omega)
 ·by_cases zj:a<=j/\j < b
  ·rw[if_neg zi,if_pos zj];exact h _ _ (by omega) (by omega)
  ·rw[if_neg zi,if_neg zj];exact h i j hij hj
theorem ael(A:Asks n c cmp s)(O:Wk c){Q:Array Nat×Nat×Nat->Shared->Prop}:∀f p a q,Pm n p->q+1<=a->a+f<=n->Dw c p a->Eb c p (a - (q+1)) a ->
  (∀p' m q',Pm n p'->q'+1<=m->m<=n->Dw c p' m->Eb c p' (m - (q'+1)) m->Q (p',m,q') s)->(kas_desc f p a q).kasWp cmp Q s
 | 0,p,a,q,hp,h1,h2,hd,he,h=>h p a q hp h1 (by omega) hd he
 | f+1,p,a,q,hp,h1,h2,hd,he,h=>A _ _ (hp.lt (by omega)) (hp.lt (by omega)) _ (by
   cases e:c (p.getD a 0) (p.getD (a - 1) 0) with
   | true =>
    dsimp only;rw[if_pos rfl];have hd2:=hd.snoc O (by omega) (O.as _ _ e)
    by_cases z:q > 0
    ·rw[if_pos z];have hr:=ad1 hp (a - (q+1)) a;refine ael A O f _ (a+1) 0 hr (by omega) (by omega) (hd2.rev hp (Nat.le_succ a) (by omega) he) (fun i j i1 i2 j1 j2 =>?_) h
     have:i=a:=by omega
     have:j=a:=by omega
     subst i j;exact O.rf _
    ·rw[if_neg z];refine ael A O f p (a+1) 0 hp (by omega) (by omega) hd2 (fun i j i1 i2 j1 j2 =>?_) h
     have:i=a:=by omega
     have:j=a:=by omega
     subst i j;exact O.rf _
   | false =>
    dsimp only;rw[if_neg (by simp)]
    refine A _ _ (hp.lt (by omega)) (hp.lt (by omega)) _ ?_
    cases e2:c (p.getD (a - 1) 0) (p.getD a 0) with
    | true =>
     dsimp only;rw[if_pos rfl];exact h p a q hp h1 (by omega) hd he
    | false =>
     dsimp only;rw[if_neg (by simp)]
     refine ael A O f p (a+1) (q+1) hp (by omega) (by omega) (hd.snoc O (by omega) e2) (fun i j i1 i2 j1 j2 =>?_) h
     have w1:∀k,a - (q+1)<=k->k < a->c (p.getD a 0) (p.getD k 0)=false:=fun k k1 k2=>O.nt _ _ _ e (he (a - 1) k (by omega) (by omega) (by omega) k2)
     have w2:∀k,a - (q+1)<=k->k < a->c (p.getD k 0) (p.getD a 0)=false:=fun k k1 k2=>O.nt _ _ _ (he k (a - 1) (by omega) k2 (by omega) (by omega)) e2
     by_cases zi:i=a
     ·by_cases zj:j=a
      ·rw[zi,zj];exact O.rf _
      ·rw[zi];exact w1 j (by omega) (by omega)
     ·by_cases zj:j=a
      ·rw[zj];exact w2 i (by omega) (by omega)
      ·exact he i j (by omega) (by omega) (by omega) (by omega))
theorem ak5(A:Asks n c cmp s)(O:Wk c)(hp:Pm n p){m:Nat}(h1:1<=m)(hm:m<=n)(hd:Dw c p m){Q:Nat×Array Nat->Shared->Prop}
  (h:∀m' p',1<=m'->m'<=n->Pm n p'->Sw c p' m'->Q (m',p') s):(kas_tail3 m n p).kasWp cmp Q s:=by
 unfold kas_tail3;rw[KasT.kasWp_bind];have hr:=ad1 hp 0 m;refine agp A hr _ _ h1 (by omega) fun m' x1 x2 x3 _ =>?_
 refine h m' _ (by omega) (by omega) hr (axu O fun k k1 k2 =>?_)
 by_cases q:k < m
 ·rw[adm hp hm q,adm hp hm (k:=k - 1) (by omega)]
  exact hd _ _ (by omega) (by omega)
 ·exact x3 k (by omega) k2
theorem alg(A:Asks n c cmp s)(O:Wk c)(hp:Pm n p){m:Nat}(h1:1<=m)(hm:m < n)(hd:Dw c p (m+1)){Q:Nat×Array Nat->Shared->Prop}
  (h:∀m' p',1<=m'->m'<=n->Pm n p'->Sw c p' m'->Q (m',p') s):(kas_descPart m n p).kasWp cmp Q s:=by
 unfold kas_descPart;rw[KasT.kasWp_bind];refine ael A O _ p (m+1) 0 hp (by omega) (by omega) hd (fun i j i1 i2 j1 j2 =>?_) fun p' m' q' hp' y1 y2 y3 y4 =>?_
 ·have:i=m:=by omega
  have:j=m:=by omega
  subst i j;exact O.rf _
 ·dsimp only
  by_cases z:q' > 0
  ·rw[if_pos z];exact ak5 A O (ad1 hp' _ _) (by omega) y2 (y3.rev hp' (Nat.le_refl _) y2 y4) h
  ·rw[if_neg z];exact ak5 A O hp' (by omega) y2 y3 h
theorem apz(A:Asks n c cmp s)(O:Wk c)(hp:Pm n p)(h2:2<=n){Q:Nat×Array Nat->Shared->Prop}
  (h:∀m' p',1<=m'->m'<=n->Pm n p'->Sw c p' m'->Q (m',p') s):(kas_count n p).kasWp cmp Q s:=by
 unfold kas_count;rw[KasT.kasWp_bind];refine agp A hp _ _ (Nat.le_refl _) (by omega) fun m x1 x2 x3 x4 =>?_
 have hs:Sw c p m:=axu O fun k k1 k2=>x3 k k1 k2
 by_cases q:m=n
 ·rw[if_pos (by simp[q])]
  exact h m p x1 (by omega) hp hs
 ·rw[if_neg (by simp[q])]
  have y:=O.as _ _ (x4 (by omega))
  by_cases q1:m > 1
  ·rw[if_pos q1];refine A _ _ (hp.lt (by omega)) (hp.lt (by omega)) _ ?_
   cases e:c (p.getD 0 0) (p.getD (m - 1) 0) with
   | true =>
    dsimp only;rw[if_pos rfl];exact h m p x1 (by omega) hp hs
   | false =>
    dsimp only;rw[if_neg (by simp)]
    have lo:∀i,i < m->c (p.getD 0 0) (p.getD i 0)=false:=fun i hi=>by
     by_cases z:i=m - 1
     ·rw[z];exact e
     ·exact O.nt _ _ _ e (hs i (m - 1) (by omega) (by omega))
    have al:∀i j,i < m->j < m->c (p.getD i 0) (p.getD j 0)=false:=fun i j hi hj=>by
     have l1:c (p.getD i 0) (p.getD 0 0)=false:=by
      by_cases z:i=0
      ·rw[z];exact O.rf _
      ·exact hs 0 i (by omega) hi
     exact O.nt _ _ _ l1 (lo j hj)
    refine alg A O (ad1 hp 0 m) x1 (by omega) (fun i j hij hj =>?_) h
    rw[adm hp (by omega) (show i < m by omega)]
    by_cases z:j=m
    ·rw[aq8 hp (by omega) (by omega) (by omega),z]
     exact O.nt _ _ _ (al _ (m - 1) (by omega) (by omega)) y
    ·rw[adm hp (by omega) (show j < m by omega)]
     exact al _ _ (by omega) (by omega)
  ·rw[if_neg q1];have e1:m=1:=by omega
   subst e1;exact alg A O hp (Nat.le_refl _) (by omega) (fun i j hij hj=>by
    have:i=0:=by omega
    have:j=1:=by omega
    subst i j;exact y) h
theorem ae0(A:Asks n c cmp s)(O:Wk c)(hp:Pm n p){k:Nat}(hk:k < n)(hs:Sw c p k){Q:Nat->Shared->Prop}:∀f l r,l<=r->r<=k->r - l<=f->(∀i,i < l->c (p.getD k 0) (p.getD i 0)=false)->(∀i,r<=i->i < k->c (p.getD i 0) (p.getD k 0)=false) ->
  (∀l',l'<=k->(∀i,i < l'->c (p.getD k 0) (p.getD i 0)=false)->(∀i,l'<=i->i < k->c (p.getD i 0) (p.getD k 0)=false)->Q l' s)->(kas_place p k f l r).kasWp cmp Q s
 | 0,l,r,h1,h2,h3,a,b,h=>h l (by omega) a fun i i1 i2=>b i (by omega) i2
 | f+1,l,r,h1,h2,h3,a,b,h=>by
  show KasT.kasWp cmp (if l≥r then .ret l else _) Q s
  by_cases q:l≥r
  ·rw[if_pos q];exact h l (by omega) a fun i i1 i2=>b i (by omega) i2
  ·rw[if_neg q];refine A _ _ (hp.lt hk) (hp.lt (by omega)) _ ?_
   cases e:c (p.getD k 0) (p.getD ((l+r) / 2) 0) with
   | true =>
    dsimp only;rw[if_pos rfl];refine ae0 A O hp hk hs f l ((l+r) / 2) (by omega) (by omega) (by omega) a (fun i i1 i2 =>?_) h
    have e':=O.as _ _ e
    by_cases z:i=(l+r) / 2
    ·rw[z];exact e'
    ·exact O.nt _ _ _ (hs _ i (by omega) i2) e'
   | false =>
    dsimp only;rw[if_neg (by simp)]
    refine ae0 A O hp hk hs f ((l+r) / 2+1) r (by omega) h2 (by omega) (fun i i1 =>?_) b h
    by_cases z:i=(l+r) / 2
    ·rw[z];exact e
    ·exact O.nt _ _ _ e (hs i ((l+r) / 2) (by omega) (by omega))
theorem aqh(A:Asks n c cmp s)(O:Wk c){Q:Array Nat->Shared->Prop}(h:∀p',Pm n p'->Sw c p' n->Q p' s):∀f p k,k+f=n->Pm n p->Sw c p k->(kas_bin f p k).kasWp cmp Q s
 | 0,p,k,e,hp,hs=>h p hp (by rw[<-e];exact hs)
 | f+1,p,k,e,hp,hs=>by
  show KasT.kasWp cmp (KasT.bind _ _) Q s;rw[KasT.kasWp_bind];refine ae0 A O hp (by omega) hs k 0 k (by omega) (Nat.le_refl _) (by omega) (fun i hi=>by omega) (fun i i1 i2=>by omega) fun l hl a b =>?_
  refine aqh A O h f _ (k+1) (by omega) ⟨(Array.perm_iff_toList_perm.mp (bubble_perm p k _)).trans hp.pm⟩ fun i j hij hj =>?_
  rw[ah3 hp (by omega) hl (by omega),ah3 hp (by omega) hl (by omega)]
  by_cases i1:i=l
  ·rw[if_pos i1,if_neg (by omega),if_pos (by omega)]
   exact b (j - 1) (by omega) (by omega)
  ·rw[if_neg i1]
   by_cases j1:j=l
   ·rw[if_pos j1,if_neg (by omega)]
    exact a i (by omega)
   ·rw[if_neg j1]
    by_cases i2:l < i
    ·rw[if_pos (by omega),if_pos (by omega)]
     exact hs _ _ (by omega) (by omega)
    ·rw[if_neg (show ¬(l < i/\i<=k) by omega)]
     by_cases j2:l < j
     ·rw[if_pos (by omega)]
      by_cases z:i=j - 1
      ·omega
      ·exact hs _ _ (by omega) (by omega)
     ·rw[if_neg (by omega)]
      exact hs _ _ hij (by omega)
theorem aq4(A:Asks n c cmp s)(O:Wk c)(h2:2<=n){Q:Array Nat->Shared->Prop}(h:∀p',Pm n p'->Sw c p' n->Q p' s):(kas_sort n).kasWp cmp Q s:=by
 unfold kas_sort;rw[KasT.kasWp_bind];refine apz A O ⟨by simp⟩ h2 fun m p m1 m2 hp hs =>?_
 dsimp only
 by_cases q:m < n
 ·rw[if_pos q];rw[show max m 1=m by omega]
  exact aqh A O h _ _ _ (by omega) hp hs
 ·rw[if_neg q];exact h p hp (by rw[show n=m by omega];exact hs)
end
section
variable{prog:Program}{w:World}{A:Around}{E:Value->Shared->Prop}{s:Shared}{κ:SortKind}
theorem amj{a:Addr}{vs:List Value}{n:Nat}{P:PySem.Fin->Shared->Prop}{c:Nat->Nat->Bool}(ho:s.heap.get? a=some (seqObj "list" vs.toArray n))(h2:2<=vs.length)(h64:vs.length < 64)(O:Wk c)
  (hk:∀h':Heap,(∀b o,b≠a->s.heap.get? b=some o->h'.get? b=some o)->(∀Q:SortKind->Shared->Prop,Q κ { s with heap:=h' }->wpAny (model prog w) A (keyKind' vs.toArray) Q (fun _ _=>False) { s with heap:=h' })/\Asks vs.length c (kas_ask prog w A κ vs) { s with heap:=h' })
  (h:∀p,Pm vs.length p->Sw c p vs.length->P (.done (.ret .none)) { s with heap:=sortedHeap s.heap a vs (acr vs p) }) :
  wpAny (model prog w) A (Builtin.«list.sort» ⟨[.ref a],[]⟩) P E s:=by
 have ha:a < s.heap.objs.size:=Heap.lt_size ho;obtain⟨e1,ho1⟩:∃e1,(s.heap.update a (Obj.mapSeq fun _=>(#[]:Array Value))).get? a=some (seqObj "list" #[] e1):=⟨_,get?_update_seq ho fun _ => #[]⟩
 have ho6:(((s.heap.update a (Obj.mapSeq fun _=>(#[]:Array Value))).push (seqObj "tuple" vs.toArray 0)).push (seqObj "list" #[] 0)).get? a=some (seqObj "list" #[] e1):=Heap.get?_push_of_some _ (Heap.get?_push_of_some _ ho1)
 have kp:∀b o,b≠a->s.heap.get? b=some o->(((s.heap.update a (Obj.mapSeq fun _=>(#[]:Array Value))).push (seqObj "tuple" vs.toArray 0)).push (seqObj "list" #[] 0)).get? b=some o:=fun b o hb e =>
  Heap.get?_push_of_some _ (Heap.get?_push_of_some _ (by rw[Heap.get?_update_ne _ _ _ _ hb];exact e))
 rw[list_sort_plain];refine wpAny_bind (listItems_at ho rfl ?_);refine wpAny_bind (listUpdate_at ho rfl ?_ (by rw[List.size_toArray,sizeLine_eq];omega) (Nat.zero_le _))
 refine wpAny_bind (seqEpoch_at ho1 rfl ?_);refine wpAny_bind (wpAny_newTuple ?_ (by show vs.length<=_;rw[sizeLine_eq];omega))
 refine wpAny_bind (wpAny_newList ?_ (Nat.zero_le _));refine wpAny_holding ?_;show wpAny (model prog w) A _ P E { s with heap:=((s.heap.update a (Obj.mapSeq fun _=>(#[]:Array Value))).push (seqObj "tuple" vs.toArray 0)).push (seqObj "list" #[] 0) }
 dsimp only;have hn2:¬vs.toArray.size < 2:=by rw[List.size_toArray];omega
 rw[if_neg hn2,if_neg hn2];obtain⟨k1,k2⟩:=hk _ kp;refine wpAny_bind (wpAny_mono (k1 _ ?_) (fun κ' s' q=>q) fun _ _ x=>x.elim)
 refine wpAny_bind (wpAny_mono (kat_run (Q:=fun st' s'=>s'={ s with heap:=((s.heap.update a (Obj.mapSeq fun _=>(#[]:Array Value))).push (seqObj "tuple" vs.toArray 0)).push (seqObj "list" #[] 0) }/\∃p:Array Nat,Pm vs.length p/\Sw c p vs.length/\arrOf st'=p.map (kas_item (vs.toArray.zip vs.toArray))/\failedOf st'=none)
  (G:=fun p s'=>s'={ s with heap:=((s.heap.update a (Obj.mapSeq fun _=>(#[]:Array Value))).push (seqObj "tuple" vs.toArray 0)).push (seqObj "list" #[] 0) }/\Pm vs.length p/\Sw c p vs.length)
  rfl (by omega) h64 (fun p st' s' a1 a2 a3 a4=>⟨a4.1,p,a4.2.1,a4.2.2,a2,a3⟩) (aq4 k2 O (by omega) fun p hp hs=>⟨rfl,hp,hs⟩)) ?_ fun _ _ e=>e)
 intro r s' hr;obtain⟨u,st'⟩:=r;obtain⟨e,p,hp,hs,har,hf⟩:=hr;subst e;dsimp only at har hf ⊢
 have hout:(arrOf st').map (·.2)=acr vs p:=kat_snds rfl har;rw[hout];have hz:(acr vs p).size<=sizeLine:=by
  unfold acr;rw[List.size_toArray,List.length_map,Array.length_toList,hp.size,sizeLine_eq];omega
 refine wpAny_bind (seqEpoch_at ho6 rfl ?_);refine wpAny_bind (listUpdate_at ho6 rfl ?_ (Nat.zero_le _) (Nat.le_succ_of_le hz));rw[hf];simp only[bne_self_eq_false,Bool.false_eq_true,if_false];exact wpAny_pure (h p hp hs)
theorem ajz{l:Addr}{vs:List Value}{Q:Value->Shared->Prop}{c:Nat->Nat->Bool}(hl:s.heap.IsList l vs.toArray)(h2:2<=vs.length)(h64:vs.length < 64)(O:Wk c)
  (hk:∀h':Heap,(∀b o,s.heap.get? b=some o->h'.get? b=some o)->(∀Q:SortKind->Shared->Prop,Q κ { s with heap:=h' }->wpAny (model prog w) A.in1.in1 (keyKind' vs.toArray) Q (fun _ _=>False) { s with heap:=h' })/\Asks vs.length c (kas_ask prog w A.in1.in1 κ vs) { s with heap:=h' })
  (h:∀p,Pm vs.length p->Sw c p vs.length->Q (.ref (s.heap.objs.size+1)) { s with heap:=sortedAll s.heap vs (acr vs p) }) :
  wpAny (model prog w) A (call (.builtin "sorted") [.ref l]) Q E s:=by
 refine Calls.call_function_entry kind_sorted plain_sorted entry_sorted (args_sorted1 _) ?_;unfold Builtin.«sorted»
 refine wpAny_bind (m:=checkCount "sorted" 1 1 _) (wpAny_pure ?_);refine wpAny_bind (collect_list hl ?_ (by rw[sizeLine_eq];omega))
 refine wpAny_bind (wpAny_newList ?_ (by rw[sizeLine_eq];omega))
 have hsz:((s.heap.push (seqObj "list" #[] 0)).update s.heap.objs.size (Obj.mapSeq (· ++ vs.toArray))).objs.size=s.heap.objs.size+1:=by
  rw[Heap.size_update,size_push']
 have hoL:(((s.heap.push (seqObj "list" #[] 0)).update s.heap.objs.size (Obj.mapSeq (· ++ vs.toArray))).push (seqObj "list" vs.toArray 0)).get? (s.heap.objs.size+1)=some (seqObj "list" vs.toArray 0):=by
  rw[<-hsz];exact Heap.get?_push_size _ rfl
 have keep:∀b o,s.heap.get? b=some o->(((s.heap.push (seqObj "list" #[] 0)).update s.heap.objs.size (Obj.mapSeq (· ++ vs.toArray))).push (seqObj "list" vs.toArray 0)).get? b=some o:=fun b o q=>by
  have hlt:b < s.heap.objs.size:=Heap.lt_size q;rw[Heap.get?_push_ne _ _ _ (by rw[hsz];exact Nat.ne_of_lt (Nat.lt_succ_of_lt hlt)),Heap.get?_update_ne _ _ _ _ (Nat.ne_of_lt hlt),Heap.get?_push_ne _ _ _ (Nat.ne_of_lt hlt)]
  exact q
 show wpAny _ _ _ _ _ { s with heap:=((s.heap.push (seqObj "list" #[] 0)).update s.heap.objs.size (Obj.mapSeq (· ++ vs.toArray))).push (seqObj "list" vs.toArray 0) }
 rw[hsz];refine wpAny_bind (wpAny_holding (wpAny_call_entry slot_list_sort ⟨_,hoL,rfl⟩ entry_list_sort (amj (κ:=κ) hoL h2 h64 O (fun h' k'=>hk h' fun b o e=>k' b o (fun q=>absurd (Heap.lt_size e) (by rw[q];exact Nat.not_lt.mpr (Nat.le_succ _))) (keep b o e)) fun p hp hs=>⟨_,rfl,?_⟩) (args_list_sort _)))
 exact wpAny_pure ⟨_,rfl,h p hp hs⟩
end
theorem ao1{x y z:List Int}(h1:lexB x y=false)(h2:lexB y z=false):lexB x z=false:=by
 cases e:lexB x z with
 | false=>rfl
 | true =>
  by_cases q:x=y
  ·rw[q,h2] at e;cases e
  ·have:=ae8 x y q h1;rw[ahk _ _ _ this e] at h2;cases h2
end Kst
namespace Dn
open L2 Mn Kst PySem.W
abbrev LwS(l:LL9):Prop:=l.Pairwise fun a b=>lexB b a=false
theorem ai7(x:List Int):∀{l},LwS l->LwS (insL x l)
 | [],_=>by simp[insL,LwS]
 | y::r,h=>by
  unfold insL;have h:=List.pairwise_cons.mp h;split
  ·rename_i hxy;have hyx:=ab5 _ _ hxy;refine List.pairwise_cons.mpr ⟨fun z hz =>?_,List.pairwise_cons.mpr h⟩
   rcases List.mem_cons.mp hz with rfl | hz
   ·exact hyx
   ·exact ao1 (h.1 z hz) hyx
  ·rename_i hxy;refine List.pairwise_cons.mpr ⟨fun z hz =>?_,ai7 x h.2⟩
   rcases List.mem_cons.mp ((ac2 x r).mem_iff.mp hz) with rfl | hz
   ·simpa using hxy
   ·exact h.1 z hz
theorem ade:∀l:LL9,LwS (wk l)
 | []=>.nil
 | x::r=>ai7 x (ade r)
theorem akh:∀{l k:LL9},l.Perm k->LwS l->LwS k->l=k
 | [],k,h,_,_=>h.nil_eq
 | x::r,[],h,_,_=>absurd h.length_eq (by simp)
 | x::r,y::t,h,hl,hk=>by
  have hl:=List.pairwise_cons.mp hl;have hk:=List.pairwise_cons.mp hk;have e:x=y:=by
   by_cases q:x=y
   ·exact q
   ·have x1:x∈t:=by
     rcases List.mem_cons.mp (h.mem_iff.mp (List.mem_cons_self ..)) with z | z
     ·exact absurd z q
     ·exact z
    have y1:y∈r:=by
     rcases List.mem_cons.mp (h.mem_iff.mpr (List.mem_cons_self ..)) with z | z
     ·exact absurd z.symm q
     ·exact z
    have a:=hk.1 x x1;have b:=hl.1 y y1;have:=ae8 x y q a;rw[b] at this;cases this
  subst e;rw[akh (List.perm_cons x |>.mp h) hl.2 hk.2]
section
variable{K:Fg9}{X:Cx}
theorem au5{rows:LL9}{p:Array Nat}(hp:Pm rows.length p)(hs:Sw (fun i j=>lexB (rows.getD i []) (rows.getD j [])) p rows.length):LwS (p.toList.map fun i=>rows.getD i []):=by
 show List.Pairwise _ _;rw[List.pairwise_map,List.pairwise_iff_getElem];intro i j hi hj hij;have sz:=hp.size;have hi':i < rows.length:=by rw[Array.length_toList,sz] at hi;exact hi
 have hj':j < rows.length:=by rw[Array.length_toList,sz] at hj;exact hj
 have:=hs i j hij hj';have e1:=hp.get hi';have e2:=hp.get hj';rw[<-Array.getElem?_toList,List.getElem?_eq_getElem hi] at e1;rw[<-Array.getElem?_toList,List.getElem?_eq_getElem hj] at e2;rw[Option.some.inj e1,Option.some.inj e2];exact this
def ajb:D->Option Rv
 | .lst l=>(uw l).bind fun rows=>if (decide (2<=rows.length)&&decide (rows.length < 64)&&rows.all (fun r => !r.isEmpty))=true then some (.fr ((wk rows).map rowT)) else none
 | _=>none
theorem as4:CallD K X (.builtin "sorted") (g1 ajb):=uv fun hk jv s σ0 H x u Q tg F ρ σ d r I ru G bd eg q=>by
 subst hk;cases d with
 | lst l =>
  have eg:(uw l).bind (fun rows=>if (decide (2<=rows.length)&&decide (rows.length < 64)&&rows.all (fun r => !r.isEmpty))=true then some (Rv.fr ((wk rows).map rowT)) else none)=some r:=eg
  cases e:uw l with
  | none=>rw[e] at eg;cases eg
  | some rows =>
   rw[e,Option.bind_some] at eg;split at eg
   ·rename_i hc;simp only[Bool.and_eq_true,decide_eq_true_eq,List.all_eq_true] at hc;obtain⟨⟨h2,h64⟩,hne⟩:=hc;have hne:∀r∈rows,r≠[]:=fun r hr q=>by have:=hne r hr;rw[q] at this;cases this
    cases eg;obtain⟨a,vs,rfl,ea,hl⟩:=bd.lst G.sub;rw[aco e] at hl;cases ru;obtain⟨its,rv,pl,_⟩:=I.list (SqL.of ea);have hlen:vs.length=its.length:=rv.length;have T:=xx I G.sub hl rv;have tl:=T.len;have O:Wk fun i j=>lexB (rows.getD i []) (rows.getD j []):=⟨fun i j=>ab5 _ _,fun i j k=>ao1⟩
    refine ajz (κ:=tuples' (Value.type "int" != Value.type "tuple")) pl.isList (by omega) (by omega) O (fun h' k'=>⟨fun Q q =>?_,fun i j hi hj C hC =>?_⟩) fun p hp hs =>?_
    ·obtain⟨fs,kt,fl,fz⟩:=(T.mono k').kat hne;refine kat_kind kt (by omega) (fun v hv =>?_) (by decide) q
     obtain⟨i,t,rfl⟩:=fz v hv;exact Looks.of_pure rfl
    ·obtain⟨a1,o1,xs1,n1,f1,g1,d1,i1⟩:=(T.mono k').at i (by omega)
     obtain⟨a2,o2,xs2,n2,f2,g2,d2,i2⟩:=(T.mono k').at j (by omega)
     unfold kas_ask;rw[f1,f2];refine kat_lt g1 d1 g2 d2 ?_;have l1:xs1.toArray.size=(rows.getD i []).length:=i1.length;have l2:xs2.toArray.size=(rows.getD j []).length:=i2.length;rw[l1,l2];exact aln 0 i1 i2 hC
    ·have hp':Pm rows.length p:=tl▸hp;have hs':Sw (fun i j=>lexB (rows.getD i []) (rows.getD j [])) p rows.length:=tl▸hs
     have e':(p.toList.map fun i=>rows.getD i [])=wk rows:=akh ((acp [] hp').trans (uz rows).symm) (au5 hp' hs') (ade rows)
     have hm:∀i∈p.toList,i < rows.length:=fun i hi=>by simpa using hp'.pm.mem_iff.mp hi
     obtain⟨ep,eo⟩:=PyProof.Rows.sortedAll_at s.heap its (acr its p);have hn:H (s.heap.objs.size+1)=none:=I.hok.fresh (Nat.le_succ _);have il:=aho hl hm;rw[e'] at il;refine⟨.ref (s.heap.objs.size+1),upd H (s.heap.objs.size+1) (.lst (p.toList.map fun i=>vs.getD i .non)),?_,rfl,Res.lst G q il hn⟩
     refine I.laid (t':=s.toks) (fun b u e=>PyProof.Rows.sortedAll_old e) (Nat.le_succ _) ?_
     refine⟨?_,(p.toList.map fun i=>its.getD i Value.none),ep,aeq rv fun i hi=>by have:=hm i hi;omega,eo⟩
     rw[List.length_map,Array.length_toList,hp'.size];exact Nat.le_of_lt (aan (by omega))
   ·cases eg
 | _=>cases eg
def abh(d:D):Option Rv:=match ajb d with
 | some r=>some r
 | none=>aej d
theorem anc:CallD K X (.builtin "sorted") (g1 abh):=uv fun hk jv s σ0 H x u Q tg F ρ σ d r I ru G bd eg q=>by
 unfold abh at eg;cases e:ajb d with
 | some r' =>
  rw[e] at eg;cases eg;exact as4.go hk jv s σ0 H [x] [u] Q I (.cons ru .nil) ⟨tg,F,ρ,σ,[d],_,G,.cons bd .nil,e,q⟩
 | none =>
  rw[e] at eg;exact ane.go hk jv s σ0 H [x] [u] Q I (.cons ru .nil) ⟨tg,F,ρ,σ,[d],_,G,.cons bd .nil,eg,q⟩
theorem ahq{rows:LL9}(hz:rows.length < 64)(hn:∀r∈rows,r≠[]):abh (.lst (rows.map rowT))=some (.fr ((wk rows).map rowT)):=by
 by_cases h2:2<=rows.length
 ·have e:ajb (.lst (rows.map rowT))=some (.fr ((wk rows).map rowT)):=by
   show(uw (rows.map rowT)).bind _=_;rw[mq,Option.bind_some,if_pos];simp only[Bool.and_eq_true,decide_eq_true_eq,List.all_eq_true];exact⟨⟨h2,hz⟩,fun r hr=>by cases q:r with | nil=>exact absurd q (hn r hr) | cons _ _=>rfl⟩
  unfold abh;rw[e]
 ·match rows,hz,hn,h2 with
  | [],_,_,_=>rfl
  | [r],hz,hn,_ =>
   have e1:ajb (.lst ([r].map rowT))=none:=by
    show(uw ([r].map rowT)).bind _=_;rw[mq,Option.bind_some,if_neg (by simp)]
   have e2:alz (.lst ([r].map rowT))=none:=by
    show(uw ([r].map rowT)).bind _=_;rw[mq,Option.bind_some,if_neg (by simp)]
   unfold abh aej;rw[e1,e2];exact ahr hz hn (List.pairwise_singleton _ _)
  | _::_::_,_,_,h2=>exact absurd (by simp) h2
end
end Dn
namespace Stt
open PySem
def rl(m:Nat):Nat->Nat->Nat->List Nat
 | 0,_,_=>[]
 | f+1,i,p=>(List.range (SetTable.runEnd m i+1 - i)).map (i + ·)++rl m f (SetTable.leap m i p).1 (SetTable.leap m i p).2
def way(m:Nat)(h:Int):List Nat:=rl m (SetTable.turns m) (SetTable.bits h % (m+1)) (SetTable.bits h)
theorem free_eq{m:Nat}{ow:Array (Option Nat)}:∀f i p,SetTable.layClean.free m ow f i p=(rl m f i p).find? fun j=>(ow.getD j (some 0)).isNone
 | 0,_,_=>rfl
 | f+1,i,p=>by
  unfold SetTable.layClean.free rl;rw[List.find?_append,List.find?_map];show(match (List.range (SetTable.runEnd m i+1 - i)).find? ((fun j=>(ow.getD j (some 0)).isNone)∘(i + ·)) with | some k=>some (i+k) | none=>_)=_
  cases e:(List.range (SetTable.runEnd m i+1 - i)).find? ((fun j=>(ow.getD j (some 0)).isNone)∘(i + ·)) with
  | some k=>rfl
  | none=>exact free_eq f _ _
def Foll(t:SetTable):SetTable.Probe->List Nat->Prop
 | _,[]=>True
 | p,j::l=>p.j=j/\Foll t (t.advance p) l
theorem al3{t:SetTable}{i p:Nat}{L:List Nat}(h:Foll t ⟨(SetTable.leap t.mask i p).1,SetTable.runEnd t.mask (SetTable.leap t.mask i p).1 - (SetTable.leap t.mask i p).1,(SetTable.leap t.mask i p).1,(SetTable.leap t.mask i p).2,none⟩ L) :
  ∀r k,Foll t ⟨i+k,r,i,p,none⟩ ((List.range (r+1)).map (i+k + ·)++L)
 | 0,k=>⟨rfl,h⟩
 | r+1,k=>by
  rw[List.range_succ_eq_map,List.map_cons,List.map_map,List.cons_append];refine⟨rfl,?_⟩;have e:((i+k + ·)∘Nat.succ)=(i+(k+1) + ·):=by funext x;show i+k+(x+1)=_;omega
  rw[e];exact al3 h r (k+1)
theorem aob{t:SetTable}:∀f i p,Foll t ⟨i,SetTable.runEnd t.mask i - i,i,p,none⟩ (rl t.mask f i p)
 | 0,_,_=>trivial
 | f+1,i,p=>by
  have h:=al3 (aob f (SetTable.leap t.mask i p).1 (SetTable.leap t.mask i p).2) (SetTable.runEnd t.mask i - i) 0;have e:SetTable.runEnd t.mask i+1 - i=SetTable.runEnd t.mask i - i+1:=by unfold SetTable.runEnd;split <;> omega
  unfold rl;rw[e];exact h
theorem atp(m:Nat):∀f i p,(rl m f i p).length<=10*f
 | 0,_,_=>Nat.le_refl _
 | f+1,i,p=>by
  have:=atp m f (SetTable.leap m i p).1 (SetTable.leap m i p).2;have e:SetTable.runEnd m i+1 - i<=10:=by unfold SetTable.runEnd;split <;> omega
  unfold rl;rw[List.length_append,List.length_map,List.length_range];omega
theorem aez{t:SetTable}{f:Nat->Int}{h:Int}{j:Nat}{suf:List Nat}(hj:t.slot j=.empty):∀(pre:List Nat) (fuel:Nat) (p:SetTable.Probe),Foll t p (pre++j::suf)->(pre++j::suf).length<=fuel->p.dummy=none->(∀x∈pre,∃i,t.slot x=.live i/\f i≠h)->SetTable.probe.go t f h fuel p=some (.empty j none)
 | pre,0,p,_,hl,_,_=>by simp at hl
 | [],fuel+1,p,fo,hl,hd,_=>by
  unfold SetTable.probe.go;rw[fo.1,hj,hd]
 | x::pre,fuel+1,p,fo,hl,hd,hp=>by
  obtain⟨i,e,ne⟩:=hp x (List.mem_cons_self ..);unfold SetTable.probe.go;rw[fo.1,e];dsimp only;rw[if_neg (by simpa using ne)]
  exact aez hj pre fuel _ fo.2 (by simp at hl ⊢;omega) (by unfold SetTable.advance;split <;> exact hd) fun y hy=>hp y (List.mem_cons_of_mem _ hy)
theorem af6{t:SetTable}{f:Nat->Int}{h:Int}{i j:Nat}{suf:List Nat}(hj:t.slot j=.live i)(hf:f i=h):∀(pre:List Nat) (fuel:Nat) (p:SetTable.Probe),Foll t p (pre++j::suf)->(pre++j::suf).length<=fuel->(∀x∈pre,∃i,t.slot x=.live i/\f i≠h)->∃nx,SetTable.probe.go t f h fuel p=some (.candidate j i nx)
 | pre,0,p,_,hl,_=>by simp at hl
 | [],fuel+1,p,fo,hl,_=>by
  refine⟨t.advance p,?_⟩;unfold SetTable.probe.go;rw[fo.1,hj];dsimp only;rw[if_pos (by simpa using hf)]
 | x::pre,fuel+1,p,fo,hl,hp=>by
  obtain⟨i',e,ne⟩:=hp x (List.mem_cons_self ..);obtain⟨nx,q⟩:=af6 hj hf pre fuel _ fo.2 (by simp at hl ⊢;omega) fun y hy=>hp y (List.mem_cons_of_mem _ hy)
  refine⟨nx,?_⟩;unfold SetTable.probe.go;rw[fo.1,e];dsimp only;rw[if_neg (by simpa using ne)]
  exact q
def covB(m:Nat)(h:Int):Bool:=(way m h).foldl (fun a j=>a ||| (1 <<< j)) 0==2 ^ (m+1) - 1
theorem al4(j:Nat):∀(l:List Nat) (a:Nat),(l.foldl (fun a j=>a ||| (1 <<< j)) a).testBit j=(a.testBit j||decide (j∈l))
 | [],a=>by simp
 | x::l,a=>by
  rw[List.foldl_cons,al4 j l,Nat.testBit_or]
  by_cases q:j=x
  ·subst q;simp[Nat.testBit_shiftLeft]
  ·have:(1 <<< x).testBit j=false:=by
    rw[Nat.shiftLeft_eq,Nat.one_mul,Nat.testBit_two_pow];simp;omega
   rw[this];simp[q]
theorem aw4{m:Nat}{h:Int}(c:covB m h=true){j:Nat}(hj:j<=m):j∈way m h:=by
 unfold covB at c;have e:=eq_of_beq c;have:=al4 j (way m h) 0;rw[e,Nat.testBit_two_pow_sub_one] at this;simp at this;exact this.mp (by omega)
theorem aqr:∀(n:Nat) (l:List Nat),(∀j,j < n->j∈l)->n<=l.length
 | 0,_,_=>Nat.zero_le _
 | n+1,l,h=>by
  have:=aqr n (l.erase n) fun j hj=>(List.mem_erase_of_ne (by omega)).mpr (h j (by omega))
  rw[List.length_erase_of_mem (h n (by omega))] at this
  have:=List.length_pos_of_mem (h n (by omega))
  omega
theorem ajc{m:Nat}{h:Int}(c:covB m h=true){q:Nat->Bool}(hl:∃j,j<=m/\q j=true):∃pre j suf,way m h=pre++j::suf/\q j=true/\(∀x∈pre,q x=false)/\(way m h).find? q=some j:=by
 obtain⟨j,hj,e⟩:=hl;cases f:(way m h).find? q with
 | none=>exact absurd e (by simpa using List.find?_eq_none.mp f j (aw4 c hj))
 | some j' =>
  obtain⟨a,pre,suf,b,d⟩:=List.find?_eq_some_iff_append.mp f;exact⟨pre,j',suf,b,a,fun x hx=>by simpa using d x hx,rfl⟩
theorem av4{m:Nat}{l:List Nat}(hl:l.length<=m):∃j,j<=m/\(!decide (j∈l))=true:=by
 apply Classical.byContradiction;intro n;have:=aqr (m+1) l fun j hj=>Classical.byContradiction fun z=>n ⟨j,by omega,by simpa using z⟩
 omega
theorem rl_le{m:Nat}:∀f i p,i<=m->∀j∈rl m f i p,j<=m
 | 0,_,_,_,_,hj=>by cases hj
 | f+1,i,p,hi,j,hj=>by
  unfold rl at hj;rcases List.mem_append.mp hj with z | z
  ·obtain⟨k,hk,rfl⟩:=List.mem_map.mp z;have:=List.mem_range.mp hk;unfold SetTable.runEnd at this;split at this <;> omega
  ·exact rl_le f _ _ (Nat.le_of_lt_succ (Nat.mod_lt _ (Nat.succ_pos _))) j z
theorem atj{m:Nat}{h:Int}{j:Nat}(hj:j∈way m h):j<=m:=rl_le _ _ _ (Nat.le_of_lt_succ (Nat.mod_lt _ (Nat.succ_pos _))) j hj
theorem ak3(t:SetTable)(h:Int):Foll t (t.probeStart h) (way t.mask h):=aob _ _ _
theorem ant(t:SetTable)(h:Int):(way t.mask h).length<=10*SetTable.turns t.mask:=atp _ _ _ _
def ajx(m:Nat)(tk:Nat->Prop)(h:Int)(j:Nat):Prop:=∃pre suf,way m h=pre++j::suf/\j∉pre/\∀x∈pre,tk x
theorem ajx.mono{m:Nat}{tk tk':Nat->Prop}{h:Int}{j:Nat}(o:ajx m tk h j)(k:∀x,tk x->tk' x):ajx m tk' h j:=by
 obtain⟨pre,suf,a,b,c⟩:=o;exact⟨pre,suf,a,b,fun x hx=>k x (c x hx)⟩
structure Tab (t:SetTable) (es:Array (Int×Value)):Prop where
 dm:t.dummies = #[]
 sz:t.place.size=es.size
 rise:Rise t
 nd:(es.toList.map (·.1)).Nodup
 on:∀(i j:Nat) (e:Int×Value),t.place[i]? = some j->es[i]? = some e->ajx t.mask (· ∈ t.place.toList) e.1 j
theorem arh{t:SetTable}(r:Rise t){i j:Nat}(e:t.place[i]? = some j):SetTable.below t.place j=i:=by
 obtain⟨c1,c2,c3⟩:=afs r j;rcases Nat.lt_trichotomy (SetTable.below t.place j) i with q | q | q
 ·have hi:=(Array.getElem?_eq_some_iff.mp e).1;have hx:t.place[SetTable.below t.place j]? = some (t.place[SetTable.below t.place j]'(by omega)):=by simp
  have a:=c3 _ _ (Nat.le_refl _) hx;have b:=r.lt q hx e;omega
 ·exact q
 ·exact absurd (c2 i j q e) (Nat.lt_irrefl _)
theorem aig{t:SetTable}(r:Rise t){i j:Nat}(e:t.place[i]? = some j):t.slot j=.live i:=by
 unfold SetTable.slot;dsimp only;rw[arh r e,if_pos (by rw[e];exact beq_self_eq_true _)]
theorem slot_mem{t:SetTable}(r:Rise t){j:Nat}(h:j∈t.place.toList):∃i,t.place[i]? = some j/\t.slot j=.live i:=by
 obtain⟨i,e⟩:=List.mem_iff_getElem?.mp h;rw[Array.getElem?_toList] at e;exact⟨i,e,aig r e⟩
theorem an4{t:SetTable}(d:t.dummies = #[]){j:Nat}(h:j∉t.place.toList):t.slot j=.empty:=by
 unfold SetTable.slot;dsimp only;rw[if_neg,if_neg]
 ·rw[d];unfold SetTable.has;simp
 ·intro z;exact h (by
   rw[<-Array.mem_def];exact Array.mem_of_getElem? (eq_of_beq z))
def hashOf(es:Array (Int×Value))(i:Nat):Int:=(es[i]?.map (·.1)).getD 0
theorem asj{es:Array (Int×Value)}(nd:(es.toList.map (·.1)).Nodup){i k:Nat}{x y:Int×Value}(hx:es[i]? = some x)(hy:es[k]? = some y)(e:x.1=y.1):i=k:=by
 obtain⟨hi,rfl⟩:=Array.getElem?_eq_some_iff.mp hx;obtain⟨hk,rfl⟩:=Array.getElem?_eq_some_iff.mp hy;have p:=List.pairwise_iff_getElem.mp nd;rcases Nat.lt_trichotomy i k with q | q | q
 ·exact absurd (by rw[List.getElem_map,List.getElem_map,Array.getElem_toList,Array.getElem_toList];exact e) (p i k (by simpa using hi) (by simpa using hk) q)
 ·exact q
 ·exact absurd (by rw[List.getElem_map,List.getElem_map,Array.getElem_toList,Array.getElem_toList];exact e.symm) (p k i (by simpa using hk) (by simpa using hi) q)
theorem Tab.there{t:SetTable}{es:Array (Int×Value)}(T:Tab t es){i:Nat}{e:Int×Value}(he:es[i]? = some e):∃j nx,t.probe (hashOf es) e.1 (t.probeStart e.1)=some (.candidate j i nx):=by
 have hi:=(Array.getElem?_eq_some_iff.mp he).1;have hj:t.place[i]? = some (t.place[i]'(by rw[T.sz];exact hi)):=by simp
 obtain⟨pre,suf,a,b,c⟩:=T.on i _ e hj he;have fo:=ak3 t e.1;have le:=ant t e.1;rw[a] at fo le;obtain⟨nx,q⟩:=af6 (f:=hashOf es) (h:=e.1) (aig T.rise hj) (by unfold hashOf;rw[he];rfl) pre _ _ fo le fun x hx=>by
  obtain⟨k,e1,e2⟩:=slot_mem T.rise (c x hx);refine⟨k,e2,fun z =>?_⟩
  have hk:k < es.size:=by rw[<-T.sz];exact(Array.getElem?_eq_some_iff.mp e1).1
  have hy:es[k]? = some es[k]:=by simp
  unfold hashOf at z;rw[hy] at z;have:k=i:=asj T.nd hy he z;subst this;rw[e1] at hj;cases hj;exact b hx
 exact⟨_,nx,q⟩
theorem Tab.free{t:SetTable}{es:Array (Int×Value)}(T:Tab t es)(hm:es.size<=t.mask){h:Int}(c:covB t.mask h=true)(hn:h∉es.toList.map (·.1)):∃j,t.probe (hashOf es) h (t.probeStart h)=some (.empty j none)/\j∉t.place.toList/\ajx t.mask (· ∈ t.place.toList) h j:=by
 obtain⟨pre,j,suf,a,b,d,_⟩:=ajc c (av4 (l:=t.place.toList) (by rw[Array.length_toList,T.sz];exact hm))
 have b':j∉t.place.toList:=by simpa using b
 have d':∀x∈pre,x∈t.place.toList:=fun x hx=>by simpa using d x hx
 have fo:=ak3 t h;have le:=ant t h;rw[a] at fo le;refine⟨j,aez (an4 T.dm b') pre _ _ fo le rfl fun x hx =>?_,b',pre,suf,a,fun z=>b' (d' j z),d'⟩
 obtain⟨k,e1,e2⟩:=slot_mem T.rise (d' x hx);refine⟨k,e2,fun z=>hn ?_⟩
 have hk:k < es.size:=by rw[<-T.sz];exact(Array.getElem?_eq_some_iff.mp e1).1
 unfold hashOf at z;rw[show es[k]? = some es[k] by simp] at z
 exact List.mem_map.mpr ⟨es[k],by simp,z⟩
theorem ins_get{α:Type}{xs:Array α}{p:Nat}{x:α}(hp:p<=xs.size)(i:Nat):(SetTable.insertAt xs p x)[i]? = if i < p then xs[i]? else if i=p then some x else xs[i - 1]? := by
 rw[<-Array.getElem?_toList,SetTable.toList_insertAt]
 by_cases q:i < p
 ·rw[if_pos q,List.getElem?_append_left (by simp;omega),List.getElem?_take_of_lt q,Array.getElem?_toList]
 ·rw[if_neg q,List.getElem?_append_right (by simp;omega)]
  have e:(xs.toList.take p).length=p:=by simp;omega
  rw[e]
  by_cases z:i=p
  ·subst z;simp
  ·rw[if_neg z];obtain⟨d,rfl⟩:∃d,i=p+d+1:=⟨i - p - 1,by omega⟩
   rw[show p+d+1 - p=d+1 by omega,List.getElem?_cons_succ,List.getElem?_drop,Array.getElem?_toList]
   congr 1
theorem Tab.put{t:SetTable}{es:Array (Int×Value)}(T:Tab t es){j:Nat}{h:Int}{x:Value}(hj:j∉t.place.toList)(o:ajx t.mask (· ∈ t.place.toList) h j)(hn:h∉es.toList.map (·.1)):Tab (t.put j).1 (SetTable.insertAt es (t.put j).2 (h,x)):=by
 have hp:=(afs T.rise j).1;have aw:t.place[SetTable.below t.place j]? ≠ some j:=fun z=>hj (by rw[<-Array.mem_def];exact Array.mem_of_getElem? z)
 have sub:∀y,y∈t.place.toList->y∈(SetTable.insertAt t.place (SetTable.below t.place j) j).toList:=fun y hy=>(SetTable.insertAt_perm _ _ _).mem_iff.mpr (by simp at hy ⊢;exact .inl hy)
 refine⟨?_,?_,aj5 T.rise aw,?_,?_⟩
 ·show(if SetTable.has t.dummies j=true then _ else t.dummies) = #[]
  rw[T.dm];rfl
 ·show(SetTable.insertAt t.place (SetTable.below t.place j) j).size=(SetTable.insertAt es (SetTable.below t.place j) (h,x)).size;have a:=(SetTable.insertAt_perm t.place (SetTable.below t.place j) j).length_eq;have b:=(SetTable.insertAt_perm es (SetTable.below t.place j) (h,x)).length_eq;simp at a b;rw[a,b,T.sz]
 ·refine((SetTable.insertAt_perm es (SetTable.below t.place j) (h,x)).map (·.1)).nodup_iff.mpr ?_;simp only[Array.toList_push,List.map_append];exact List.nodup_append.mpr ⟨T.nd,by simp,fun a ha b hb z=>hn (by simp at hb;rw[<-hb,<-z];exact ha)⟩
 ·intro i k e h1 h2;have h1:(SetTable.insertAt t.place (SetTable.below t.place j) j)[i]? = some k:=h1;have h2:(SetTable.insertAt es (SetTable.below t.place j) (h,x))[i]? = some e:=h2;rw[ins_get hp] at h1;rw[ins_get (by rw[<-T.sz];exact hp)] at h2
  show ajx t.mask (· ∈ (SetTable.insertAt t.place (SetTable.below t.place j) j).toList) e.1 k;split at h1
  ·rename_i q;rw[if_pos q] at h2;exact(T.on i k e h1 h2).mono sub
  ·rename_i q;rw[if_neg q] at h2;split at h1
   ·rename_i z;rw[if_pos z] at h2;cases h1;cases h2;exact o.mono sub
   ·rename_i z;rw[if_neg z] at h2;exact(T.on (i - 1) k e h1 h2).mono sub
structure LayI (m:Nat) (hs:List Int) (k:Nat) (ow:Array (Option Nat)):Prop where
 sz:ow.size=m+1
 pm:(ow.toList.filterMap id).Perm (List.range k)
 on:∀j i,ow[j]? = some (some i)->∃h,hs[i]? = some h/\ajx m (fun x=>∃i',ow[x]? = some (some i')) h j
theorem alb{k:Nat}:∀{l:List (Option Nat)} {j:Nat},l[j]? = some none->((l.set j (some k)).filterMap id).Perm (l.filterMap id++[k])
 | [],j,h=>by simp at h
 | a::l,0,h=>by
  simp at h;subst h
  simpa using (List.perm_append_singleton k (l.filterMap id)).symm
 | a::l,j+1,h=>by
  have:=alb (k:=k) (l:=l) (j:=j) (by simpa using h)
  cases a with
  | none=>simpa using this
  | some x=>simpa using this
theorem all_some:∀{l:List (Option Nat)},(∀x∈l,x≠none)->(l.filterMap id).length=l.length
 | [],_=>rfl
 | a::l,h=>by
  cases a with
  | none=>exact absurd rfl (h none (List.mem_cons_self ..))
  | some x=>simpa using all_some (l:=l) fun y hy=>h y (List.mem_cons_of_mem _ hy)
theorem LayI.step{m k:Nat}{hs:List Int}{ow:Array (Option Nat)}(L:LayI m hs k ow)(hk:k<=m){h:Int}(hh:hs[k]? = some h)(c:covB m h=true) :
  ∃j,SetTable.layClean.free m ow (SetTable.turns m) (SetTable.bits h % (m+1)) (SetTable.bits h)=some j/\LayI m hs (k+1) (ow.setIfInBounds j (some k)):=by
 have ex:∃j,j<=m/\(ow.getD j (some 0)).isNone=true:=by
  apply Classical.byContradiction;intro n;have:=all_some (l:=ow.toList) fun x hx z=>by
   obtain⟨i,hi,rfl⟩:=List.mem_iff_getElem.mp hx;rw[Array.length_toList] at hi;rw[Array.getElem_toList] at z;exact n ⟨i,by have:=L.sz;omega,by rw[Array.getD,dif_pos hi];show(ow[i]).isNone=true;rw[z];rfl⟩
  rw[L.pm.length_eq,List.length_range,Array.length_toList,L.sz] at this;omega
 obtain⟨pre,j,suf,a,b,d,e⟩:=ajc c ex;have hj:j<=m:=atj (h:=h) (by rw[a];simp)
 have hlt:j < ow.size:=by have:=L.sz;omega
 have hnone:ow[j]? = some none:=by
  rw[Array.getD,dif_pos hlt] at b;rw[Array.getElem?_eq_getElem hlt];have b:(ow[j]).isNone=true:=b;cases q:ow[j] with
  | none=>rfl
  | some _=>rw[q] at b;cases b
 have get:∀x,(ow.setIfInBounds j (some k))[x]? = if j=x then some (some k) else ow[x]? := fun x=>by
  rw[Array.getElem?_setIfInBounds];split
  ·rename_i z;subst z;simp[hlt]
  ·rfl
 have mono:∀x:Nat,(∃i':Nat,ow[x]? = some (some i'))->∃i':Nat,(ow.setIfInBounds j (some k))[x]? = some (some i'):=fun x q=>by
  obtain⟨i',z⟩:=q;rw[get];split
  ·exact⟨_,rfl⟩
  ·exact⟨i',z⟩
 refine⟨j,by rw[free_eq];exact e,by rw[Array.size_setIfInBounds];exact L.sz,?_,fun x i z =>?_⟩
 ·rw[Array.toList_setIfInBounds,List.range_succ];exact(alb (by rw[Array.getElem?_toList];exact hnone)).trans (L.pm.append_right [k])
 ·rw[get] at z;split at z
  ·rename_i q;cases z;subst q;refine⟨h,hh,pre,suf,a,fun z =>?_,fun y hy=>mono y ?_⟩
   ·have:=d j z;rw[b] at this;cases this
   ·have:=d y hy;cases q:ow[y]? with
    | none =>
     have hy2:y<=m:=atj (h:=h) (by rw[a];exact List.mem_append_left _ hy)
     have:=Array.getElem?_eq_none_iff.mp q;have:=L.sz;omega
    | some v =>
     obtain⟨hl,e2⟩:=Array.getElem?_eq_some_iff.mp q;rw[Array.getD,dif_pos hl] at this;have this:(ow[y]).isNone=false:=this;rw[e2] at this;cases v with
     | none=>cases this
     | some w=>exact⟨w,rfl⟩
  ·obtain⟨h',e1,o⟩:=L.on x i z;exact⟨h',e1,o.mono mono⟩
theorem als{m:Nat}{hs:List Int}(c:∀h∈hs,covB m h=true)(hm:hs.length<=m):∀(l pre:List Int) (ow:Array (Option Nat)),hs=pre++l->LayI m hs pre.length ow ->
  ∃ow',l.foldl (fun acc h=>do
   let (owner,k) <-acc
   let j <-SetTable.layClean.free m owner (SetTable.turns m) (SetTable.bits h % (m+1)) (SetTable.bits h)
   pure (owner.setIfInBounds j (some k),k+1)) (some (ow,pre.length))=some (ow',hs.length)/\LayI m hs hs.length ow'
 | [],pre,ow,e,L=>by
  rw[List.append_nil] at e;subst e;exact⟨ow,rfl,L⟩
 | h::l,pre,ow,e,L=>by
  have hl:pre.length+(l.length+1)=hs.length:=by rw[e];simp
  obtain⟨j,e1,L1⟩:=L.step (by omega) (h:=h) (by rw[e];simp) (c h (by rw[e];simp))
  have e':hs=(pre++[h])++l:=by rw[e];simp
  obtain⟨ow',e2,L2⟩:=als c hm l (pre++[h]) _ e' (by rw[List.length_append];exact L1)
  refine⟨ow',?_,L2⟩;rw[List.foldl_cons,<-e2,List.length_append]
  congr 1
  show(SetTable.layClean.free m ow _ _ _).bind _=_;rw[e1];rfl
theorem azq{m:Nat}{hs:Array Int}(c:∀h∈hs.toList,covB m h=true)(hm:hs.size<=m):∃ow,SetTable.layClean m hs=some ow/\LayI m hs.toList hs.size ow:=by
 obtain⟨ow,e,L⟩:=als c (by simpa using hm) hs.toList [] (Array.replicate (m+1) none) rfl ⟨by simp,by
  have:(Array.replicate (m+1) (none:Option Nat)).toList.filterMap id=[]:=by
   rw[Array.toList_replicate];exact List.filterMap_eq_nil_iff.mpr fun x hx=>by rw[List.eq_of_mem_replicate hx];rfl
  rw[this];exact .refl _,fun j i z=>by
   obtain⟨hl,e2⟩:=Array.getElem?_eq_some_iff.mp z;rw[Array.getElem_replicate] at e2;cases e2⟩
 refine⟨ow,?_,by simpa using L⟩
 unfold SetTable.layClean;rw[<-Array.foldl_toList];exact congrArg (Option.map (·.1)) e
theorem pick_get{es:Array (Int×Value)}:∀{l:List Nat},(∀i∈l,i < es.size)->∀q:Nat,(l.filterMap (es[·]?))[q]? = l[q]?.bind (es[·]?)
 | [],_,q=>by simp
 | i::l,h,q=>by
  have hi:=h i (List.mem_cons_self ..);have e:es[i]? = some es[i]:=by simp
  rw[List.filterMap_cons,e];dsimp only;cases q with
  | zero=>rw[List.getElem?_cons_zero,List.getElem?_cons_zero];exact e.symm
  | succ q=>rw[List.getElem?_cons_succ,List.getElem?_cons_succ];exact pick_get (fun i hi=>h i (List.mem_cons_of_mem _ hi)) q
theorem awe{m f mv:Nat}{b p:Bool}{es:Array (Int×Value)}(hm:es.size<=m)(c:∀e∈es.toList,covB m e.1=true)(nd:(es.toList.map (·.1)).Nodup) :
  ∃t o,SetTable.laid m f mv b p (es.map (·.1))=some (t,o)/\t.mask=m/\t.led=b/\t.plain=p/\(o.filterMap (es[·]?)).toList.Perm es.toList/\Tab t (o.filterMap (es[·]?)):=by
 obtain⟨ow,e,L⟩:=azq (m:=m) (hs:=es.map (·.1)) (fun h hh=>by
  rw[Array.toList_map] at hh;obtain⟨x,hx,rfl⟩:=List.mem_map.mp hh;exact c x hx) (by simpa using hm)
 rw[Array.size_map] at L;have lv:∀(q:Nat) (j i:Nat),((List.range (m+1)).filterMap fun j=>(ow.getD j none).map (j,·))[q]? = some (j,i)->ow[j]? = some (some i):=fun q j i z=>by
  obtain⟨x,hx,z⟩:=List.mem_filterMap.mp (List.mem_of_getElem? z);have hx:x < ow.size:=by rw[L.sz];exact List.mem_range.mp hx
  rw[Array.getD,dif_pos hx] at z;have z:(ow[x]).map (x,·)=some (j,i):=z;cases q:ow[x] with
  | none=>rw[q] at z;cases z
  | some v=>rw[q] at z;cases z;rw[<-q];simp
 have ls:((List.range (m+1)).filterMap fun j=>(ow.getD j none).map (j,·)).map (·.2)=ow.toList.filterMap id:=by
  have e1:ow.toList=(List.range (m+1)).map fun j=>ow.getD j none:=by
   apply List.ext_getElem
   ·simp[L.sz]
   ·intro i h1 h2;have:i < ow.size:=by simpa using h1
    simp[Array.getD,this]
  rw[e1,List.filterMap_map,List.map_filterMap]
  congr 1
  funext j
  show((ow.getD j none).map (j,·)).map (·.2)=ow.getD j none;cases ow.getD j none <;> rfl
 have lt:∀i∈ow.toList.filterMap id,i < es.size:=fun i hi=>List.mem_range.mp (L.pm.mem_iff.mp hi)
 have k:=ao4 (m:=m) (f:=f) (mv:=mv) (b:=b) (p:=p) (hs:=es.map (·.1)) (t:=_) (o:=_) (by unfold SetTable.laid;rw[e];rfl)
 refine⟨_,_,by unfold SetTable.laid;rw[e];rfl,rfl,rfl,rfl,?_,?_⟩
 ·rw[Array.toList_filterMap];show(List.filterMap _ (List.map (fun x:Nat×Nat=>x.2) _)).Perm _
  rw[ls];refine(L.pm.filterMap _).trans ?_;rw[filterMap_getElem?_range]
 ·refine⟨rfl,?_,k.1,?_,?_⟩
  ·show(List.toArray (List.map (fun x:Nat×Nat=>x.1) _)).size=_
   have e1:∀l:List (Nat×Nat),(l.map (·.1)).length=(l.map (·.2)).length:=fun l=>by simp
   rw[List.size_toArray,e1,ls,<-Array.length_toList,Array.toList_filterMap];show _=(List.filterMap _ (List.filterMap id ow.toList)).length;have e2:=((L.pm.filterMap (es[·]?)).trans (by rw[filterMap_getElem?_range]:((List.range es.size).filterMap (es[·]?)).Perm es.toList)).length_eq
   rw[e2,L.pm.length_eq];simp
  ·rw[Array.toList_filterMap];show((List.filterMap _ (List.map (fun x:Nat×Nat=>x.2) _)).map _).Nodup
   rw[ls];refine(((L.pm.filterMap (es[·]?)).trans (by rw[filterMap_getElem?_range])).map (fun x:Int×Value=>x.1)).nodup_iff.mpr nd
  ·intro q j x h1 h2;have h1:(List.toArray (List.map (·.1) ((List.range (m+1)).filterMap fun j=>(ow.getD j none).map (j,·))))[q]? = some j:=h1
   rw[<-Array.getElem?_toList,Array.toList_filterMap] at h2;have h2:(List.filterMap (es[·]?) (List.map (·.2) ((List.range (m+1)).filterMap fun j=>(ow.getD j none).map (j,·))))[q]? = some x:=h2
   rw[pick_get (by rw[ls];exact lt),List.getElem?_map] at h2
   rw[List.getElem?_toArray,List.getElem?_map] at h1;cases z:((List.range (m+1)).filterMap fun j=>(ow.getD j none).map (j,·))[q]? with
   | none=>rw[z] at h1;cases h1
   | some v =>
    obtain⟨j',i⟩:=v;rw[z] at h1 h2;cases h1;have h2:es[i]? = some x:=h2;obtain⟨h,e3,o⟩:=L.on j' i (lv q j' i z);rw[Array.toList_map,List.getElem?_map,Array.getElem?_toList,h2] at e3;cases e3;refine o.mono fun y hy =>?_
    obtain⟨i',hy⟩:=hy;show y∈List.map (fun x:Nat×Nat=>x.1) _
    obtain⟨hl,e4⟩:=Array.getElem?_eq_some_iff.mp hy;refine List.mem_map.mpr ⟨(y,i'),List.mem_filterMap.mpr ⟨y,List.mem_range.mpr (by rw[<-L.sz];exact hl),?_⟩,rfl⟩
    rw[Array.getD,dif_pos hl];show(ow[y]).map _=_;rw[e4];rfl
open PyProof.Rows
def hp(k:List Int):Int:=reduceHash (Builtin.Tuple.tupleHashOf (k.map hashInt))
def prs:LL9:=(List.range 6).flatMap fun(a:Nat)=>(List.range 6).map fun(b:Nat)=>[((a:Nat):Int),((b:Nat):Int)]
theorem avi:(prs.all fun k=>covB 7 (hp k)&&covB 31 (hp k)&&covB 127 (hp k))=true:=by decide +kernel
theorem avh:(prs.map hp).Nodup:=by decide +kernel
theorem aui{k:List Int}(h:k∈prs){m:Nat}(hm:m=7∨m=31∨m=127):covB m (hp k)=true:=by
 have:=List.all_eq_true.mp avi k h;simp only[Bool.and_eq_true] at this;rcases hm with rfl | rfl | rfl
 ·exact this.1.1
 ·exact this.1.2
 ·exact this.2
theorem at5{k l:List Int}(h:k∈prs)(h':l∈prs)(e:hp k=hp l):k=l:=by
 obtain⟨i,hi,rfl⟩:=List.mem_iff_getElem.mp h;obtain⟨j,hj,rfl⟩:=List.mem_iff_getElem.mp h';have p:=List.pairwise_iff_getElem.mp avh;rcases Nat.lt_trichotomy i j with q | q | q
 ·exact absurd (by rw[List.getElem_map,List.getElem_map];exact e) (p i j (by simpa using hi) (by simpa using hj) q)
 ·subst q;rfl
 ·exact absurd (by rw[List.getElem_map,List.getElem_map];exact e.symm) (p j i (by simpa using hj) (by simpa using hi) q)
def addL(ks:LL9)(k:List Int):LL9:=if k∈ks then ks else ks++[k]
structure SetP (prog:Program) (w:World) (h:Heap) (es:Array (Int×Value)) (t:SetTable) (ks:LL9):Prop where
 ent:∀e∈es.toList,∃k a,e=(hp k,.ref a)/\k∈ks/\IsTupleKey (intKind prog w) h k a
 all:∀k∈ks,hp k∈es.toList.map (·.1)
 dom:∀k∈ks,k∈prs
 sz:es.size=ks.length
 tab:Tab t es
 msk:(t.mask=7/\es.size<=4)∨(t.mask=31/\es.size<=18)∨(t.mask=127/\es.size<=76)
section
variable{prog:Program}{w:World}{A:Around}{E:Value->Shared->Prop}{s:Shared}
theorem akl{k:List Int}{r:Addr}{Q:Bool->Shared->Prop}(hk:IsTupleKey (intKind prog w) s.heap k r)(h:Q true s):wpAny (model prog w) A (hashByValue 8 (.ref r)) Q E s:=by
 have hT:=hk.typeIs;obtain⟨o,items,n,ho,_,hd,hi⟩:=hk;unfold hashByValue;refine wpAny_bind (wpAny_specialOf hT F.slot_tuple_hash.lookup ?_);refine wpAny_bind (wpAny_seqItems ho hd ?_);refine wpAny_bind ?_;show wpAny _ _ (forIn items _ _) _ _ s;rw[<-Array.forIn_toList];refine wpAny_forIn_list _ (fun rest r s'=>r.1=none/\s'=s/\∃k',ItemsAre (intKind prog w) k' rest) _ ?_ ?_ _ _ ⟨rfl,rfl,k,hi⟩
 ·rintro v rest r s' ⟨hr,rfl,k',hi'⟩
  cases hi' with
  | cons h1 h2 =>
   obtain⟨u,rfl⟩:=Value.isInt_shape h1;refine wpAny_bind (wpAny_pure ?_);simp only[Bool.not_true,Bool.false_eq_true,if_false];exact wpAny_pure ⟨rfl,rfl,_,h2⟩
 ·rintro⟨r1,r2⟩ s' ⟨hr,rfl,_⟩
  simp only at hr;subst hr;exact wpAny_pure h
theorem acw{k:List Int}{r:Addr}{Q:Bool->Shared->Prop}(hk:IsTupleKey (intKind prog w) s.heap k r)(h:Q false s):wpAny (model prog w) A (ofAClassStatement 8 (.ref r)) Q E s:=by
 have hT:=hk.typeIs;obtain⟨o,items,n,ho,_,hd,hi⟩:=hk;unfold ofAClassStatement;refine wpAny_bind (wpAny_typeOf hT ?_);dsimp only;refine wpAny_bind (wpAny_pure ?_);simp only[Bool.not_true,Bool.false_eq_true,if_false];refine wpAny_bind (wpAny_seqItems ho hd ?_);dsimp only;refine wpAny_bind ?_;rw[<-Array.forIn_toList];refine wpAny_forIn_list _ (fun rest r s'=>r.1=none/\s'=s/\∃k',ItemsAre (intKind prog w) k' rest) _ ?_ ?_ _ _ ⟨rfl,rfl,k,hi⟩
 ·rintro v rest r s' ⟨hr,rfl,k',hi'⟩
  cases hi' with
  | cons h1 h2 =>
   obtain⟨u,rfl⟩:=Value.isInt_shape h1;refine wpAny_bind (m:=ofAClassStatement _ _) ?_;unfold ofAClassStatement;refine wpAny_pure ?_;simp only[Bool.false_eq_true,if_false];exact wpAny_pure ⟨rfl,rfl,_,h2⟩
 ·rintro⟨r1,r2⟩ s' ⟨hr,rfl,_⟩
  simp only at hr;subst hr;exact wpAny_pure h
theorem an8{k:List Int}{r:Addr}{st:List Value}{Q:Bool->Shared->Prop}(hk:IsTupleKey (intKind prog w) s.heap k r)(hs:∀v∈st,∃l a,v=.ref a/\IsTupleKey (intKind prog w) s.heap l a)(h:Q false s):wpAny (model prog w) A (searchCouldBeSeen (.ref r) st) Q E s:=by
 unfold searchCouldBeSeen;refine wpAny_bind ?_;refine wpAny_forIn_list _ (fun rest r s'=>r.1=none/\s'=s/\∀v∈rest,∃l a,v=Value.ref a/\IsTupleKey (intKind prog w) s.heap l a) _ ?_ ?_ _ _ ⟨rfl,rfl,hs⟩
 ·rintro v rest r' s' ⟨hr,rfl,hv⟩
  obtain⟨l,a,rfl,hl⟩:=hv _ (List.mem_cons_self ..);have hv':∀v∈rest,∃l a,v=Value.ref a/\IsTupleKey (intKind prog w) s'.heap l a:=fun v hv2=>hv v (List.mem_cons_of_mem _ hv2)
  dsimp only;split
  ·exact wpAny_pure ⟨rfl,rfl,hv'⟩
  ·refine wpAny_bind (wpAny_eqIsQuiet_tuple hk ?_);simp only[Bool.not_true,Bool.false_eq_true,if_false];refine wpAny_bind (wpAny_eqIsQuiet_tuple hl ?_);simp only[Bool.not_true,Bool.false_eq_true,if_false];refine wpAny_bind (acw hk ?_);simp only[Bool.false_eq_true,if_false];refine wpAny_bind (acw hl ?_);simp only[Bool.false_eq_true,if_false];exact wpAny_pure ⟨rfl,rfl,hv'⟩
 ·rintro⟨r1,r2⟩ s' ⟨hr,rfl,_⟩
  simp only at hr;subst hr;exact wpAny_pure h
end
section
variable{prog:Program}{w:World}{A:Around}{E:Value->Shared->Prop}{s:Shared}
theorem ale{t:SetTable}{f:Nat->Int}{h:Int}{p:SetTable.Probe}{r:Option SetTable.Met}{es:Array (Int×Value)}(hf:∀i,f i=hashOf es i)(e:t.probe (hashOf es) h p=r):t.probe f h p=r:=by
 rw[show f=hashOf es from funext hf];exact e
theorem ags{S a:Addr}{h h':Heap}{es:Array (Int×Value)}{ep:Nat}{t:SetTable}{k:List Int}(ho:h.get? S=some (setO es ep t))(hs:Heap.SameBut S h h')(x:IsTupleKey (intKind prog w) h k a):IsTupleKey (intKind prog w) h' k a:=by
 obtain⟨o',items,n,ho',hc,hd',hi⟩:=x;have hne:a≠S:=by
  rintro rfl
  obtain rfl:o'=setO es ep t:=Option.some.inj (ho'.symm.trans ho);exact nomatch hd'
 exact⟨o',items,n,(hs.2 a hne).trans ho',hc,hd',hi⟩
theorem SetP.fit{h:Heap}{es:Array (Int×Value)}{t:SetTable}{ks:LL9}(G:SetP prog w h es t ks):t.fits es.size=true:=by
 unfold SetTable.fits SetTable.fill;rw[G.tab.sz,G.tab.dm];have:=G.msk;simp;omega
theorem ax2{S:Addr}{es:Array (Int×Value)}{ep n m:Nat}{t:SetTable}{Q:Unit->Shared->Prop}(ho:s.heap.get? S=some (setO es ep t))(hf:t.fits es.size=true)(hm:SetTable.sizeAbove n=m+1)(hl:m+1<=1000)(hz:es.size<=m)(c:∀e∈es.toList,covB m e.1=true)(nd:(es.toList.map (·.1)).Nodup)
  (h:∀es' t',Tab t' es'->t'.mask=m->es'.toList.Perm es.toList->Q () { s with heap:=s.heap.update S (Obj.putSet es' t') }):wpAny (model prog w) A (setRelay S n) Q E s:=by
 obtain⟨t2,o,e,em,_,_,pm,T2⟩:=awe (f:=t.finger) (mv:=t.movedTo m) (b:=t.led) (p:=t.plain) hz c nd;have er:t.relaid (es.map (·.1)) n=some (t2,o):=by
  unfold SetTable.relaid;rw[hm,Nat.add_sub_cancel];exact e
 have hs:(o.filterMap (es[·]?)).size=es.size:=by rw[<-Array.length_toList,pm.length_eq,Array.length_toList]
 unfold setRelay;refine wpAny_bind (wpAny_setState_of ho rfl hf ?_);dsimp only;rw[hm,if_neg (by rw[sizeLine_eq];omega),er]
 refine wpAny_bind ?_;show wpAny _ _ (if ((o.filterMap (es[·]?)).size != es.size)=true then _ else _) _ _ _
 rw[if_neg (by rw[hs];simp)]
 exact wpAny_pure (wpAny_storeSet_of ho rfl (h _ _ T2 em pm) (by rw[hs,sizeLine_eq];omega))
theorem endP{S:Addr}{es es1:Array (Int×Value)}{ep:Nat}{t t1:SetTable}{ks:LL9}{n:Nat}{Q:Bool->Shared->Prop}(ho:s.heap.get? S=some (setO es ep t))(T1:Tab t1 es1)(en:es1.size=n)(hm:(t1.mask=7/\n<=5)∨(t1.mask=31/\n<=19)∨(t1.mask=127/\n<=76))
  (ent:∀e∈es1.toList,∃k a,e=(hp k,Value.ref a)/\k∈ks/\IsTupleKey (intKind prog w) s.heap k a) (all:∀k∈ks,hp k∈es1.toList.map (·.1)) (dom:∀k∈ks,k∈prs) (sz:es1.size=ks.length)
  (h:∀h' es' ep' t',Heap.SameBut S s.heap h'->h'.get? S=some (setO es' ep' t')->SetP prog w h' es' t' ks->Q true { s with heap:=h' }) :
  wpAny (model prog w) A (storeSet S es1 t1 >>= fun _=>if (!false&&t1.tooFull)=true then setRelay S (SetTable.grown n) >>= fun _=>pure true else pure true) Q E s:=by
 refine wpAny_bind (wpAny_storeSet_of ho rfl ?_ (by rw[en,sizeLine_eq];omega))
 have h1:=ak9 (es':=es1) (t':=t1) ho;have b1:=Heap.SameBut.update s.heap S (Obj.putSet es1 t1);have tf:t1.tooFull=decide (n*5≥t1.mask*3):=by
  unfold SetTable.tooFull SetTable.fill;rw[T1.sz,T1.dm,en];rfl
 split
 ·rename_i q;rw[tf] at q;have q:n*5≥t1.mask*3:=by simpa using q
  have fit:t1.fits es1.size=true:=by
   unfold SetTable.fits SetTable.fill;rw[T1.sz,T1.dm,en];simp;omega
  obtain⟨m,hm3,hsa,hn2⟩:∃m,(m=31∨m=127)/\SetTable.sizeAbove (SetTable.grown n)=m+1/\((m=31/\n=5)∨(m=127/\n=19)):=by
   rcases hm with⟨a,b⟩ | ⟨a,b⟩ | ⟨a,b⟩
   ·have:n=5:=by omega
    subst this;exact⟨31,.inl rfl,by decide,.inl ⟨rfl,rfl⟩⟩
   ·have:n=19:=by omega
    subst this;exact⟨127,.inr rfl,by decide,.inr ⟨rfl,rfl⟩⟩
   ·omega
  refine wpAny_bind (ax2 h1 fit hsa (by omega) (by omega) (fun e he =>?_) T1.nd fun es2 t2 T2 em pm =>?_)
  ·obtain⟨k,a,rfl,hk,_⟩:=ent e he;exact aui (dom k hk) (by omega)
  ·have b2:=b1.trans (Heap.SameBut.update _ S (Obj.putSet es2 t2));have hz:es2.size=es1.size:=by rw[<-Array.length_toList,pm.length_eq,Array.length_toList]
   refine wpAny_pure (h _ _ _ _ b2 (ak9 h1) ⟨fun e he =>?_,fun k hk =>?_,dom,hz.trans sz,T2,?_⟩)
   ·obtain⟨k,a,e1,e2,e3⟩:=ent e (pm.mem_iff.mp he);exact⟨k,a,e1,e2,ags ho b2 e3⟩
   ·exact((pm.map (·.1)).mem_iff).mpr (all k hk)
   ·rw[em,hz,en];omega
 ·rename_i q;rw[tf] at q;have q:¬n*5≥t1.mask*3:=by simpa using q
  refine wpAny_pure (h _ _ _ _ b1 h1 ⟨fun e he =>?_,all,dom,sz,T1,by rw[en];omega⟩)
  obtain⟨k,a,e1,e2,e3⟩:=ent e he;exact⟨k,a,e1,e2,ags ho b1 e3⟩
theorem axg{S r:Addr}{es:Array (Int×Value)}{ep:Nat}{t:SetTable}{ks:LL9}{k:List Int}{Q:Bool->Shared->Prop}(hu:A.units < cLine)(ho:s.heap.get? S=some (setO es ep t))(G:SetP prog w s.heap es t ks)(hk:IsTupleKey (intKind prog w) s.heap k r)(hd:k∈prs)(hn:es.size+1<=76)
  (h:∀h' es' ep' t' b,Heap.SameBut S s.heap h'->h'.get? S=some (setO es' ep' t')->SetP prog w h' es' t' (addL ks k)->Q b { s with heap:=h' }) :
  wpAny (model prog w) A (setAddHashed S (.ref r) (hp k)) Q E s:=by
 unfold setAddHashed setAddHashedIn;refine wpAny_holding (wpAny_bind (wpAny_setState_of ho rfl G.fit ?_));dsimp only;rw[show byScan (.ref r) es=false from rfl]
 simp only[Bool.false_eq_true,if_false];have hodd:t.gaveWay=false:=by
  unfold SetTable.gaveWay;rcases G.msk with⟨q,_⟩ | ⟨q,_⟩ | ⟨q,_⟩ <;> rw[q] <;> rfl
 unfold setSearch;refine wpAny_bind ?_;rw[setSearchFrom.eq_2];refine wpAny_bind (wpAny_setState_of ho rfl G.fit ?_);dsimp only;rw[hodd];simp only[Bool.false_eq_true,if_false]
 by_cases hin:k∈ks
 ·obtain⟨e,he,e1⟩:=List.mem_map.mp (G.all k hin);obtain⟨k',a',rfl,hk',ht'⟩:=G.ent e he;have ek:k'=k:=at5 (G.dom k' hk') hd e1;subst ek;obtain⟨i,hi⟩:=List.mem_iff_getElem?.mp he;rw[Array.getElem?_toList] at hi;obtain⟨j,nx,pr⟩:=G.tab.there hi;have pr:t.probe (hashOf es) (hp k') (Option.getD none (t.probeStart (hp k')))=some (.candidate j i nx):=pr;rw[ale ?_ pr]
  ·dsimp only;rw[hi];dsimp only;split;refine wpAny_bind (an8 hk (fun v hv =>?_) ?_)
   ·obtain⟨e,he,rfl⟩:=List.mem_map.mp hv;obtain⟨l,a,rfl,_,hl⟩:=G.ent e (by simp at he ⊢;exact he.1)
    exact⟨l,a,rfl,hl⟩
   ·simp only[Bool.false_eq_true,if_false];refine wpAny_bind (wpAny_holding (wpAny_eqBool_tuple hu ht' hk ?_));rw[decide_eq_true rfl];refine wpAny_bind (wpAny_setState_of ho rfl G.fit ?_);exact wpAny_pure (wpAny_pure (h s.heap es ep t _ (Heap.SameBut.refl S s.heap) ho (by rw[show addL ks k'=ks from if_pos hin];exact G)))
   ·refine wpAny_bind (wpAny_holding (wpAny_eqBool_tuple hu ht' hk ?_));rw[decide_eq_true rfl];refine wpAny_bind (wpAny_setState_of ho rfl G.fit ?_);exact wpAny_pure (wpAny_pure (h s.heap es ep t _ (Heap.SameBut.refl S s.heap) ho (by rw[show addL ks k'=ks from if_pos hin];exact G)))
  ·intro i;rfl
 ·have hmk:t.mask=7∨t.mask=31∨t.mask=127:=by have:=G.msk;omega
  have hnot:hp k∉es.toList.map (·.1):=fun z=>by
   obtain⟨e,he,e1⟩:=List.mem_map.mp z;obtain⟨k',a',rfl,hk',ht'⟩:=G.ent e he;exact hin (at5 (G.dom k' hk') hd e1▸hk')
  obtain⟨j,pr,hj,ow⟩:=G.tab.free (by have:=G.msk;omega) (aui hd hmk) hnot
  have pr:t.probe (hashOf es) (hp k) (Option.getD none (t.probeStart (hp k)))=some (.empty j none):=pr;rw[ale ?_ pr]
  ·dsimp only;refine wpAny_pure ?_;dsimp only;refine wpAny_bind (wpAny_setState_of ho rfl G.fit ?_);dsimp only;have T1:=G.tab.put (x:=Value.ref r) hj ow hnot;have pm:=SetTable.insertAt_perm es (t.put j).2 (hp k,Value.ref r);have hsz:(SetTable.insertAt es (t.put j).2 (hp k,Value.ref r)).size=es.size+1:=by rw[<-Array.length_toList,pm.length_eq,Array.length_toList,Array.size_push]
   have mem:∀e,e∈(SetTable.insertAt es (t.put j).2 (hp k,Value.ref r)).toList↔e∈es.toList∨e=(hp k,Value.ref r):=fun e=>by rw[pm.mem_iff];simp
   have fin:=endP (prog:=prog) (w:=w) (A:=A) (E:=E) (s:=s) (Q:=Q) (ks:=addL ks k) (n:=es.size+1) ho T1 hsz (by have:=G.msk;show(t.mask=7/\_)∨(t.mask=31/\_)∨(t.mask=127/\_);omega) (fun e he =>?_) (fun l hl =>?_) (fun l hl =>?_) ?_ fun h' es' ep' t' b o g=>h h' es' ep' t' true b o g
   ·split
    ·refine wpAny_bind (akl hk ?_);exact fin
    ·exact wpAny_bind (wpAny_pure fin)
   ·rcases(mem e).mp he with z | rfl
    ·obtain⟨k',a',e1,e2,e3⟩:=G.ent e z;exact⟨k',a',e1,by rw[show addL ks k=ks++[k] from if_neg hin];exact List.mem_append_left _ e2,e3⟩
    ·exact⟨k,r,rfl,by rw[show addL ks k=ks++[k] from if_neg hin];simp,hk⟩
   ·rw[show addL ks k=ks++[k] from if_neg hin] at hl
    rcases List.mem_append.mp hl with z | z
    ·obtain⟨e,he,e1⟩:=List.mem_map.mp (G.all l z);exact List.mem_map.mpr ⟨e,(mem e).mpr (.inl he),e1⟩
    ·rw[List.mem_singleton.mp z];exact List.mem_map.mpr ⟨_,(mem _).mpr (.inr rfl),rfl⟩
   ·rw[show addL ks k=ks++[k] from if_neg hin] at hl
    rcases List.mem_append.mp hl with z | z
    ·exact G.dom l z
    ·rw[List.mem_singleton.mp z];exact hd
   ·rw[hsz,G.sz,show addL ks k=ks++[k] from if_neg hin];simp
  ·intro i;rfl
end
open PySem.Spec
theorem sub_list_set:isSubtype (.type "list") (.type "set")=pure false:=by rw[isSubtype_type];kernel_rfl
theorem sub_list_frozenset:isSubtype (.type "list") (.type "frozenset")=pure false:=by rw[isSubtype_type];kernel_rfl
theorem aeo:∀(l ks:LL9),(l.foldl addL ks).length<=ks.length+l.length
 | [],ks=>Nat.le_refl _
 | k::l,ks=>by
  have:=aeo l (addL ks k);have:(addL ks k).length<=ks.length+1:=by unfold addL;split <;> simp
  rw[List.foldl_cons,List.length_cons];omega
theorem SetP.empty(prog:Program)(w:World)(h:Heap){b:Bool}:SetP prog w h #[] (.fresh 0 0 b) [] :=
 ⟨fun e he=>by simp at he,fun k hk=>(by cases hk),fun k hk=>(by cases hk),rfl,⟨rfl,rfl,List.Pairwise.nil,List.Pairwise.nil,fun i j e z _=>by simp[SetTable.fresh] at z⟩,.inl ⟨rfl,Nat.zero_le _⟩⟩
section
variable{prog:Program}{w:World}{A:Around}{R:Result->Shared->Prop}{I:Addr}{fp wr:List Addr}{G:Array GenState->Array GenState->Prop}{n:Nat}{P:Nat->Value->Prop}{St:Nat->Shared->Prop}
theorem SetP.mono{h h':Heap}{es:Array (Int×Value)}{t:SetTable}{ks:LL9}(g:SetP prog w h es t ks)(k:∀k a,IsTupleKey (intKind prog w) h k a->IsTupleKey (intKind prog w) h' k a):SetP prog w h' es t ks :=
 ⟨fun e he=>by obtain⟨k',a',e1,e2,e3⟩:=g.ent e he;exact⟨k',a',e1,e2,k _ _ e3⟩,g.all,g.dom,g.sz,g.tab,g.msk⟩
theorem aqy(W:WalksS prog w A.in1 I fp wr G n P St)(S:Addr)(hSf:S∉fp)(ks:Nat->List Int)(ad:Nat->Addr)(hval:∀i v,P i v->v=.ref (ad i))(hd:∀i,i < n->ks i∈prs)(hw:∀i s b k,St i s->b∈wr->¬IsTupleKey (intKind prog w) s.heap k b)(hb:n<=75)(hu:A.in1.units < cLine) :
  ∀(k i:Nat) (s:Shared) (es:Array (Int×Value)) (ep:Nat) (t:SetTable),n - i=k->i<=n->St i s->s.heap.get? S=some (setO es ep t)->SetP prog w s.heap es t (((List.range i).map ks).foldl addL [])->(∀j,j < n->IsTupleKey (intKind prog w) s.heap (ks j) (ad j)) ->
   (∀s' es' ep' t',Moved (S::wr) G s s'->s'.heap.get? S=some (setO es' ep' t')->SetP prog w s'.heap es' t' (((List.range n).map ks).foldl addL [])->R (.ok (.ret .none)) s') ->
   codeAny (model prog w) A (.builtin "set.update.loop" ⟨[.ref S,.ref I],[]⟩) R s:=by
 have hSw:S∉wr:=fun h=>hSf (W.sub _ h)
 have hsub:∀b∈wr,b∈S::wr:=fun b hb=>List.mem_cons_of_mem _ hb
 have keepT:∀{i:Nat} {s s':Shared},St i s->Moved wr G s s'->∀k a,IsTupleKey (intKind prog w) s.heap k a->IsTupleKey (intKind prog w) s'.heap k a:=fun{i s s'} st hm k a x=>by
  obtain⟨o,y,m,e,r⟩:=x;exact⟨o,y,m,hm.heap _ _ (fun z=>hw i s a k st z ⟨o,y,m,e,r⟩) e,r⟩
 intro k
 induction k with
 | zero =>
  intro i s es ep t hk hi hst ho g ht hR;have hin:i=n:=by omega
  subst hin;refine codeAny_builtin F.entry_set_update_loop ?_;rw[Around.under_plainId F.plain_set_update_loop _];show wpAny _ A.in1 (pyNext (.ref I) >>= _) _ _ s;refine wpAny_bind (W.done s _ _ hst fun s' hm =>?_)
  show wpAny _ A.in1 (ret Value.none) _ _ s';exact wpAny_pure (hR s' es ep t (hm.mono hsub) (hm.heap S _ hSw ho) (g.mono (keepT hst hm)))
 | succ k ih =>
  intro i s es ep t hk hi hst ho g ht hR;have hlt:i < n:=by omega
  refine codeAny_builtin F.entry_set_update_loop ?_;rw[Around.under_plainId F.plain_set_update_loop _];show wpAny _ A.in1 (pyNext (.ref I) >>= _) _ _ s;refine wpAny_bind (W.item i s _ _ hlt hst fun v s' hP hst' hm =>?_)
  obtain rfl:=hval i v hP;have ho':s'.heap.get? S=some (setO es ep t):=hm.heap S _ hSw ho;have ht':∀j,j < n->IsTupleKey (intKind prog w) s'.heap (ks j) (ad j):=fun j hj=>keepT hst hm _ _ (ht j hj)
  have g':SetP prog w s'.heap es t (((List.range i).map ks).foldl addL []):=g.mono (keepT hst hm);have hz:es.size<=i:=by
   have:=aeo ((List.range i).map ks) [];rw[g.sz]
   simpa using this
  show wpAny _ A.in1 (holding [Value.ref (ad i)] (setAdd S (.ref (ad i))) >>= _) _ _ s';refine wpAny_bind (wpAny_holding ?_);unfold setAdd;refine wpAny_holding ?_;refine wpAny_bind (wpAny_pyHash_tuple hu (ht' i hlt) ?_);refine axg (s:={ s' with toks:=s'.toks+((ks i).length+1) }) (k:=ks i) hu ho' g' (ht' i hlt) (hd i hlt) (by omega) fun h' es' ep' t' b hsb ho2 g2 =>?_
  have g3:SetP prog w h' es' t' (((List.range (i+1)).map ks).foldl addL []):=by
   rw[List.range_succ,List.map_append,List.foldl_append];exact g2
  refine wpAny_pure ⟨plainId_quiet F.plain_set_update_loop _,ih (i+1) _ es' ep' t' (by omega) hlt (W.frame _ s' _ _ hst' (Nat.le_add_right _ _) fun b hb o e =>?_) ho2 g3 (fun j hj=>ags ho' hsb (ht' j hj)) fun s'' es'' ep'' t'' hm'' ho'' g'' =>?_⟩
  ·rw[hsb.2 b (fun h:b=S=>hSf (by rw[<-h];exact hb))];exact e
  ·refine hR s'' es'' ep'' t'' (Moved.trans W.gtrans ((hm.mono hsub).then_heap (Nat.le_add_right _ _) fun b o hb e =>?_) hm'') ho'' g''
   rw[hsb.2 b (fun h:b=S=>hb (by rw[h];exact List.mem_cons_self))];exact e
end
section
variable{prog:Program}{w:World}{A:Around}{E:Value->Shared->Prop}{s:Shared}
set_option maxRecDepth 100000 in
set_option maxHeartbeats 3200000 in
theorem axz{l:Addr}{items:Array Value}{ks:Nat->List Int}{ad:Nat->Addr}{Q:Value->Shared->Prop}(hh:A.handled=none)(hu:A.units+8 < cLine)(hl:s.heap.IsList l items)(hi:∀(i:Nat) (v:Value),items[i]? = some v->v=.ref (ad i))(ht:∀i,i < items.size->IsTupleKey (intKind prog w) s.heap (ks i) (ad i))(hd:∀i,i < items.size->ks i∈prs)(hb:items.size<=75)
  (h:∀(h':Heap) (tk:Nat) es ep t,h'.get? s.heap.objs.size=some (setO es ep t)->t.fits es.size=true->es.size=(((List.range items.size).map ks).foldl addL []).length->(∀b o,s.heap.get? b=some o->h'.get? b=some o)->Q (.ref s.heap.objs.size) { s with heap:=h',toks:=tk }) :
  wpAny (model prog w) A (call (.type "set") [.ref l]) Q E s:=by
 obtain⟨c,tl,hmro⟩:=F.called_set.mro;have hmade:=F.called_set.made;have hsub:=F.called_set.sub;refine wpAny_call (codeAny_of_tree ?_);show wpAny _ _ (callAny (.type "set") _) _ _ _;refine wpAny_pure ⟨Code.quiet_builtin _ (by decide +kernel),codeAny_builtin F.entry_type_call ?_⟩
 rw[Around.under_plain (weight_type_call_type "set" [.ref l] []) rfl];have h1:=F.called_set.notType;have h2:=F.called_set.canCreate;have hct:=F.typeCall_set_1 (.ref l)
 repeat (any_goals (first | assumption | wp_step))
 refine codeAny_mono (av6 (.ref l) (E:=E) (Q₁:=fun obj s₁=>obj=.ref s.heap.objs.size/\s₁={ s with heap:=s.heap.push (fresh0 w) }) ⟨rfl,rfl⟩) fun r s₁ hr =>?_
 cases r with
 | error e=>exact hr
 | ok fl =>
  cases fl with
  | ret obj =>
   obtain⟨rfl,rfl⟩:=hr;have hS:(s.heap.push (fresh0 w)).get? s.heap.objs.size=some (fresh0 w):=Heap.get?_push_size _ rfl;have hT:Shared.TypeIs { s with heap:=s.heap.push (fresh0 w) } (.ref s.heap.objs.size) "set" := ⟨_,hS,rfl⟩
   have hli:=F.called_set.init.lookup;have hbi:=F.called_set.init.bind (.ref s.heap.objs.size)
   repeat (any_goals (first | assumption | wp_step))
   refine codeAny_mono (codeAny_call_builtin (R:=wants (fun r s₂=>r=.none/\∃h' tk es ep t,s₂={ s with heap:=h',toks:=tk }/\h'.get? s.heap.objs.size=some (setO es ep t)/\t.fits es.size=true/\es.size=(((List.range items.size).map ks).foldl addL []).length /\
     (∀b o,s.heap.get? b=some o->h'.get? b=some o)) E) F.called_set.init.plain F.entry_set_init (check_set_init_1 hT ?_)) fun r₂ s₂ hr₂ =>?_
   ·obtain⟨ol,hol,hcl,nl,hdl⟩:=hl;obtain⟨ocls,odict,odata,oslots⟩:=ol;simp only at hcl hdl;subst hcl;subst hdl;have hol':(s.heap.push (fresh0 w)).get? l=some { cls:=.type "list", dict:=odict,data:=.seq items nl,slots:=oslots }:=Heap.get?_push_of_some _ hol;have hsls:=sub_list_set;have hslf:=sub_list_frozenset;have hne:(Value.type "list" == Value.type "dict")=false:=by decide
    have hl1:(s.heap.push (fresh0 w)).IsList l items:=⟨_,hol',rfl,nl,rfl⟩;unfold Builtin.«set.__init__» noKeywords Builtin.Frozenset.updateFrom;generalize hPI:pyIter=PI;wp_walk;subst hPI;refine wpAny_pyIter_list hl1 ?_;refine wpAny_bind (wpAny_runValue ?_);have hlS:l < s.heap.objs.size:=Heap.lt_size hol;have hh3:A.in1.in1.in1.handled=none:=by simp[hh]
    have hneI:l≠(s.heap.push (fresh0 w)).objs.size:=by
     rw[Heap.size_push];exact Nat.ne_of_lt (Nat.lt_succ_of_lt hlS)
    have hSf:s.heap.objs.size∉[(s.heap.push (fresh0 w)).objs.size,l]:=by
     rw[Heap.size_push];simp only[List.mem_cons,List.mem_singleton,List.not_mem_nil,or_false,not_or];exact⟨Nat.ne_of_lt (Nat.lt_succ_self _),Nat.ne_of_gt hlS⟩
    have old:∀b o,s.heap.get? b=some o->b≠s.heap.objs.size/\b≠(s.heap.push (fresh0 w)).objs.size:=fun b o e=>by
     have hlt:=Heap.lt_size e;rw[Heap.size_push];exact⟨Nat.ne_of_lt hlt,Nat.ne_of_lt (Nat.lt_succ_of_lt hlt)⟩
    refine aqy ((Walks.list hh3 _ l hneI items).toS) s.heap.objs.size hSf ks ad hi hd ?hw hb ?hu (items.size - 0) 0 _ #[] 0 _ (by omega) (Nat.zero_le _)
     ⟨⟨_,Heap.get?_push_size _ rfl,rfl,rfl⟩,(hl1.push _)⟩ (Heap.get?_push_of_some _ hS) (SetP.empty prog w _) (fun i hi' =>?ht) ?hR
    case hw =>
     intro i s2 b k st hb2 x;obtain⟨o,_,_,e,c,_⟩:=x;obtain⟨⟨o2,e2,c2,_⟩,_⟩:=st;have:b=(s.heap.push (fresh0 w)).objs.size:=by simpa using hb2
     subst this;rw[e] at e2;cases e2;rw[c] at c2
     injection c2 with z
     exact absurd z (by decide)
    case hu=>simp;omega
    case ht =>
     obtain⟨o,x,n,e,r⟩:=ht i hi';exact⟨o,x,n,Heap.get?_push_of_some _ (Heap.get?_push_of_some _ e),r⟩
    case hR =>
     intro s' es ep t hm ho' g';obtain⟨h',g₀,d',tk',os'⟩:=s';have eg:g₀=s.gens:=hm.gens;have ed:d'=s.drawn:=hm.drawn;have eo:os'=s.os:=hm.os;subst eg;subst ed;subst eo;show wpAny _ _ _ _ _ _;refine wpAny_pure ?_;show wpAny _ _ (ret Value.none) _ _ _;refine wpAny_pure ⟨rfl,h',tk',es,ep,t,rfl,ho',g'.fit,g'.sz,fun b o e =>?_⟩
     obtain⟨hb1,hb2⟩:=old b o e;exact hm.heap b o (by simp only[List.mem_cons,List.mem_singleton,List.not_mem_nil,or_false,not_or];exact⟨hb1,hb2⟩) (Heap.get?_push_of_some _ (Heap.get?_push_of_some _ e))
   ·cases r₂ with
    | error e=>exact hr₂
    | ok fl₂ =>
     cases fl₂ with
     | ret r =>
      obtain⟨rfl,h',tk,es,ep,t,rfl,hS',g',hz',hk'⟩:=hr₂
      repeat (any_goals (first | assumption | wp_step))
      exact h _ _ _ _ _ hS' g' hz' hk'
     | _=>exact hr₂.elim
  | _=>exact hr.elim
end
end Stt
namespace Dn
open L2 Mn
section
variable{K:Fg9}{X:Cx}{e:Expr}{pos:Pos}
theorem tkI{prog:Program}{w:World}:∀{xs:List Value} {r:List Int},IntsAre xs r->PySem.ItemsAre (intKind prog w) r xs
 | _,_,.nil=>.nil
 | _,_,.cons m u q=>.cons (intKind_is _ _ _ _) (tkI q)
theorem TupsAre.key{prog:Program}{w:World}{h:Heap}:∀{us:List Value} {rs:LL9},TupsAre h us rs->∀i,i < rs.length->∃a,us[i]? = some (.ref a)/\IsTupleKey (intKind prog w) h (rs.getD i []) a
 | _,_,.cons e c d i t,0,_=>⟨_,rfl,_,_,_,e,c,d,tkI i⟩
 | _,_,.cons e c d i t,k+1,hk=>by
  obtain⟨a,e1,e2⟩:=t.key (prog:=prog) (w:=w) k (by simpa using hk)
  exact⟨a,by simpa using e1,by simpa using e2⟩
def ath(a:Addr)(n:Nat):Heap->Prop:=fun h=>∃es ep t,h.get? a=some (Stt.setO es ep t)/\t.fits es.size=true/\es.size=n
def ax3(K:Fg9):List V->Hp->VK->Prop:=fun vs H Q=>∃(p:Addr) (ws:List V) (rows:LL9) (F:Hp),vs=[.ref p]/\H p=some (.lst ws)/\IsL K F (rows.map rowT) ws/\Same F H/\(∀r∈rows,r∈Stt.prs)/\rows.length<=75/\∀a,H a=none->Q (.ref a) (upd H a (.ext (ath a (rows.foldl Stt.addL []).length)))
def adr:Value->Addr
 | .ref a=>a
 | _=>0
theorem aqa(hc:X.calm=true)(hu:X.A.units+64 < cLine):acg X (.type "set") (ax3 X.K):=by
 intro jv s σ H xs us Q I r z9;obtain⟨p,ws,rows,F,hv,hp,hl,sm,hd,hz,q⟩:=z9;subst hv;obtain⟨u,rfl,ru⟩:=vals1 r;cases ru;obtain⟨its,rv,pl,_⟩:=I.list (SqL.of hp);have T:=xx I sm hl rv;have tl:=T.len;have er:(List.range its.toArray.size).map (fun i=>rows.getD i [])=rows:=by
  rw[List.size_toArray,tl];apply List.ext_getElem
  ·simp
  ·intro i h1 h2;simp[List.getD_eq_getElem?_getD,h2]
 have hkey:∀i,i < its.toArray.size->∃a,its[i]? = some (.ref a)/\IsTupleKey (intKind X.prog X.w) s.heap (rows.getD i []) a:=fun i hi=>T.key i (by rw[<-tl];simpa using hi)
 refine Stt.axz (I.ok.hd hc) (ks:=fun i=>rows.getD i []) (ad:=fun i=>adr (its.getD i .none)) (by omega) pl.isList (fun i v e =>?_) (fun i hi =>?_) (fun i hi =>?_) (by rw[List.size_toArray,tl];exact hz) fun h' tk es ep t ho ft hsz hk =>?_
 ·have e:its[i]? = some v:=by simpa using e
  obtain⟨a,e1,_⟩:=hkey i (by simpa using (List.getElem?_eq_some_iff.mp e).1)
  rw[e] at e1;cases e1;show _=Value.ref (adr (its.getD i .none));rw[List.getD_eq_getElem?_getD,e];rfl
 ·obtain⟨a,e1,e2⟩:=hkey i hi;rw[List.getD_eq_getElem?_getD (l:=its),e1];exact e2
 ·have hi':i < rows.length:=by rw[<-tl];simpa using hi
  rw[List.getD_eq_getElem?_getD,List.getElem?_eq_getElem hi'];exact hd _ (List.getElem_mem hi')
 ·have hn:H s.heap.objs.size=none:=I.hok.fresh (Nat.le_refl _);rw[er] at hsz;refine⟨.ref s.heap.objs.size,_,I.laid hk (Nat.le_refl _) ?_,rfl,q _ hn⟩;exact⟨⟨es,ep,t,ho,ft,hsz⟩,⟨_,ho⟩,fun h1 h2 ⟨es,ep,t,z,g,zz⟩ k=>⟨es,ep,t,k _ z,g,zz⟩⟩
def ax4:List V->Hp->VK->Prop:=fun vs H Q=>∃a n,vs=[.ref a]/\H a=some (.ext (ath a n))/\n < 4000/\Q (.int (n:Int)) H
theorem as8:acg X (.builtin "len") ax4:=by
 intro jv s σ H xs us Q I r z9;obtain⟨a,n,hv,ha,hz,q⟩:=z9;subst hv;obtain⟨u,rfl,ru⟩:=vals1 r;cases ru;obtain⟨⟨es,ep,t,ho,g,hsz⟩,_⟩:=I.hok a _ ha;refine call_len_set ho ⟨rfl,rfl,rfl⟩ rfl g (by omega) ?_
 rw[hsz];exact⟨.int _,H,I.tok _,⟨_,rfl⟩,q⟩
def gLP:D->Option Rv
 | .lst l=>(uw l).bind fun rows=>if (decide (rows.length<=75)&&rows.all (fun r=>decide (r∈Stt.prs)))=true then some (.v (.int ((rows.foldl Stt.addL []).length:Int))) else none
 | _=>none
theorem ana{x y:Str}{m:M (List D)}{pp qq:Pos}{ppos:Pos}(hc:X.calm=true)(hu:X.A.units+64 < cLine)(hg1:Gl X x)(hm1:X.mg x=none)(hv1:bootBuiltins x=some (.builtin "len"))(hg2:Gl X y)(hm2:X.mg y=none)(hv2:bootBuiltins y=some (.type "set"))
  (ha:EA K X [e] m) (hn1:x ≠ "__name__" := by decide) (hdb1:(x==("__debug__" : Str))=false:=by decide) (hn2:y ≠ "__name__" := by decide) (hdb2:(y==("__debug__" : Str))=false:=by decide)
  (he:starEach [e] X.env=[(false,eval e X.env)]:=by rfl) (he2:starEach [.Call (.Name y qq) [e] [] ppos] X.env=[(false,eval (.Call (.Name y qq) [e] [] ppos) X.env)]:=by rfl) :
  ER K X (.Call (.Name x pp) [.Call (.Name y qq) [e] [] ppos] [] pos) (gn (g1 gLP) m):=ER.mk fun hk=>PE.imp (acq as8 hg1 hm1 hv1 (qw (aip (aqa hc hu) hg2 hm2 hv2 (ha hk) hn2 hdb2 he rfl) ad4 he2) hn1 hdb1 he2 rfl) fun σ H Q z9=>by
 obtain⟨tg,F,ρ,r,ρ',G,em,q⟩:=z9;obtain⟨ds,ρ1,e1,em⟩:=aq em;obtain⟨e2,rfl⟩:=gk em;refine⟨tg,F,ρ,ds,_,G,e1,fun vs H1 F1 G1 x1 bl =>?_⟩
 cases ds with
 | nil=>cases e2
 | cons d tl =>
  cases tl with
  | cons _ _=>cases e2
  | nil =>
   cases d with
   | lst l =>
    have e2:(uw l).bind (fun rows=>if (decide (rows.length<=75)&&rows.all (fun r=>decide (r∈Stt.prs)))=true then some (Rv.v (.int ((rows.foldl Stt.addL []).length:Int))) else none)=some r:=e2
    cases ei:uw l with
    | none=>rw[ei] at e2;cases e2
    | some rows =>
     rw[ei,Option.bind_some] at e2;split at e2
     ·rename_i hc2;simp only[Bool.and_eq_true,decide_eq_true_eq,List.all_eq_true] at hc2;cases e2;obtain⟨v,rfl,bv⟩:=bl.one;obtain⟨p,ws,rfl,ea,hl⟩:=bv.lst G1.sub;rw[aco ei] at hl;refine⟨p,ws,rows,F1,rfl,ea,by rw[hk];exact hl,G1.sub,hc2.2,hc2.1,fun a hna =>?_⟩
      show ax4 _ _ _;refine⟨a,_,rfl,f9,?_,?_⟩
      ·have:=Stt.aeo rows [];have h0:([]:LL9).length=0:=rfl;omega
      have G2:=G1.fresh hna (.ext (ath a (rows.foldl Stt.addL []).length));have X2:=G1.freshX hna (.ext (ath a (rows.foldl Stt.addL []).length));exact Res.same G2 (fun v H3 F3 G3 x3 rr=>q v H3 F3 G3 ((x1.trans X2).trans x3) (kh (x1.trans X2) rr)) (.int _)
     ·cases e2
   | _=>cases e2
theorem aso{rows:LL9}(h:rows.length<=75)(hd:∀r∈rows,r∈Stt.prs):gLP (.lst (rows.map rowT))=some (.v (.int ((rows.foldl Stt.addL []).length:Int))):=by
 show(uw (rows.map rowT)).bind _=_;rw[mq,Option.bind_some,if_pos];simp only[Bool.and_eq_true,decide_eq_true_eq,List.all_eq_true];exact⟨h,hd⟩
end
section
variable{K:Fg9}{X:Cx}{a b:Expr}{p:Pos}
def bSub(i:Nat)(mi:M D):D->Ro->Option Ro:=fun d ρ=>match ((mOwn i).bind fun _=>mi.bind fun k=>(mOwn i).bind fun l=>(lift ((asI k).bind (ixN l.length))).bind fun j=>aa2 i (l.set j d)) ρ with
 | some (.ok _,ρ')=>some ρ'
 | _=>none
theorem at6{i:Nat}{mi:M D}(ho:PE X a (tVar i))(hi:EV K X b mi)
  (ha:∀v,assign (.Subscript a b p) X.env v=(do
   let ov <-holding [v] (eval a X.env)
   let iv <-holding [v,ov] (eval b X.env)
   standAt p
   holding [v,ov,iv] (setItem ov iv v)
   release [v,ov,iv] []):=by intro _;rfl):GV K X (.Subscript a b p) (bSub i mi):=GV.mk fun hk=>PG.imp (atv ho (hi hk) set_list ha) fun v σ H Q z9=>by
 obtain⟨tg,F,ρ,d,ρ',G,r1,em,q⟩:=z9;unfold bSub at em;split at em
 case h_2=>cases em
 case h_1 _ u ρ9 em9 =>
  cases em;obtain⟨l0,ρ0,e0,em⟩:=aq em9;obtain⟨k,ρ2,e2,em⟩:=aq em;obtain⟨l,ρ3,e3,em⟩:=aq em;obtain⟨j,ρ4,e4,e5⟩:=aq em;obtain⟨e6,rfl⟩:=gk e4;obtain⟨rfl,t0,a0,xs0,es0,hv,hh0,hl0⟩:=ae2 G e0;refine⟨_,hv,tg,F,_,k,ρ2,G,e2,fun w H2 F2 G2 x2 r2 =>?_⟩
  obtain⟨rfl,t,a1,xs,es1,hv',hh,hl⟩:=ae2 G2 e3;rw[hv] at hv';cases hv';cases ek:asI k with
  | none=>rw[ek] at e6;cases e6
  | some n =>
   rw[ek] at e6;obtain rfl:=ajw ek;cases r2;obtain⟨G3,x3⟩:=ahi G2 e5 hv (hl.set (r1.mono x2.sub) j);exact⟨_,xs,n,j,rfl,rfl,hh,by rw[<-hl.length];exact e6,q _ _ F2 G3 (x2.trans x3)⟩
end
end Dn
end
namespace Dn
open PySem L2
@[simp] abbrev gL9(d:D):Option Rv:=(itemsD d).map fun l=>.v (.int l.length)
@[simp] abbrev gT9(d:D):Option Rv:=(itemsD d).map fun l=>.v (.tup l)
end Dn
namespace My
open PySem L2 Mn Dn
def NS:List Str:=["ArrowError","NoArrows","NoRoom","NoWalkers","NotShut","NeverBack","NoTour","NoRow","NoHouse","NotOpen","Nobody","NoText","TooGreat"]
def agc:Sd :=
 (dRet (M.v (mAnd (mIsi .int (di 0)) (mUn gNot (mIsi .bool (di 0))))))
def yj:Fd:=fnD 1 1 agc
def yh:Sd :=
 (dRet (M.v (mAnd (M.d (mFn yj [some 0] (dh 0 gm))) (ai1 (fun i j=>decide (i<=j)) (fun i j=>decide (i<=j)) (mVar 1) (mVar 0) (mVar 2)))))
def jd:Fd:=fnD 3 3 yh
def qx:Sd :=
 (dRet (M.v (mAnd (mIsi .tuple (di 0)) (ai1 (fun i j=>decide (i<=j)) (fun i j=>decide (i<=j)) (mVar 1) (M.d (gn (g1 gL9) (iu 0 mNil))) (mVar 2)))))
def je:Fd:=fnD 3 3 qx
def aag:Sd :=
 (dRet (mFn jd [none,none,none] (bw (mVar 1) (bw (ret (.int 0)) (bw (M.d (mOp (gInt fSub) (gq (M.d (gn (g1 gL9) (iu 0 mNil))) (ret (.int 1))))) gm)))))
def jj:Fd:=fnD 2 2 aag
def aaf:Sd :=
 (dIf (yw (wu (M.d (mFn jj [some 0,none] (dh 0 (bw (mVar 1) gm)))))) (agk ⟨"NoRoom", []⟩) dNx)
def j4:Fd:=fnD 2 2 aaf
def vd:Sd :=
 (dIf (ar5 (wz (gCmp fun i j=>decide (j<=i)) (cg 5 (ret (.int 0)))) (wz (gIn true) (cg 5 (di 2)))) (aei (M.v (mMut 2 acb (ak (mVar 5) mNil)))) dNx)
def yc:M Bool :=
 (wz (gCmp fun i j=>decide (i < j)) (cg 3 (M.d (gn (g1 gL9) (iu 2 mNil)))))
def abf:Sd :=
 (dSeq (dSet 4 (mOp gIx (cg 0 (M.d (mOp gIx (cg 2 (di 3))))))) (dSeq (dFor (qe (mVar 4)) (bu 5) vd) (dAug (fun i j=>i+j) 3 (ret (.int 1)))))
def ai9:Sd :=
 (dSeq (aei (mFn j4 [some 0,none] (dh 0 (bw (mVar 1) gm)))) (dSeq (dSet 2 (mLst (ak (mVar 1) mNil))) (dSeq (dSet 3 (M.v (ret (.int 0)))) (dSeq (whileD yc abf fuel) (dRet (gn (g1 gT9) (ak (M.d (gn (g1 abi) (iu 2 mNil))) mNil)))))))
def ym:Fd:=fnD 6 2 ai9
def abj:M D :=
 (M.d (mOp (gCmp fun i j=>decide (j<=i)) (gq (M.d (gn (g1 awm) (iu 0 mNil))) (ret (.int 0)))))
def ai8:Sd :=
 (dRet (gn (g1 gAll) (ak (M.d (vm [none] (qe (mVar 0)) (bu 0) (ret true) abj)) mNil)))
def aa6:Fd:=fnD 1 1 ai8
def aa7:M D :=
 (M.d (mOp (gEq false) (gq (M.d (gn (g1 gL9) (ak (M.d (mFn ym [some 1,some 0] (dh 1 (dh 0 gm)))) mNil))) (M.d (gn (g1 gL9) (iu 1 mNil))))))
def afh:Sd :=
 (dRet (gn (g1 gAll) (ak (M.d (vm [none,some 0] (mGet jq (ak (M.d (gn (g1 gL9) (iu 0 mNil))) mNil)) (bu 0) (ret true) aa7)) mNil)))
def vq:Fd:=fnD 1 1 afh
def ace:M D :=
 (af8 0 (ak (mVar 1) mNil))
def agd:Sd :=
 (dRet (gn (g1 gSum) (ak (M.d (vm [none,some 1] (qe (mVar 0)) (bu 0) (ret true) ace)) mNil)))
def yl:Fd:=fnD 2 2 agd
def xu:M D :=
 (M.d (mOp (gEq false) (gq (M.d (mFn yl [some 2,some 0] (dh 2 (dh 0 gm)))) (M.d (gn (g1 gL9) (iu 1 mNil))))))
def zb:Sd :=
 (dSeq (dIf (yw (wu (M.d (mFn aa6 [none] (bw (mVar 0) gm))))) (dRet (M.v (ret (.bl false)))) dNx) (dRet (gn (g1 gAll) (ak (M.d (vm [none,none,some 0] (mGet akp (ak (mVar 0) mNil)) (bTup 2 (ji (bu 0) (ji (bu 1) bNil))) (ret true) xu)) mNil))))
def lw:Fd:=fnD 1 1 zb
def zq:M D :=
 (M.d (gn (g1 gL9) (iu 0 mNil)))
def ad8:Sd :=
 (dRet (gn (g1 gSum) (ak (M.d (vm [none] (qe (mVar 0)) (bu 0) (ret true) zq)) mNil)))
def su:Fd:=fnD 1 1 ad8
def vp:Sd :=
 (dIf (okS (mOrB (yw (wu (M.d (mFn lw [none] (bw (mVar 0) gm))))) (yw (wu (M.d (mFn vq [some 0] (dh 0 gm))))))) (agk ⟨"NoTour", []⟩) dNx)
def dg:Fd:=fnD 1 1 vp
def jw:Sd :=
 (dSeq (dIf (mOrB (yw (wu (M.d (mFn je [some 1,none,none] (dh 1 (bw (ret (.int 2)) (bw (ret (.int 2)) gm))))))) (yw (wu (M.d (mFn jj [some 0,none] (dh 0 (bw (M.d (mOp gIx (cg 1 (ret (.int 0))))) gm))))))) (dRet (M.v (ret (.bl false)))) dNx) (dRet (mFn jd [none,none,none] (bw (M.d (mOp gIx (cg 1 (ret (.int 1))))) (bw (ret (.int 0)) (bw (M.d (mOp (gInt fSub) (gq (M.d (gn (g1 gL9) (ak (M.d (mOp gIx (cg 0 (M.d (mOp gIx (cg 1 (ret (.int 0)))))))) mNil))) (ret (.int 1))))) gm))))))
def ie:Fd:=fnD 2 2 jw
def ur:M D :=
 (M.d (mFn ie [some 1,some 0] (dh 1 (dh 0 gm))))
def nu:M D :=
 (M.d (mOp (gEq false) (gq (M.d (mOp gIx (gq (M.d (mOp gIx (cg 2 (M.d (mOp gIx (cg 0 (ret (.int 0)))))))) (M.d (mOp gIx (cg 0 (ret (.int 1)))))))) (M.d (mOp gIx (cg 1 (ret (.int 0))))))))
def jt:Sd :=
 (dSeq (dIf (mOrB (yw (wu (mIsi .list (di 1)))) (wz (gEq true) (gq (M.d (gn (g1 gL9) (iu 1 mNil))) (M.d (mFn su [none] (bw (mVar 0) gm)))))) (dRet (M.v (ret (.bl false)))) dNx) (dSeq (dIf (yw (wu (M.d (gn (g1 gAll) (ak (M.d (vm [none,some 0] (qe (mVar 1)) (bu 0) (ret true) ur)) mNil))))) (dRet (M.v (ret (.bl false)))) dNx) (dSeq (dIf (wz (gEq true) (gq (M.d (gn (g1 gLP) (iu 1 mNil))) (M.d (gn (g1 gL9) (iu 1 mNil))))) (dRet (M.v (ret (.bl false)))) dNx) (dSeq (dSet 2 (mOp gAdd (gq (M.d (adt 1 (acz (mUn gNeg (ret (.int 1)))) (ret none))) (M.d (adt 1 (ret none) (acz (mUn gNeg (ret (.int 1))))))))) (dRet (gn (g1 gAll) (ak (M.d (vm [none,none,some 0] (mGet awk (ak (mVar 2) (ak (mVar 1) mNil))) (bTup 2 (ji (bu 0) (ji (bu 1) bNil))) (ret true) nu)) mNil)))))))
def cz:Fd:=fnD 3 2 jt
def afg:Sd :=
 (dSeq (aei (mFn dg [none] (bw (okS (mVar 0)) gm))) (dOk (dRet (mFn cz [none,none] (bw (mVar 0) (bw (mVar 1) gm))))))
def kj:Fd:=fnD 2 2 afg
def ab8:Sd :=
 (dSeq (dIf (wz (gCmp fun i j=>decide (i < j)) (cg 1 (M.d (gn (g1 gL9) (iu 0 mNil))))) (dRet (mOp gIx (cg 0 (di 1)))) dNx) (dRet (M.v (ret (.int 0)))))
def f__law_cell:Fd:=fnD 2 2 ab8
def age:Sd :=
 (dSeq (dSet 1 (gn (g2 (gInt fun i j=>some (if j > i then j else i))) (iu 0 (ak (M.d (mOp (gInt fSub) (gq (ret (.int 0)) (di 0)))) mNil)))) (dRet (mLst (ak (mVar 1) (ak (M.d (gn (g1 asp) (ak (M.d (mOp (gCmp fun i j=>decide (j<=i)) (cg 1 (M.d (mOp (gInt fPow) (gq (ret (.int 10)) (ret (.int 18)))))))) mNil))) mNil)))))
def f__law_pen:Fd:=fnD 2 1 age
def ab7:Sd :=
 (dSeq (dIf (wz (gEq false) (gq (M.d (mOp gIx (cg 0 (ret (.int 1))))) (ret (.int 1)))) (dSeq (dAsg (M.d (gn (g2 aht) (ak (M.d (mOp gIx (cg 0 (ret (.int 0))))) (iu 1 mNil)))) (bTup 2 (ji (bu 2) (ji (bu 3) bNil)))) (dSeq (dSub 0 (ret (.int 0)) (mVar 2)) (dRet (aow 3)))) dNx) (dSeq (dSet 4 (mOp (gInt fMod) (gq (M.d (mOp gMul (gq (M.d (mOp gAdd (gq (M.d (mOp (gInt fMod) (gq (M.d (mOp gIx (cg 0 (ret (.int 0))))) (ret (.int 2147483647))))) (ret (.int 40503))))) (ret (.int 69621))))) (ret (.int 2147483629))))) (dSeq (dSet 4 (mOp (gInt fMod) (gq (M.d (mOp gAdd (gq (M.d (mOp gMul (cg 4 (di 4)))) (ret (.int 7817))))) (ret (.int 2147483587))))) (dSeq (dSub 0 (ret (.int 0)) (M.d (mOp (gInt fMod) (gq (M.d (mOp gAdd (gq (M.d (mOp gMul (cg 4 (ret (.int 48271))))) (ret (.int 11))))) (ret (.int 2147483629)))))) (dRet (mOp (gInt fMod) (gq (M.d (mOp (gInt fDiv) (gq (M.d (mOp gIx (cg 0 (ret (.int 0))))) (ret (.int 32))))) (di 1))))))))
def f__law_draw:Fd:=fnD 5 2 ab7
def ad9:Sd :=
 (dRet (M.v (mAnd (mIsi .int (di 0)) (mUn gNot (mIsi .bool (di 0))))))
def sy:Fd:=fnD 1 1 ad9
def agf:Sd :=
 (dSeq (dSet 1 (mLst (ak (ret .non) (ak (ret (.bl true)) (ak (ret (.bl false)) (ak (mUn gNeg (ret (.int 1))) (ak (ret (.str "1")) (ak (ret (.str "")) (ak (mTup mNil) (ak (M.d (mLst mNil)) (ak (mTup (ak (ret (.int 0)) mNil)) (ak (M.d (mLst (ak (ret (.int 0)) mNil))) (ak (ret (.dct [(Sum.inr "a", .int 1)])) (ak (mTup (ak (ret (.int 0)) (ak (ret (.int 1)) mNil))) (ak (M.d (mOp (gInt fPow) (gq (ret (.int 10)) (ret (.int 30))))) (ak (mTup (ak (mTup (ak (ret (.int 0)) mNil)) mNil)) (ak (ret (.str "ab")) mNil))))))))))))))))) (dRet (mOp gIx (gq (M.d (mOp gAdd (cg 1 (M.d (mLst (ak (mTup (ak (mTup (ak (mUn gNeg (ret (.int 1))) mNil)) (ak (mTup (ak (ret (.int 0)) (ak (ret (.int 1)) mNil))) mNil))) mNil)))))) (M.d (mFn f__law_draw [some 0,none] (dh 0 (bw (ret (.int 16)) gm))))))))
def f__law_odd:Fd:=fnD 2 1 agf
def zr:M D :=
 (M.d (mFn f__law_draw [some 1,none] (dh 1 (bw (M.d (gn (g1 gL9) (iu 0 mNil))) gm))))
def aeb:Sd :=
 (dRet (gn (g1 gT9) (ak (M.d (vm [none,some 0] (qe (mVar 1)) (bu 0) (ret true) zr)) mNil)))
def f__law_drawn:Fd:=fnD 2 2 aeb
def akm:Sd :=
 (dSeq (dSet 1 (mLst (ak (mIsC NS "NoArrows" (di 0)) (ak (mIsC NS "NoRoom" (di 0)) (ak (mIsC NS "NoWalkers" (di 0)) (ak (mIsC NS "NotShut" (di 0)) mNil)))))) (dSeq (dSet 1 (mOp gAdd (cg 1 (M.d (mLst (ak (mIsC NS "NeverBack" (di 0)) (ak (mIsC NS "NoTour" (di 0)) (ak (mIsC NS "NoRow" (di 0)) (ak (mIsC NS "NoHouse" (di 0)) mNil))))))))) (dSeq (dSet 1 (mOp gAdd (cg 1 (M.d (mLst (ak (mIsC NS "NotOpen" (di 0)) (ak (mIsC NS "Nobody" (di 0)) (ak (mIsC NS "NoText" (di 0)) (ak (mIsC NS "TooGreat" (di 0)) mNil))))))))) (dSeq (dIf (mOrB (yw (wu (mIsC NS "ValueError" (di 0)))) (wz (gEq true) (gq (af8 1 (ak (ret (.bl true)) mNil)) (ret (.int 1))))) (dRet (M.v (ret (.str "other")))) dNx) (dSeq (dSet 2 (mLst (ak (ret (.str "arrows")) (ak (ret (.str "room")) (ak (ret (.str "walkers")) (ak (ret (.str "shut")) (ak (ret (.str "never")) (ak (ret (.str "tour")) (ak (ret (.str "row")) (ak (ret (.str "house")) (ak (ret (.str "open")) (ak (ret (.str "nobody")) mNil)))))))))))) (dRet (mOp gIx (gq (M.d (mOp gAdd (cg 2 (M.d (mLst (ak (ret (.str "text")) (ak (ret (.str "great")) mNil))))))) (awb 1 aph (ak (ret (.bl true)) mNil))))))))))
def zm:Fd:=fnD 3 1 akm
def j6:Sd :=
 (aei (M.v (mMut 4 aca (ak (M.d (mFn f__law_draw [some 0,none] (dh 0 (bw (M.d (mOp gAdd (cg 5 (ret (.int 1))))) gm)))) (ak (mVar 5) mNil)))))
def ni:Sd :=
 (aei (M.v (akg (mRow 6 10 (mVar 5)) acb (ak (M.d (mOp gIx (cg 4 (M.d (mOp (gInt fSub) (cg 7 (ret (.int 1)))))))) mNil))))
def jo:Sd :=
 (dIf (ar5 (wz (gCmp fun i j=>decide (i < j)) (gq (M.d (gn (g1 gL9) (mOne (mPtB (mRow 6 10 (mVar 5)))))) (ret (.int 6)))) (wz (gEq false) (gq (M.d (mFn f__law_draw [some 0,none] (dh 0 (bw (ret (.int 2)) gm)))) (ret (.int 0))))) (aei (M.v (mMut 9 aca (ak (M.d (mFn f__law_draw [some 0,none] (dh 0 (bw (M.d (mOp gAdd (gq (M.d (gn (g1 gL9) (iu 9 mNil))) (ret (.int 1))))) gm)))) (ak (mVar 5) mNil))))) dNx)
def qz:Sd :=
 (aei (M.v (akg (mRow 6 10 (mVar 5)) aca (ak (M.d (mFn f__law_draw [some 0,none] (dh 0 (bw (M.d (mOp gAdd (gq (M.d (gn (g1 gL9) (mOne (mPtB (mRow 6 10 (mVar 5)))))) (ret (.int 1))))) gm)))) (ak (M.d (mOp gIx (cg 9 (M.d (mOp (gInt fSub) (cg 7 (ret (.int 1)))))))) mNil)))))
def mz:Sd :=
 (dSeq (dSet 9 (mLst mNil)) (dSeq (dFor (mGet jq (ak (mVar 3) mNil)) (bu 5) jo) (dFor (mGet akp (ak (mVar 9) mNil)) (bTup 2 (ji (bu 7) (ji (bu 5) bNil))) qz)))
def nq:M D :=
 (M.d (gn (g1 gT9) (iu 0 mNil)))
def my:M Rv :=
 (mLst mNil)
def zc:Sd :=
 (dSeq (dSet 3 (mOp gAdd (gq (ret (.int 1)) (M.d (mFn f__law_draw [some 0,some 1] (dh 0 (dh 1 gm))))))) (dSeq (dSet 4 (mLst mNil)) (dSeq (dFor (mGet jq (ak (mVar 3) mNil)) (bu 5) j6) (dLol 6 [10,11,12,13,14,15] [6,10,11,12,13,14,15] (af9 [none] (mGet jq (ak (mVar 3) mNil)) (bu 0) my) (dSeq (dFor (mGet akp (ak (mVar 4) mNil)) (bTup 2 (ji (bu 7) (ji (bu 5) bNil))) ni) (dSeq (dFor (mGet jq (ak (M.d (mFn f__law_draw [some 0,none] (dh 0 (bw (M.d (mOp gAdd (cg 2 (ret (.int 1))))) gm)))) mNil)) (bu 8) mz) (dFrz 6 10 (dRet (gn (g1 gT9) (ak (M.d (vm [none] (qe (mVar 6)) (bu 0) (ret true) nq)) mNil))))))))))
def f__law_rounds:Fd:=fnD 16 3 zc
def w6:Sd :=
 (dSeq (aei (M.v (mMut 5 acb (ak (mTup (ak (mVar 2) (ak (M.d (mOp gIx (cg 4 (di 2)))) mNil))) mNil)))) (dSeq (dSet 7 (mOp gIx (gq (M.d (mOp gIx (cg 0 (di 2)))) (M.d (mOp gIx (cg 4 (di 2))))))) (dSeq (dSub 4 (mVar 2) (M.d (mOp (gInt fMod) (gq (M.d (mOp gAdd (gq (M.d (mOp gIx (cg 4 (di 2)))) (ret (.int 1))))) (M.d (gn (g1 gL9) (ak (M.d (mOp gIx (cg 0 (di 2)))) mNil))))))) (dSet 2 (M.v (mVar 7))))))
def afi:Sd :=
 (dSeq (dSet 4 (gn (g1 fun d=>(itemsD d).map fun l=>.fr l) (iu 1 mNil))) (dSeq (dSet 5 (mLst mNil)) (dSeq (dFor (mGet jq (ak (mVar 3) mNil)) (bu 6) w6) (dRet (M.v (mTup (ak (mVar 5) (ak (M.d (gn (g1 gT9) (iu 4 mNil))) (ak (mVar 2) mNil)))))))))
def km:Fd:=fnD 8 4 afi
def zu:M D :=
 (mTup (ak (mVar 1) (ak (mVar 0) mNil)))
def ux:Sd :=
 (dSet 1 (mOp gAdd (cg 1 (M.d (vm [none,some 2] (mGet jq (ak (M.d (gn (g1 gL9) (iu 3 mNil))) mNil)) (bu 0) (ret true) zu)))))
def aec:Sd :=
 (dSeq (dSet 1 (mLst mNil)) (dSeq (dFor (mGet akp (ak (mVar 0) mNil)) (bTup 2 (ji (bu 2) (ji (bu 3) bNil))) ux) (dRet (aow 1))))
def lg:Fd:=fnD 4 1 aec
def wj:M D :=
 (M.d (mFn sy [some 0] (dh 0 gm)))
def g8:Sd :=
 (dIf (mOrB (yw (wu (mIsi .tuple (di 2)))) (mOrB (wz (gEq true) (gq (M.d (gn (g1 gL9) (iu 2 mNil))) (ret (.int 2)))) (yw (wu (M.d (gn (g1 gAll) (ak (M.d (vm [none] (qe (mVar 2)) (bu 0) (ret true) wj)) mNil))))))) (dRet (M.v (ret (.bl false)))) dNx)
def qm:M D :=
 (M.d (mOp gIx (gq (M.d (mOp gIx (cg 2 (di 0)))) (di 1))))
def wg:M D :=
 (mVar 0)
def nj:Sd :=
 (dSeq (dIf (yw (wu (mIsi .list (di 1)))) (dRet (M.v (ret (.bl false)))) dNx) (dSeq (dFor (qe (mVar 1)) (bu 2) g8) (dSeq (dIf (wz (gEq true) (gq (M.d (gn (g1 abh) (iu 1 mNil))) (M.d (mFn lg [none] (bw (mVar 0) gm))))) (dRet (M.v (ret (.bl false)))) dNx) (dSeq (dSet 3 (vm [none,none,some 0] (qe (mVar 1)) (bTup 2 (ji (bu 0) (ji (bu 1) bNil))) (ret true) qm)) (dRet (mOp (gEq false) (gq (M.d (mOp gAdd (gq (M.d (adt 3 (acz (mUn gNeg (ret (.int 1)))) (ret none))) (M.d (adt 3 (ret none) (acz (mUn gNeg (ret (.int 1))))))))) (M.d (vm [none,none] (qe (mVar 1)) (bTup 2 (ji (bu 0) (ji (bu 1) bNil))) (ret true) wg)))))))))
def fu:Fd:=fnD 4 2 nj
def aa5:Sd :=
 (dSeq (dSet 1 (mLst (ak (mTup (ak (mTup (ak (mUn gNeg (ret (.int 1))) mNil)) mNil)) (ak (mTup (ak (mTup (ak (ret (.int 0)) (ak (mUn gNeg (ret (.int 1))) mNil))) mNil)) (ak (mTup (ak (mTup (ak (ret (.int 0)) mNil)) (ak (mTup (ak (ret (.int 1)) mNil)) mNil))) (ak (mTup (ak (mTup (ak (ret (.int 1)) (ak (ret (.int 1)) mNil))) (ak (mTup (ak (ret (.int 0)) mNil)) mNil))) (ak (mTup (ak (mTup (ak (ret (.int 1)) mNil)) (ak (mTup (ak (ret (.int 1)) mNil)) mNil))) (ak (mTup (ak (mTup (ak (ret (.int 1)) (ak (ret (.int 0)) mNil))) (ak (mTup (ak (ret (.int 0)) (ak (ret (.int 0)) mNil))) mNil))) (ak (mTup (ak (mTup (ak (ret (.int 1)) mNil)) (ak (mTup (ak (ret (.int 0)) mNil)) (ak (mTup (ak (ret (.int 2)) mNil)) mNil)))) mNil))))))))) (dRet (mOp gIx (cg 1 (M.d (mFn f__law_draw [some 0,none] (dh 0 (bw (ret (.int 7)) gm))))))))
def f__law_no_house:Fd:=fnD 2 1 aa5
def aa8:M D :=
 (M.d (gn (g1 gL9) (iu 0 mNil)))
def afj:Sd :=
 (dSeq (dSet 2 (gn (g1 gSum) (ak (M.d (vm [none] (qe (mVar 0)) (bu 0) (ret true) aa8)) mNil))) (dSeq (dAsg (M.d (mFn km [some 0,some 1,none,none] (dh 0 (dh 1 (bw (ret (.int 0)) (bw (M.d (mOp gMul (gq (M.d (mOp gMul (gq (ret (.int 2)) (di 2)))) (M.d (gn (g1 gL9) (iu 0 mNil)))))) gm)))))) (bTup 3 (ji (bu 3) (ji (bu 4) (ji (bu 5) bNil))))) (dRet (mOp gIx (gq (M.d (mFn km [some 0,some 4,none,none] (dh 0 (dh 4 (bw (mVar 5) (bw (mVar 2) gm)))))) (ret (.int 0)))))))
def oh:Fd:=fnD 6 2 afj
def uc:M D :=
 (M.d (mOp gAdd (gq (M.d (mOp gAdd (gq (M.d (adt 1 (ret none) (acz (mVar 4)))) (M.d (mLst (ak (M.d (mOp gIx (cg 3 (M.d (mFn f__law_draw [some 2,none] (dh 2 (bw (ret (.int 7)) gm))))))) mNil)))))) (M.d (adt 1 (acz (M.d (mOp gAdd (cg 4 (ret (.int 1)))))) (ret none))))))
def ab9:Sd :=
 (dSeq (dAsg (mTup (ak (M.d (mFn f__law_draw [some 0,none] (dh 0 (bw (M.d (gn (g1 gL9) (iu 2 mNil))) gm)))) (ak (M.d (mFn f__law_draw [some 0,none] (dh 0 (bw (M.d (gn (g1 gL9) (iu 2 mNil))) gm)))) mNil))) (bTup 2 (ji (bu 3) (ji (bu 4) bNil)))) (dSeq (dAsg (M.d (mOp gIx (cg 2 (di 3)))) (bTup 2 (ji (bu 5) (ji (bu 6) bNil)))) (dSeq (dSet 7 (gn (g1 fun d=>(itemsD d).map fun l=>.fr l) (iu 2 mNil))) (dSeq (dAsg (mTup (ak (M.d (mOp gIx (cg 7 (di 4)))) (ak (M.d (mOp gIx (cg 7 (di 3)))) mNil))) (bTup 2 (ji (bSub 7 (mVar 3)) (ji (bSub 7 (mVar 4)) bNil)))) (dSeq (dSet 8 (mLst (ak (mTup (ak (mVar 5) (ak (M.d (mOp (gInt fMod) (gq (M.d (mOp gAdd (cg 6 (ret (.int 1))))) (M.d (gn (g1 gL9) (ak (M.d (mOp gIx (cg 1 (di 5)))) mNil)))))) mNil))) (ak (mTup (ak (mVar 5) (ak (ret (.bl true)) mNil))) (ak (M.d (mLst (ak (mVar 5) (ak (mVar 6) mNil)))) (ak (mTup (ak (mVar 5) mNil)) (ak (mTup (ak (mVar 5) (ak (mVar 6) (ak (ret (.int 0)) mNil)))) (ak (ret .non) (ak (mVar 5) mNil))))))))) (dSeq (dSet 9 (mLst (ak (mVar 7) (ak (M.d (mOp gAdd (gq (M.d (adt 2 (ret none) (acz (mVar 3)))) (M.d (adt 2 (acz (M.d (mOp gAdd (cg 3 (ret (.int 1)))))) (ret none)))))) (ak (M.d (mOp gAdd (cg 2 (M.d (mLst (ak (M.d (mOp gIx (cg 2 (di 3)))) mNil)))))) (ak (M.d (awa (mVar 2) (mUn gNeg (ret (.int 1))))) (ak (M.d (gn (g1 gT9) (iu 2 mNil))) (ak (M.d (mLst (ak (mVar 2) mNil))) mNil)))))))) (dSeq (dSet 9 (mOp gAdd (cg 9 (M.d (vm [none,some 2,some 0,some 8,some 3] (mGet jq (ak (ret (.int 4)) mNil)) (bu 0) (ret true) uc))))) (dRet (mOp gIx (cg 9 (M.d (mFn f__law_draw [some 0,none] (dh 0 (bw (ret (.int 10)) gm))))))))))))))
def f__law_bent:Fd:=fnD 10 3 ab9
def aea:Sd :=
 (dSeq (dSet 2 (mFn kj [none,none] (bw (mVar 0) (bw (mVar 1) gm)))) (dRet (M.v (mAnd (mIsi .bool (di 2)) (mAnd (M.d (mOp (gEq false) (cg 2 (M.d (mFn fu [none,none] (bw (mVar 0) (bw (mVar 1) gm))))))) (M.d (mOp (gEq false) (gq (M.d (mFn kj [none,none] (bw (mVar 0) (bw (mVar 1) gm)))) (di 2)))))))))
def jl:Fd:=fnD 3 2 aea
def aa4:Sd :=
 (dRet (mOp (gEq false) (gq (M.d (mFn zm [some 2] (dh 2 gm))) (ret (.str "tour")))))
def abr:Sd :=
 (dSeq (dTry NS (aei (mFn kj [none,none] (bw (okS (mVar 0)) (bw (okS (mVar 1)) gm)))) 2 aa4) (dRet (M.v (ret (.bl false)))))
def jc:Fd:=fnD 3 2 abr
def alu:Sd :=
 (dIf (mOrB (yw (wu (M.d (mFn jl [none,none] (bw (mTup (ak (mTup (ak (ret (.int 0)) mNil)) mNil)) (bw (mVar 1) gm)))))) (yw (wu (M.d (mFn jl [none,none] (bw (mTup (ak (mTup (ak (ret (.int 0)) (ak (ret (.int 0)) mNil))) mNil)) (bw (mVar 1) gm))))))) (dRet (M.v (ret (.bl false)))) dNx)
def agi:M D :=
 (M.d (mFn f__law_bent [some 2,some 3,some 1] (dh 2 (dh 3 (dh 1 gm)))))
def ai5:Sd :=
 (dIf (yw (wu (M.d (mFn jl [none,none] (bw (mVar 4) (bw (mVar 1) gm)))))) (dRet (M.v (ret (.bl false)))) dNx)
def l3_law:Sd :=
 (dSeq (dSet 3 (mFn f__law_pen [some 2] (dh 2 gm))) (dSeq (dSet 4 (mFn f__law_rounds [some 3,none,none] (dh 3 (bw (ret (.int 6)) (bw (ret (.int 3)) gm))))) (dSeq (dSet 5 (mFn oh [none,none] (bw (mVar 4) (bw (M.d (mFn f__law_drawn [some 3,none] (dh 3 (bw (mVar 4) gm)))) gm)))) (dSeq (dSet 6 (mFn f__law_draw [some 3,none] (dh 3 (bw (M.d (gn (g1 gL9) (iu 5 mNil))) gm)))) (dSeq (dSet 7 (mLst (ak (mVar 5) (ak (M.d (mOp gAdd (gq (M.d (adt 5 (acz (mVar 6)) (ret none))) (M.d (adt 5 (ret none) (acz (mVar 6))))))) (ak (M.d (mFn lg [none] (bw (mVar 4) gm))) (ak (M.d (mFn f__law_odd [some 3] (dh 3 gm))) mNil)))))) (dSeq (dFor (qe (M.d (mOp gAdd (cg 7 (M.d (vm [none,some 5,some 3,some 4] (mGet jq (ak (ret (.int 4)) mNil)) (bu 0) (ret true) agi)))))) (bu 1) ai5) (dIf (mOrB (yw (wu (M.d (mFn jc [none,none] (bw (M.d (mFn f__law_no_house [some 3] (dh 3 gm))) (bw (mVar 5) gm)))))) (yw (wu (M.d (mFn jc [none,none] (bw (M.d (mFn f__law_no_house [some 3] (dh 3 gm))) (bw (ret .non) gm))))))) (dRet (M.v (ret (.bl false)))) dNx)))))))
def az4:Sd :=
 (dSeq (dFor (qe (M.d (mLst (ak (M.d (mLst mNil)) (ak (M.d (mLst (ak (mTup (ak (ret (.int 0)) (ak (ret (.int 0)) mNil))) mNil))) (ak (M.d (mLst (ak (mTup (ak (ret (.int 0)) (ak (ret (.bl false)) mNil))) mNil))) (ak (M.d (mLst (ak (mTup (ak (ret (.bl false)) (ak (ret (.int 0)) mNil))) mNil))) (ak (mTup (ak (mTup (ak (ret (.int 0)) (ak (ret (.int 0)) mNil))) mNil)) (ak (M.d (mLst (ak (mTup (ak (ret (.int 0)) (ak (ret (.int 0)) mNil))) (ak (mTup (ak (ret (.int 0)) (ak (ret (.int 0)) mNil))) mNil)))) (ak (ret .non) mNil)))))))))) (bu 1) alu) (dSeq (dFor (qe (M.d (mOp gAdd (gq (M.d (mLst (ak (M.d (mFn f__law_cell [some 0,none] (dh 0 (bw (ret (.int 0)) gm)))) mNil))) (M.d (adt 0 (acz (ret (.int 1))) (acz (ret (.int 4))))))))) (bu 2) l3_law) (dRet (M.v (ret (.bl true))))))
def apo:Fd:=fnD 8 1 az4
def aak:D->Bool
 | .int _=>true
 | _=>false
def uf(a b:Int):D->Bool
 | .int i=>decide (a<=i)&&decide (i<=b)
 | _=>false
@[simp] theorem awg(d:D):yj [.val d]=some (.ok (.v (.bl (aak d))),[.val d]):=by
 cases d <;> simp[yj,agc,isTy,aak]
@[simp] theorem ac0(d:D)(a b:Int):jd [.val d,.val (.int a),.val (.int b)]=some (.ok (.v (.bl (uf a b d))),[.val d,.val (.int a),.val (.int b)]):=by
 cases d <;> simp[jd,yh,aak,uf]
theorem ap4(ns:List Int)(k:Int)(h:0<=k):∃n,f__law_cell [.val (.kst (ns.map D.int)),.val (.int k)]=some (.ok (.v (.int n)),[.val (.kst (ns.map D.int)),.val (.int k)]):=by
 by_cases hk:k < (ns.length:Int)
 ·have e:atI (ns.map D.int) k=some (.int (ns[k.toNat]'(by omega))):=by
   have h2:atI (ns.map D.int) ((k.toNat:Nat):Int)=some (.int (ns[k.toNat]'(by omega))):=aft (by simp[List.getElem?_map,List.getElem?_eq_getElem (show k.toNat < ns.length by omega)])
   rw[show((k.toNat:Nat):Int)=k by omega] at h2
   exact h2
  exact⟨ns[k.toNat]'(by omega),by simp[f__law_cell,ab8,hk,e]⟩
 ·exact⟨0,by simp[f__law_cell,ab8,hk]⟩
def pen(P:Int×Int):List D:=[.int P.1,.int P.2]
theorem ark(n:Int):∃P,f__law_pen [.val (.int n)]=some (.ok (.fr (pen P)),[.val (.int n)]):=by
 refine⟨(if 0 - n > n then 0 - n else n,if 10 ^ 18<=(if 0 - n > n then 0 - n else n) then 1 else 0),?_⟩
 simp[f__law_pen,age,pen,fPow]
theorem jm(P:Int×Int)(m:Int)(h0:0 < m)(h1:m < 1000000000000000000000000000000000000000000000000000000000000):∃r P',f__law_draw [.own (some 0) (pen P),.val (.int m)]=some (.ok (.v (.int r)),[.own (some 0) (pen P'),.val (.int m)])/\0<=r/\r < m:=by
 obtain⟨a,b⟩:=P
 by_cases hb:b=1
 ·refine⟨a % m,(a / m,b),?_,Int.emod_nonneg _ (by omega),Int.emod_lt_of_pos _ h0⟩
  simp[f__law_draw,ab7,pen,hb,h0,h1,atI,ixN]
 ·have z0:0<=(a % 2147483647+40503)*69621 % 2147483629:=Int.emod_nonneg _ (by decide)
  have z1:(a % 2147483647+40503)*69621 % 2147483629 < 2147483629:=Int.emod_lt_of_pos _ (by decide)
  generalize hz:(a % 2147483647+40503)*69621 % 2147483629=z at z0 z1;have hm:fMul z z=some (z*z):=by
   unfold fMul;rw[if_pos (.inl ⟨by omega,by omega⟩)]
  refine⟨((z*z+7817) % 2147483587*48271+11) % 2147483629 / 32 % m,(((z*z+7817) % 2147483587*48271+11) % 2147483629,b),?_,Int.emod_nonneg _ (by omega),Int.emod_lt_of_pos _ h0⟩
  have h69:∀x:Int,fMul x 69621=some (x*69621):=fun x=>by unfold fMul;rw[if_pos (.inr (by decide))]
  have h48:∀x:Int,fMul x 48271=some (x*48271):=fun x=>by unfold fMul;rw[if_pos (.inr (by decide))]
  simp[f__law_draw,ab7,pen,hb,h0,h1,atI,ixN,h69,h48,hm,fMod,fDiv,hz]
structure HouseOk (m w:Int) (qv:LL9):Prop where
 one:1<=qv.length
 most:(qv.length:Int)<=m
 room:∀r∈qv,1<=r.length/\(r.length:Int)<=w/\∀x∈r,-3<=x/\x < (qv.length:Int)
def hDs(qv:LL9):List D:=qv.map fun r=>D.tup (r.map D.int)
def hD(qv:LL9):D:=.tup (hDs qv)
@[simp] theorem ad5(d:D):sy [.val d]=some (.ok (.v (.bl (aak d))),[.val d]):=by
 cases d <;> simp[sy,ad9,isTy,aak]
structure Hs (qv:LL9):Prop where
 one:1<=qv.length
 most:qv.length<=10
 room:∀r∈qv,1<=r.length/\r.length<=6/\∀x∈r,-3<=x/\x < (qv.length:Int)
def dr(qv:LL9)(x:Int):List Int:=qv.getD x.toNat []
inductive Rch (qv:LL9) (a:Int):Int->Prop
 | base:Rch qv a a
 | step {x d:Int}:Rch qv a x->0<=x->d∈dr qv x->Rch qv a d
theorem adz{qv:LL9}{x:Int}(h0:0<=x)(h1:x < (qv.length:Int)):atI (hDs qv) x=some (.tup ((dr qv x).map D.int)):=by
 have hk:x.toNat < qv.length:=by omega
 have q:atI (hDs qv) ((x.toNat:Nat):Int)=some (.tup ((dr qv x).map D.int)):=aft (by simp[hDs,dr,List.getElem?_eq_getElem hk])
 rw[show((x.toNat:Nat):Int)=x by omega] at q
 exact q
theorem Hs.dr{qv:LL9}(h:Hs qv){x:Int}(h0:0<=x)(h1:x < (qv.length:Int)):1<=(dr qv x).length/\(My.dr qv x).length<=6/\∀y∈My.dr qv x,-3<=y/\y < (qv.length:Int):=by
 have hk:x.toNat < qv.length:=by omega
 have e:My.dr qv x=qv[x.toNat]:=by simp[My.dr,hk]
 rw[e];exact h.room _ (List.getElem_mem hk)
theorem Rch.range{qv:LL9}(h:Hs qv){a x:Int}(ha:0<=a/\a < (qv.length:Int))(r:Rch qv a x) : -3<=x/\x < (qv.length:Int):=by
 induction r with
 | base=>omega
 | step r h0 hd ih=>exact(h.dr h0 ih.2).2.2 _ hd
theorem aa1:∀(m:Nat) (l:List Int),l.Nodup->(∀x∈l,-3<=x/\x < (m:Int) - 3)->l.length<=m
 | 0,l,_,h=>by
  cases l with
  | nil=>simp
  | cons x r=>have:=h x (List.mem_cons_self ..);omega
 | m+1,l,hn,h=>by
  have h1:(l.erase ((m:Int) - 3)).length<=m:=aa1 m _ (hn.erase _) fun x hx=>by
   rw[hn.mem_erase_iff] at hx;have:=h x hx.2;have:=hx.1;omega
  have h2:l.length<=(l.erase ((m:Int) - 3)).length+1:=by
   rw[List.length_erase];split <;> omega
  omega
theorem au8{qv:LL9}(h:Hs qv){a:Int}(ha:0<=a/\a < (qv.length:Int)){ns:List Int}(hn:ns.Nodup)(hr:∀x∈ns,Rch qv a x):ns.length<=13:=by
 have:=aa1 (qv.length+3) ns hn fun x hx=>by have:=Rch.range h ha (hr x hx);omega
 have:=h.most;omega
theorem aj6{qv:LL9}{a:Int}{ns:List Int}(h0:a∈ns)(hc:∀x∈ns,∀d∈dr qv x,0<=d->d∈ns){x:Int}(r:Rch qv a x)(hx:0<=x):x∈ns:=by
 induction r with
 | base=>exact h0
 | step r h0 hd ih=>exact hc _ (ih h0) _ hd hx
theorem a0q{ns:List Int}{i:Nat}(h:i < ns.length):atI (ns.map D.int) (i:Int)=some (.int ns[i]):=aft (by simp[List.getElem?_eq_getElem h])
def Bal(rows:LL9):Prop:=∀(i:Nat) (r:List Int),rows[i]? = some r->rows.flatten.count (i:Int)=r.length
theorem an6{y z:Int}:∀{rows:LL9} {x:Nat} {row row':List Int},rows[x]? = some row->row'.Perm (y::row)->(rows.set x row').flatten.count z=rows.flatten.count z+if z=y then 1 else 0
 | [],x,row,row',h,_=>by simp at h
 | r::rs,0,row,row',h,p=>by
  have h:r=row:=by simpa using h
  subst h;rw[List.set_cons_zero,List.flatten_cons,List.flatten_cons,List.count_append,List.count_append,p.count_eq,List.count_cons]
  by_cases q:z=y
  ·subst q;simp;omega
  ·have:(y==z)=false:=by simpa using fun e=>q e.symm
   rw[if_neg q,this];simp
 | r::rs,x+1,row,row',h,p=>by
  rw[List.set_cons_succ,List.flatten_cons,List.flatten_cons,List.count_append,List.count_append,an6 (by simpa using h) p]
  omega
def prd(c:List Int)(k:Nat):Int:=c.getD ((k+c.length - 1) % c.length) 0
theorem arf{c:List Int}:((List.range c.length).map (prd c)).Perm c:=by
 cases hc:c.length with
 | zero =>
  have:c=[]:=List.length_eq_zero_iff.mp hc;subst this;exact .refl _
 | succ n =>
  have e:(List.range (n+1)).map (prd c)=c.getD n 0::c.take n:=by
   rw[List.range_succ_eq_map,List.map_cons,List.map_map];have e0:prd c 0=c.getD n 0:=by
    unfold prd;rw[hc,show 0+(n+1) - 1=n by omega,Nat.mod_eq_of_lt (by omega)]
   rw[e0]
   congr 1
   apply List.ext_getElem
   ·simp;omega
   ·intro i h1 h2;have hi:i < n:=by simpa using h1
    rw[List.getElem_map,List.getElem_range,List.getElem_take];have em:(i+1+c.length - 1) % c.length=i:=by
     rw[hc,show i+1+(n+1) - 1=i+(n+1) by omega,Nat.add_mod_right,Nat.mod_eq_of_lt (by omega)]
    show c.getD ((i+1+c.length - 1) % c.length) 0=_;rw[em,List.getD_eq_getElem?_getD,List.getElem?_eq_getElem (by omega)]
    rfl
  have e2:c=c.take n++[c.getD n 0]:=by
   have h:n < c.length:=by omega
   have:=List.take_append_getElem h;rw[List.getD_eq_getElem?_getD,List.getElem?_eq_getElem h];show c=c.take n++[c[n]];rw[List.take_append_getElem h,List.take_of_length_le (by omega)]
  rw[e]
  conv=>rhs;rw[e2]
  exact(List.perm_append_singleton _ _).symm
structure Lp (rows0:LL9) (c:List Int) (k:Nat) (rows:LL9):Prop where
 len:rows.length=rows0.length
 inn:∀z,rows.flatten.count z=rows0.flatten.count z+((List.range k).map (prd c)).count z
 out:∀(j:Nat) (r:List Int),rows[j]? = some r->∃r0,rows0[j]? = some r0/\r.length=r0.length+(c.take k).count (j:Int)/\∀x∈r0,x∈r
 edg:∀(i:Nat) (r:List Int),i < k->i < c.length->rows[(c.getD i 0).toNat]? = some r->prd c i∈r
theorem Lp.start(rows:LL9)(c:List Int):Lp rows c 0 rows:=⟨rfl,fun z=>by simp,fun j r h=>⟨r,h,by simp,fun x hx=>hx⟩,fun i r h=>absurd h (Nat.not_lt_zero _)⟩
theorem Lp.step{rows0 rows:LL9}{c:List Int}{k:Nat}(L:Lp rows0 c k rows)(hk:k < c.length)(h0:∀x∈c,0<=x)(nd:c.Nodup){row row':List Int}(hr:rows[(c.getD k 0).toNat]? = some row)(p:row'.Perm (prd c k::row)):Lp rows0 c (k+1) (rows.set (c.getD k 0).toNat row'):=by
 have hkm:c.getD k 0=c[k]:=by rw[List.getD_eq_getElem?_getD,List.getElem?_eq_getElem hk];rfl
 have hk0:0<=c.getD k 0:=by rw[hkm];exact h0 _ (List.getElem_mem hk)
 have hlt:=(List.getElem?_eq_some_iff.mp hr).1;refine⟨by rw[List.length_set];exact L.len,fun z =>?_,fun j r h =>?_,fun i r h1 h2 h3 =>?_⟩
 ·rw[an6 hr p,L.inn z,List.range_succ,List.map_append,List.count_append]
  by_cases q:z=prd c k
  ·subst q;simp;omega
  ·have:(prd c k==z)=false:=by simpa using fun e=>q e.symm
   rw[if_neg q];simp[List.count_cons,this]
 ·have et:(c.take (k+1)).count (j:Int)=(c.take k).count (j:Int)+if (j:Int)=c.getD k 0 then 1 else 0:=by
   rw[List.take_succ_eq_append_getElem hk,List.count_append,hkm]
   by_cases q:(j:Int)=c[k]
   ·rw[if_pos q,<-q];simp
   ·have:(c[k]==(j:Int))=false:=by simpa using fun e=>q e.symm
    rw[if_neg q];simp[List.count_cons,this]
  rw[List.getElem?_set] at h
  by_cases q:(c.getD k 0).toNat=j
  ·rw[if_pos q,if_pos (q▸hlt)] at h;cases h;obtain⟨r0,e1,e2,e3⟩:=L.out j row (q▸hr);refine⟨r0,e1,?_,fun x hx=>p.mem_iff.mpr (List.mem_cons_of_mem _ (e3 x hx))⟩
   rw[et,if_pos (by omega),p.length_eq,List.length_cons,e2]
   omega
  ·rw[if_neg q] at h;obtain⟨r0,e1,e2,e3⟩:=L.out j r h;refine⟨r0,e1,?_,e3⟩;rw[et,if_neg (by omega),e2]
   omega
 ·rw[List.getElem?_set] at h3;split at h3
  ·rename_i q;cases h3;rcases Nat.lt_or_ge i k with z | z
   ·have e1:c.getD i 0=c[i]:=by rw[List.getD_eq_getElem?_getD,List.getElem?_eq_getElem h2];rfl
    have hi0:0<=c.getD i 0:=by rw[e1];exact h0 _ (List.getElem_mem h2)
    have:c[i]=c[k]:=by rw[<-e1,<-hkm];omega
    exact absurd this (List.pairwise_iff_getElem.mp nd i k h2 hk z)
   ·have:i=k:=by omega
    subst this;exact p.mem_iff.mpr (List.mem_cons_self ..)
  ·rename_i q;have:i≠k:=fun z=>q (by rw[z])
   exact L.edg i r (by omega) h2 h3
theorem Lp.bal{rows0 rows:LL9}{c:List Int}(L:Lp rows0 c c.length rows)(b:Bal rows0):Bal rows:=fun i r h=>by
 obtain⟨r0,e1,e2,_⟩:=L.out i r h;rw[L.inn,arf.count_eq,b i r0 e1,e2,List.take_length]
theorem aw9(n:Nat):Bal (List.replicate n []):=fun i r h=>by
 have:r=[]:=by
  have:=List.mem_of_getElem? h;exact List.eq_of_mem_replicate this
 subst this;simp
theorem aoc{rows:LL9}{c:List Int}(n1:c≠[])(he:∀i,i < c.length->prd c i∈dr rows (c.getD i 0))(h0:∀x∈c,0<=x):∀a∈c,∀b∈c,Rch rows a b:=by
 have hl:0 < c.length:=List.length_pos_iff.mpr n1;have mem:∀j,c.getD (j % c.length) 0∈c:=fun j=>by
  have:=Nat.mod_lt j hl;rw[List.getD_eq_getElem?_getD,List.getElem?_eq_getElem this];exact List.getElem_mem this
 have key:∀(k j:Nat),Rch rows (c.getD ((j+k) % c.length) 0) (c.getD (j % c.length) 0):=fun k=>by
  induction k with
  | zero=>exact fun j=>.base
  | succ k ih =>
   intro j;have e:=ih (j+1);rw[show j+1+k=j+(k+1) by omega] at e
   refine .step e (h0 _ (mem _)) ?_;have:=he ((j+1) % c.length) (Nat.mod_lt _ hl);unfold prd at this;have e2:((j+1) % c.length+c.length - 1) % c.length=j % c.length:=by
    have h1:=Nat.div_add_mod (j+1) c.length;have h2:=Nat.mod_lt (j+1) hl;rw[show(j+1) % c.length+c.length - 1=(j+1) % c.length+(c.length - 1) by omega,Nat.mod_add_mod,show j+1+(c.length - 1)=j+c.length by omega,Nat.add_mod_right]
   rw[e2] at this;exact this
 intro a ha b hb;obtain⟨p,hp,rfl⟩:=List.mem_iff_getElem.mp ha;obtain⟨q,hq,rfl⟩:=List.mem_iff_getElem.mp hb;have:=key (p+c.length - q) q;rw[show q+(p+c.length - q)=p+c.length by omega,Nat.add_mod_right,Nat.mod_eq_of_lt hp,Nat.mod_eq_of_lt hq,List.getD_eq_getElem?_getD,List.getD_eq_getElem?_getD,List.getElem?_eq_getElem hp,List.getElem?_eq_getElem hq] at this
 exact this
theorem asq(neg:Bool)(a b:List Int):gEq neg (.lst (a.map D.int)) (.lst (b.map D.int))=some (.v (.bl (if neg then !decide (a=b) else decide (a=b)))):=by
 have h1:okD 30 (.lst (a.map D.int))=true:=ali 29 a;have h2:okD 30 (.lst (b.map D.int))=true:=ali 29 b;have h3:eqD (.lst (a.map D.int)) (.lst (b.map D.int))=decide (a=b):=by
  rw[<-ahz];exact ahy _ _
 simp only[gEq,h1,h2,h3];rfl
@[simp] theorem adv(qv:LL9)(d:D):jj [.val (hD qv),.val d]=some (.ok (.v (.bl (uf 0 ((qv.length:Int) - 1) d))),[.val (hD qv),.val d]):=by
 simp[jj,aag,hD,hDs]
def addD(ms:List Int)(d:Int):List Int:=if 0<=d/\d∉ms then ms++[d] else ms
theorem atf(ms:List Int)(d x:Int):x∈addD ms d↔x∈ms∨(x=d/\0<=d):=by
 unfold addD;split
 ·rename_i h;simp only[List.mem_append,List.mem_singleton];constructor
  ·rintro(q | q)
   ·exact .inl q
   ·exact .inr ⟨q,h.1⟩
  ·rintro(q | ⟨q,_⟩)
   ·exact .inl q
   ·exact .inr q
 ·rename_i h;constructor
  ·exact .inl
  ·rintro(q | ⟨rfl,q⟩)
   ·exact q
   ·exact Classical.byContradiction fun z=>h ⟨q,z⟩
theorem anj{ms:List Int}(h:ms.Nodup)(d:Int):(addD ms d).Nodup:=by
 unfold addD;split
 ·rename_i q;rw[List.nodup_append];refine⟨h,by simp,fun x hx y hy e =>?_⟩
  rw[List.mem_singleton] at hy;subst hy;subst e;exact q.2 hx
 ·exact h
theorem ate(ms:List Int)(d:Int):∃t,addD ms d=ms++t:=by
 unfold addD;split
 ·exact⟨_,rfl⟩
 ·exact⟨[],by simp⟩
theorem atg(ms:List Int)(d:Int):(addD ms d).length<=ms.length+1:=by
 unfold addD;split <;> simp
theorem ac5:∀(ds ms:List Int) (x:Int),x∈ds.foldl addD ms↔x∈ms∨(x∈ds/\0<=x)
 | [],ms,x=>by simp
 | d::r,ms,x=>by
  rw[List.foldl_cons,ac5 r,atf];simp only[List.mem_cons];constructor
  ·rintro((q | ⟨rfl,q⟩) | ⟨q,w⟩)
   ·exact .inl q
   ·exact .inr ⟨.inl rfl,q⟩
   ·exact .inr ⟨.inr q,w⟩
  ·rintro(q | ⟨rfl | q,w⟩)
   ·exact .inl (.inl q)
   ·exact .inl (.inr ⟨rfl,w⟩)
   ·exact .inr ⟨q,w⟩
theorem agg:∀(ds:List Int) {ms:List Int},ms.Nodup->(ds.foldl addD ms).Nodup
 | [],_,h=>h
 | d::r,_,h=>agg r (anj h d)
theorem ahv:∀(ds ms:List Int),∃t,ds.foldl addD ms=ms++t
 | [],ms=>⟨[],by simp⟩
 | d::r,ms=>by
  obtain⟨t,e⟩:=ate ms d;obtain⟨u,e2⟩:=ahv r (addD ms d);exact⟨t++u,by rw[List.foldl_cons,e2,e,List.append_assoc]⟩
theorem agl(a b c e:Sl):∀(ds ms:List Int) (o:Sl),ms.length+ds.length<=100->∃o',forD (bu 5) vd (ds.map D.int) [a,b,.own none (ms.map D.int),c,e,o]=some (.nx,[a,b,.own none ((ds.foldl addD ms).map D.int),c,e,o'])
 | [],ms,o,_=>⟨o,rfl⟩
 | d::r,ms,o,hl=>by
  rw[List.length_cons] at hl;have hal:=atg ms d;obtain⟨o',q⟩:=agl a b c e r (addD ms d) (.val (.int d)) (by omega)
  refine⟨o',?_⟩;have hc:ms.length < capS:=by rw[aw8];omega
  have es:vd [a,b,.own none (ms.map D.int),c,e,.val (.int d)]=some (.nx,[a,b,.own none ((addD ms d).map D.int),c,e,.val (.int d)]):=by
   have ei:=awn true d ms
   by_cases h0:0<=d
   ·by_cases h1:d∈ms
    ·have:addD ms d=ms:=if_neg fun z=>z.2 h1
     rw[this];simp[vd,h0,ei,h1]
    ·have:addD ms d=ms++[d]:=if_pos ⟨h0,h1⟩;rw[this,List.map_append];simp[vd,h0,ei,h1,hc]
   ·have:addD ms d=ms:=if_neg fun z=>h0 z.1
    rw[this];simp[vd,h0]
  rw[List.map_cons,ju,List.foldl_cons];simp only[xj,List.set_cons_succ,List.set_cons_zero];rw[es];exact q
theorem aq5{l:List Int}(h:l.Nodup):(sortI l).Pairwise (· < ·):=by
 have h1:=aam l;have h2:(sortI l).Nodup:=(sortI_perm l).nodup_iff.mpr h;have:=h1.and h2;exact this.imp fun⟨a,b⟩=>by omega
structure Come (qv:LL9) (a:Int) (cs:List Int):Prop where
 lt:cs.Pairwise (· < ·)
 mem:∀x,x∈cs↔Rch qv a x/\0<=x
 len:cs.length<=10
theorem abd{qv:LL9}(h:Hs qv){a:Int}(ha:0<=a/\a < (qv.length:Int)) :
  ∃cs:List Int,ym [.val (hD qv),.val (.int a)]=some (.ok (.v (.tup (cs.map D.int))),[.val (hD qv),.val (.int a)])/\Come qv a cs:=by
 have hm:=h.most;have loop:=af0 (c:=yc) (g:=abf)
  (fun k ρ=>∃(ms:List Int) (i:Nat) (o4 o5:Sl),ρ=[.val (hD qv),.val (.int a),.own none (ms.map D.int),.val (.int (i:Nat)),o4,o5]/\k=20 - i/\i<=ms.length/\ms.Nodup/\a∈ms/\(∀x∈ms,Rch qv a x/\0<=x)/\∀j (hj:j < ms.length),j < i->∀d∈dr qv ms[j],0<=d->d∈ms)
  (fun ρ=>∃(ms:List Int) (o3 o4 o5:Sl),ρ=[.val (hD qv),.val (.int a),.own none (ms.map D.int),o3,o4,o5]/\ms.Nodup/\∀x,x∈ms↔Rch qv a x/\0<=x) ?_ fuel 20 [.val (hD qv),.val (.int a),.own none ([a].map D.int),.val (.int ((0:Nat):Int)),.emp,.emp] (Nat.lt_trans (by decide) asr)
  ⟨[a],0,.emp,.emp,rfl,rfl,by simp,by simp,by simp,by simp;exact⟨.base,ha.1⟩,fun j hj hlt=>absurd hlt (Nat.not_lt_zero _)⟩
 ·obtain⟨ρ',e,ms,o3,o4,o5,rfl,hn,hm'⟩:=loop;have e:whileD yc abf fuel [.val (hD qv),.val (.int a),.own none [.int a],.val (.int 0),.emp,.emp]=some (.nx,[.val (hD qv),.val (.int a),.own none (ms.map D.int),o3,o4,o5]):=e;have hlen:ms.length<=10:=by
   have:=aa1 (qv.length+3) ([-3,-2,-1]++ms) (by
    rw[List.nodup_append];refine⟨by decide,hn,fun x hx y hy e =>?_⟩
    subst e;have:=((hm' x).mp hy).2;simp at hx;omega) (fun x hx=>by
    rcases List.mem_append.mp hx with hx | hx
    ·simp at hx;omega
    ·have:=(hm' x).mp hx;have:=Rch.range h ha this.1;omega)
   simp at this;omega
  have es:=aja (ns:=ms) (by omega)
  have hp:=sortI_perm ms;refine⟨sortI ms,?_,aq5 hn,fun x=>by rw[hp.mem_iff];exact hm' x,by rw[hp.length_eq];exact hlen⟩
  have er:j4 [.val (hD qv),.val (.int a)]=some (.ok (.v .non),[.val (hD qv),.val (.int a)]):=by
   have h1:a<=(qv.length:Int) - 1:=by omega
   simp[j4,aaf,uf,ha.1,h1]
  simp only[hD] at e er ⊢
  simp[ym,ai9,er,e,es]
 ·rintro k ρ ⟨ms,i,o4,o5,rfl,rfl,hi,hn,h0,hr,hc⟩
  have hz:=au8 h ha hn fun x hx=>(hr x hx).1
  by_cases hlt:i < ms.length
  ·obtain⟨q1,q2⟩:=hr _ (List.getElem_mem hlt);have q3:=(Rch.range h ha q1).2;obtain⟨d1,d2,d3⟩:=h.dr q2 q3;have er:=adz q2 q3;have ei:=a0q hlt;obtain⟨o5',el⟩:=agl (.val (hD qv)) (.val (.int a)) (.val (.int (i:Nat))) (.val (.tup ((dr qv ms[i]).map D.int))) (dr qv ms[i]) ms o5 (by omega)
   refine .inr ⟨[.val (hD qv),.val (.int a),.own none (ms.map D.int),.val (.int (i:Nat)),o4,o5],[.val (hD qv),.val (.int a),.own none (((dr qv ms[i]).foldl addD ms).map D.int),.val (.int ((i+1:Nat):Int)),.val (.tup ((dr qv ms[i]).map D.int)),o5'],20 - (i+1),?_,?_,by omega,(dr qv ms[i]).foldl addD ms,i+1,_,_,rfl,rfl,?_,agg _ hn,(ac5 _ _ _).mpr (.inl h0),fun x hx =>?_,fun j hj hji d hd hd0 =>?_⟩
   ·have:(i:Int) < (ms.length:Int):=by omega
    simp[yc,this]
   ·have hcast:((i+1:Nat):Int)=(i:Int)+1:=by omega
    rw[hcast];simp only[hD] at el ⊢
    generalize (dr qv ms[i]).map D.int=dd at er el;simp[abf,ei,er,el]
   ·obtain⟨t,et⟩:=ahv (dr qv ms[i]) ms;rw[et,List.length_append];omega
   ·rcases(ac5 _ _ _).mp hx with hx | ⟨hx,hx0⟩
    ·exact hr x hx
    ·exact⟨.step q1 q2 hx,hx0⟩
   ·obtain⟨t,et⟩:=ahv (dr qv ms[i]) ms;have hjl:j < ms.length:=by omega
    have ej:((dr qv ms[i]).foldl addD ms)[j]=ms[j]:=by
     simp only[et];exact List.getElem_append_left hjl
    rw[ej] at hd;rcases Nat.lt_or_ge j i with z | z
    ·exact(ac5 _ _ _).mpr (.inl (hc j hjl z d hd hd0))
    ·have:j=i:=by omega
     subst this;exact(ac5 _ _ _).mpr (.inr ⟨hd,hd0⟩)
  ·refine .inl ⟨[.val (hD qv),.val (.int a),.own none (ms.map D.int),.val (.int (i:Nat)),o4,o5],?_,ms,_,_,_,rfl,hn,fun x=>⟨fun hx=>hr x hx,fun⟨hx,hx0⟩ =>?_⟩⟩
   ·have:¬(i:Int) < (ms.length:Int):=by omega
    simp[yc,this]
   ·exact aj6 h0 (fun y hy d hd hd0=>by
     obtain⟨j,hj,rfl⟩:=List.mem_iff_getElem.mp hy;exact hc j hj (by omega) d hd hd0) hx hx0
section
variable{qv:LL9}(h:Hs qv){a:Int}(ha:0<=a/\a < (qv.length:Int))
include h ha
end
theorem afe(qv:LL9):(hDs qv).length=qv.length:=by unfold hDs;simp
theorem afn(x:Int):∀V:List Int,(V.map D.int).countP (fun y=>eqD y (.int x))=V.count x
 | []=>rfl
 | a::V=>by
  have e:=akt a x;rw[List.map_cons,List.countP_cons,afn x V,List.count_cons,e]
  by_cases q:a=x <;> simp[q]
noncomputable def rl(qv:LL9)(a:Int):Nat:=open Classical in if h:∃cs,Come qv a cs then (Classical.choose h).length else 0
theorem aj4{qv:LL9}{a:Int}{cs:List Int}(h:Come qv a cs):cs.length=rl qv a:=by
 have hx:∃cs,Come qv a cs:=⟨cs,h⟩
 unfold rl;rw[dif_pos hx];have h2:=Classical.choose_spec hx;exact((List.perm_ext_iff_of_nodup (h.lt.imp fun z=>by omega) (h2.lt.imp fun z=>by omega)).mpr fun x=>(h.mem x).trans (h2.mem x).symm).length_eq
theorem akd:∀(m:Nat) (l:List Int),l.Nodup->(∀x∈l,0<=x/\x < (m:Int))->l.length<=m:=fun m l hn h=>by
 have:=aa1 (m+3) l hn fun x hx=>by have:=h x hx;omega
 have e:(l++[-3,-2,-1]).Nodup:=by
  rw[List.nodup_append];refine⟨hn,by decide,fun a ha b hb =>?_⟩
  have:=h a ha;simp only[List.mem_cons,List.not_mem_nil,or_false] at hb;rcases hb with rfl | rfl | rfl <;> omega
 have:=aa1 (m+3) (l++[-3,-2,-1]) e fun x hx=>by
  rcases List.mem_append.mp hx with hx | hx
  ·have:=h x hx;omega
  ·simp only[List.mem_cons,List.not_mem_nil,or_false] at hx;rcases hx with rfl | rfl | rfl <;> omega
 rw[List.length_append] at this;simp at this;exact this
section
variable{qv:LL9}(h:Hs qv)
include h
theorem asz{a:Int}(ha:0<=a/\a < (qv.length:Int)):∃cs:List Int,ym [.val (hD qv),.val (.int a)]=some (.ok (.v (.tup (cs.map D.int))),[.val (hD qv),.val (.int a)])/\cs.length=rl qv a:=by
 obtain⟨cs,e,c⟩:=abd h ha;exact⟨cs,e,aj4 c⟩
theorem rl_le{a:Int}(ha:0<=a/\a < (qv.length:Int)):rl qv a<=qv.length:=by
 obtain⟨cs,_,c⟩:=abd h ha;rw[<-aj4 c];exact akd _ _ (c.lt.imp fun z=>by omega) fun x hx=>⟨((c.mem x).mp hx).2,(((c.mem x).mp hx).1.range h ha).2⟩
noncomputable def am7(qv:LL9):Bool:=(List.range qv.length).all fun(i:Nat)=>decide (rl qv (i:Int)=qv.length)
theorem ao9:vq [.val (hD qv)]=some (.ok (.v (.bl (am7 qv))),[.val (hD qv)]):=by
 have hm:=h.most;have hl:=afe qv;have ec:compD (bu 0) (ret true) aa7 (fc 0 qv.length) [] [.emp,.val (hD qv)]=some (.ok (((List.range qv.length).map fun(i:Nat)=>decide (rl qv (i:Int)=qv.length)).map D.bl),aeg .emp (fc 0 qv.length)::[.val (hD qv)]):=by
  rw[ud (f:=fun d=>match d with | .int a=>.bl (decide (rl qv a=qv.length)) | _=>.non)]
  ·rw[List.nil_append];unfold fc;rw[List.map_map,List.map_map]
   congr 3
   refine List.map_congr_left fun i _ =>?_
   show D.bl (decide (rl qv (0+(i:Int))=qv.length))=_;rw[Int.zero_add];rfl
  ·intro d hd;unfold fc at hd;obtain⟨i,hi,rfl⟩:=List.mem_map.mp hd;have hi:=List.mem_range.mp hi;rw[Int.zero_add];obtain⟨cs,e,hc⟩:=asz h (a:=(i:Int)) ⟨by omega,by omega⟩
   have hcl:(cs.map D.int).length=rl qv (i:Int):=by rw[List.length_map];exact hc
   simp only[hD] at *;generalize (i:Int)=ii at *;generalize cs.map D.int=cc at *;have hd:decide ((cc.length:Int)=((hDs qv).length:Int))=decide (rl qv ii=qv.length):=by
    rw[hcl,hl]
    by_cases z:rl qv ii=qv.length
    ·rw[decide_eq_true z,decide_eq_true (by omega)]
    ·rw[decide_eq_false z,decide_eq_false (by omega)]
   rw[<-hd];generalize hDs qv=hh at *;simp[aa7,e];rfl
 have hc:(((List.range qv.length).map fun(i:Nat)=>decide (rl qv (i:Int)=qv.length)).map D.bl).length<=capS:=by rw[List.length_map,List.length_map,List.length_range];exact fj (by omega)
 have ea:gAll (.lst (((List.range qv.length).map fun(i:Nat)=>decide (rl qv (i:Int)=qv.length)).map D.bl))=some (.v (.bl (am7 qv))):=by
  rw[ac4,yq];unfold am7;simp only[Option.map_some,List.all_map,Function.comp_def,id]
 have hr:jq [.int (qv.length:Int)]=some (fc 0 qv.length):=by
  have:∀i:Int,jq [.int i]=if i.natAbs < 4611686018427387904 then some (fc 0 i.toNat) else none:=fun _=>rfl
  rw[this,if_pos (by omega)]
  simp
 generalize ((List.range qv.length).map fun(i:Nat)=>decide (rl qv (i:Int)=qv.length)).map D.bl=BB at *
 generalize am7 qv=jb at *;rw[<-hl] at hr;rw[<-hl] at ec;generalize fc 0 (hDs qv).length=RR at *;simp only[hD] at *;generalize hDs qv=hh at *;simp[vq,afh,hr,ec,hc,ea]
omit h in
theorem count_at(r:List Int)(a:Int):(af8 0 (ak (mVar 1) mNil)) [.val (.tup (r.map D.int)),.val (.int a)]=some (.ok (.int ((r.count a:Nat):Int)),[.val (.tup (r.map D.int)),.val (.int a)]):=by
 have hk:=afn a r;have ok:(r.map D.int).all (okD 30)=true:=by simp[okD]
 have e:ahu (.tup (r.map D.int)) [.int a]=some (.int ((r.count a:Nat):Int)):=by
  have:∀(l:List D) (x:D),ahu (.tup l) [x]=if okD 30 x&&l.all (okD 30) then some (.int (l.countP fun y=>eqD y x)) else none:=fun _ _=>rfl
  rw[this,ok,hk];rfl
 generalize r.map D.int=rr at *;simp[af8,M.bind,lift,di,afk,e,mVar,ak,mNil,Dn.ret]
theorem aku(a:Int):yl [.val (hD qv),.val (.int a)]=some (.ok (.v (.int ((qv.flatten.count a:Nat):Int))),[.val (hD qv),.val (.int a)]):=by
 have hm:=h.most;have ec:compD (bu 0) (ret true) ace (hDs qv) [] [.emp,.val (.int a)]=some (.ok ((qv.map fun r=>((r.count a:Nat):Int)).map D.int),aeg .emp (hDs qv)::[.val (.int a)]):=by
  rw[ud (f:=fun d=>match d with | .tup l=>.int (((((mj l).getD []).count a:Nat)):Int) | _=>.non)]
  ·rw[List.nil_append];unfold hDs;rw[List.map_map,List.map_map]
   congr 3
   refine List.map_congr_left fun r _ =>?_
   simp
  ·intro d hd;obtain⟨r,hr,rfl⟩:=List.mem_map.mp hd;have:=count_at r a;unfold ace;rw[this];simp
 have hc:((qv.map fun r=>((r.count a:Nat):Int)).map D.int).length<=capS:=by rw[List.length_map,List.length_map];exact fj (by omega)
 have es:gSum (.lst ((qv.map fun r=>((r.count a:Nat):Int)).map D.int))=some (.v (.int ((qv.flatten.count a:Nat):Int))):=by
  show(mj _).map _=_;rw[aa3];have:(qv.map fun r=>((r.count a:Nat):Int)).sum=((qv.flatten.count a:Nat):Int):=by
   clear hc ec hm h
   induction qv with
   | nil=>rfl
   | cons r t ih=>rw[List.map_cons,List.sum_cons,ih,List.flatten_cons,List.count_append];omega
  show some (Rv.v (.int _))=_;rw[this]
 generalize (qv.map fun r=>((r.count a:Nat):Int)).map D.int=CC at *
 generalize ((qv.flatten.count a:Nat):Int)=nn at *;simp only[hD] at *;generalize hDs qv=hh at *;simp[yl,agd,ec,hc,es]
theorem ai2:compD (bu 0) (ret true) zq (hDs qv) [] [.emp]=some (.ok ((qv.map fun r=>((r.length:Nat):Int)).map D.int),aeg .emp (hDs qv)::[]):=by
 rw[ud (f:=fun d=>match d with | .tup l=>.int ((l.length:Nat):Int) | _=>.non)]
 ·rw[List.nil_append];unfold hDs;rw[List.map_map,List.map_map]
  congr 3
  refine List.map_congr_left fun r _ =>?_
  simp
 ·intro d hd;obtain⟨r,hr,rfl⟩:=List.mem_map.mp hd;generalize r.map D.int=rr;simp[zq]
theorem alp:((qv.map fun r=>((r.length:Nat):Int)).map D.int).length<=capS:=by
 have hm:=h.most;rw[List.length_map,List.length_map];exact fj (by omega)
omit h in
theorem alo:gSum (.lst ((qv.map fun r=>((r.length:Nat):Int)).map D.int))=some (.v (.int ((qv.flatten.length:Nat):Int))):=by
 show(mj _).map _=_;rw[aa3];have:(qv.map fun r=>((r.length:Nat):Int)).sum=((qv.flatten.length:Nat):Int):=by
  induction qv with
  | nil=>rfl
  | cons r t ih=>rw[List.map_cons,List.sum_cons,ih,List.flatten_cons,List.length_append];omega
 show some (Rv.v (.int _))=_;rw[this]
theorem uy:su [.val (hD qv)]=some (.ok (.v (.int ((qv.flatten.length:Nat):Int))),[.val (hD qv)]):=by
 have ec:=ai2 h;have hc:=alp h;have es:=alo (qv:=qv);generalize (qv.map fun r=>((r.length:Nat):Int)).map D.int=CC at *
 generalize ((qv.flatten.length:Nat):Int)=nn at *;simp only[hD] at *;generalize hDs qv=hh at *;simp[su,ad8,ec,hc,es]
end
def amt(qv:LL9):Bool:=qv.all fun r=>decide (0<=minI r)
theorem a0s{C:M Rv}{s:Sl}{f:List Int->Bool}{qv:LL9}(e:C [s]=some (.ok (.fr (qv.map fun r=>D.bl (f r))),[s])):fnD 1 1 (dRet (gn (g1 gAll) (ak (M.d C) mNil))) [s]=some (.ok (.v (.bl (qv.all f))),[s]):=by
 simp[e,Function.comp_def]
section
variable{qv:LL9}(h:Hs qv)
include h
theorem am8:aa6 [.val (hD qv)]=some (.ok (.v (.bl (amt qv))),[.val (hD qv)]):=by
 have ef:compD (bu 0) (ret true) abj (hDs qv) [] [.emp]=some (.ok (qv.map fun r=>.bl (decide (0<=minI r))),aeg .emp (hDs qv)::[]):=by
  rw[ud (f:=fun d=>match d with | .tup l=>.bl (decide (0<=minI ((mj l).getD []))) | _=>.non)]
  ·simp[hDs,Function.comp_def]
  ·intro d hd;obtain⟨r,hr,rfl⟩:=List.mem_map.mp hd;have hne:r≠[]:=fun z=>by have:=(h.room r hr).1;rw[z] at this;simp at this
   simp[abj,asn hne]
 have hc:(qv.map fun r=>D.bl (decide (0<=minI r))).length<=capS:=by rw[List.length_map];exact fj (Nat.le_trans h.most (by decide))
 have e1:(vm [none] (qe (mVar 0)) (bu 0) (ret true) abj) [.val (hD qv)]=some (.ok (.fr (qv.map fun r=>.bl (decide (0<=minI r)))),[.val (hD qv)]):=by
  generalize (qv.map fun r=>D.bl (decide (0<=minI r)))=BB at *
  simp only[hD] at *;generalize hDs qv=hh at *;simp[ef,hc]
 unfold aa6 ai8;exact a0s e1
theorem aii:amt qv=qv.flatten.all fun x=>decide (0<=x):=by
 unfold amt;rw[List.all_flatten,Bool.eq_iff_iff,List.all_eq_true,List.all_eq_true];refine forall_congr' fun r=>forall_congr' fun hr =>?_
 have hne:r≠[]:=fun z=>by have:=(h.room r hr).1;rw[z] at this;simp at this
 rw[decide_eq_true_eq,ar0 hne,List.all_eq_true];simp
def balB(qv:LL9):Bool:=(qv.mapIdx fun i r=>decide (((qv.flatten.count (i:Int):Nat):Int)=(r.length:Int))).all id
def balL(qv:LL9):List D:=(qv.mapIdx fun i r=>decide (((qv.flatten.count (i:Int):Nat):Int)=(r.length:Int))).map D.bl
theorem atb{me:M D}(S:Sl)(hm:∀(i:Nat) (r:List Int),qv[i]? = some r->me [.val (.int (i:Int)),.val (.tup (r.map D.int)),S]=some (.ok (.bl (decide (((qv.flatten.count (i:Int):Nat):Int)=(r.length:Int)))),[.val (.int (i:Int)),.val (.tup (r.map D.int)),S])) :
  ∃o1 o2,compD (bTup 2 (ji (bu 0) (ji (bu 1) bNil))) (ret true) me (aeh (hDs qv)) [] [.emp,.emp,S]=some (.ok (balL qv),[o1,o2,S]):=by
 have hbl:(balL qv).length=qv.length:=by unfold balL;simp
 have comp:=abb (b:=bTup 2 (ji (bu 0) (ji (bu 1) bNil))) (mc:=ret true) (me:=me) (fun j ys ρ=>∃o1 o2,ρ=[o1,o2,S]/\ys=(balL qv).take j)
  (l:=aeh (hDs qv)) (ys:=[]) (ρ:=[.emp,.emp,S]) 0 ⟨.emp,.emp,rfl,rfl⟩ ?_
 ·obtain⟨ys,ρ',e,o1,o2,rfl,rfl⟩:=comp;rw[afl,afe,Nat.zero_add,<-hbl,List.take_length] at e;exact⟨o1,o2,e⟩
 ·rintro i d ys ρ hd ⟨o1,o2,rfl,rfl⟩
  rw[Nat.zero_add];obtain⟨d0,g1,rfl⟩:=ajf hd;have hi:i < qv.length:=by
   have:=(List.getElem?_eq_some_iff.mp g1).1;rwa[afe] at this
  have ed:d0=.tup (qv[i].map D.int):=by
   unfold hDs at g1;rw[List.getElem?_map,List.getElem?_eq_getElem hi] at g1
   simpa using g1.symm
  subst ed;have e:=hm i qv[i] (List.getElem?_eq_getElem hi);have hb:i < (balL qv).length:=by rw[hbl];exact hi
  have ef:(balL qv)[i]? = some (.bl (decide (((qv.flatten.count (i:Int):Nat):Int)=(qv[i].length:Int)))):=by
   unfold balL;rw[List.getElem?_map,List.getElem?_mapIdx,List.getElem?_eq_getElem hi];rfl
  have es:(balL qv).take (i+1)=(balL qv).take i++[.bl (decide (((qv.flatten.count (i:Int):Nat):Int)=(qv[i].length:Int)))]:=by
   rw[List.take_succ,ef];rfl
  exact⟨_,_,true,rfl,rfl,.inr ⟨rfl,_,_,e,_,_,rfl,es.symm⟩⟩
theorem axb:gAll (.lst (balL qv))=some (.v (.bl (balB qv))):=by
 unfold balL balB;rw[ac4,yq];rfl
theorem axa:(balL qv).length<=capS:=by
 unfold balL;rw[List.length_map,List.length_mapIdx];exact fj (Nat.le_trans h.most (by decide))
theorem aky:lw [.val (hD qv)]=some (.ok (.v (.bl (amt qv&&balB qv))),[.val (hD qv)]):=by
 have e1:=am8 h;obtain⟨o1,o2,ec⟩:=atb h (me:=xu) (.val (hD qv)) fun i r hr=>by
  have e:=aku h (i:Int);have hl:(r.map D.int).length=r.length:=List.length_map ..
  generalize ((qv.flatten.count (i:Int):Nat):Int)=cc at *;generalize (i:Int)=ii at *;generalize r.map D.int=rr at *;rw[<-hl];generalize hD qv=hh at *;simp[xu,e];rfl
 have ea:=axb h;have hc:=axa h;generalize balL qv=BB at *;generalize balB qv=bb at *;simp only[hD] at *;generalize hDs qv=hh at *;cases hs:amt qv with
 | true =>
  rw[hs] at e1;simp[lw,zb,e1,ec,hc,ea]
 | false =>
  rw[hs] at e1;simp[lw,zb,e1]
theorem ahw:qv.flatten.length<=60:=by
 have:∀l:LL9,(∀r∈l,r.length<=6)->l.flatten.length<=6*l.length:=fun l=>by
  induction l with
  | nil=>exact fun _=>by simp
  | cons r t ih =>
   intro hr;have:=ih fun q hq=>hr q (List.mem_cons_of_mem _ hq)
   have:=hr r (List.mem_cons_self ..);rw[List.flatten_cons,List.length_append,List.length_cons];omega
 have:=this qv fun r hr=>(h.room r hr).2.1
 have:=h.most;omega
end
theorem awh{qv:LL9}{i:Nat}{d:D}(h:(hDs qv)[i]? = some d):∃r,qv[i]? = some r/\d=.tup (r.map D.int):=by
 unfold hDs at h;rw[List.getElem?_map] at h;obtain⟨r,e,rfl⟩:=Option.map_eq_some_iff.mp h;exact⟨r,e,rfl⟩
structure Arr (qv:LL9) (as:List Int):Prop where
 len:as.length=qv.length
 ok:∀(i:Nat) (a:Int) (r:List Int),as[i]? = some a->qv[i]? = some r->0<=a/\a < (r.length:Int)
def ar(as:List Int)(x:Int):Int:=as.getD x.toNat 0
theorem Arr.at{qv:LL9}{as:List Int}(h:Arr qv as){x:Int}(h0:0<=x)(h1:x < (qv.length:Int)):0<=ar as x/\ar as x < ((dr qv x).length:Int):=by
 have hk:x.toNat < qv.length:=by omega
 have hk2:x.toNat < as.length:=by rw[h.len];exact hk
 have:=h.ok x.toNat as[x.toNat] qv[x.toNat] (List.getElem?_eq_getElem hk2) (List.getElem?_eq_getElem hk)
 simpa[ar,dr,hk,hk2] using this
theorem ak0(P:Int×Int){qv:LL9}(h:Hs qv):∃as P',f__law_drawn [.own (some 0) (pen P),.val (hD qv)]=some (.ok (.v (.tup (as.map D.int))),[.own (some 0) (pen P'),.val (hD qv)])/\Arr qv as:=by
 have comp:=abb (b:=bu 0) (mc:=ret true) (me:=zr) (fun j ys ρ=>∃ns P o,ρ=[o,.own (some 1) (pen P)]/\ys=ns.map D.int/\ns.length=j/\∀(i:Nat) (a:Int) (r:List Int),ns[i]? = some a->qv[i]? = some r->0<=a/\a < (r.length:Int))
  (l:=hDs qv) (ys:=[]) (ρ:=[.emp,.own (some 1) (pen P)]) 0 ⟨[],P,.emp,rfl,rfl,rfl,by simp⟩ ?_
 ·obtain⟨ys,ρ',e6,ns,P6,o,rfl,rfl,hn,hx⟩:=comp;rw[afe,Nat.zero_add] at hn;have hc:ns.length<=capS:=fj (by have:=h.most;omega)
  exact⟨ns,P6,by simp[f__law_drawn,aeb,hD,e6,hc],hn,hx⟩
 ·rintro j d ys ρ hd ⟨ns,P6,o,rfl,rfl,hn,hx⟩
  obtain⟨r,hr,rfl⟩:=awh hd;obtain⟨k1,k2,k3⟩:=h.room r (List.mem_of_getElem? hr);obtain⟨r7,P7,e7,r7a,r7b⟩:=jm P6 (r.length:Int) (by omega) (by omega)
  refine⟨_,_,true,rfl,rfl,.inr ⟨rfl,.int r7,[.val (.tup (r.map D.int)),.own (some 1) (pen P7)],by simp[zr,e7],ns++[r7],P7,_,rfl,by simp,by simp[hn],fun i a q ha hq =>?_⟩⟩
  rcases Nat.lt_or_ge i ns.length with z | z
  ·rw[List.getElem?_append_left z] at ha;exact hx i a q ha hq
  ·have hi:i=ns.length:=by
    have:=(List.getElem?_eq_some_iff.mp ha).1;simp at this;omega
   subst hi;simp at ha;subst ha;have:ns.length=j:=by omega
   rw[this,hr] at hq;cases hq;exact⟨r7a,r7b⟩
def gone(qv:LL9)(as:List Int)(k:Int):List Int:=as.set k.toNat ((ar as k+1) % ((dr qv k).length:Int))
def led(qv:LL9)(as:List Int)(k:Int):Int:=(dr qv k).getD (ar as k).toNat 0
section
variable{qv:LL9}(h:Hs qv){as:List Int}(ha:Arr qv as){k:Int}(h0:0<=k)(h1:k < (qv.length:Int))
include h ha h0 h1
theorem atc:atI (as.map D.int) k=some (.int (ar as k)):=ah8 h0 (by rw[ha.len];exact h1)
theorem axc:atI ((dr qv k).map D.int) (ar as k)=some (.int (led qv as k)):=ah8 (ha.at h0 h1).1 (ha.at h0 h1).2
theorem apm(x:Int):fMod x ((dr qv k).length:Int)=some (x % ((dr qv k).length:Int)):=by
 have:=(h.dr h0 h1).1;unfold fMod;rw[if_pos (by omega)]
end
section
variable{qv:LL9}(h:Hs qv){as:List Int}(ha:Arr qv as){k:Int}(h0:0<=k)(h1:k < (qv.length:Int))
include h ha h0 h1
theorem asl:Arr qv (gone qv as k):=by
 have hd:=(h.dr h0 h1).1;refine⟨by unfold gone;rw[List.length_set];exact ha.len,fun i a r g1 g2 =>?_⟩
 unfold gone at g1;rw[List.getElem?_set] at g1;split at g1
 ·rename_i hi;subst hi;split at g1
  ·cases g1;have:dr qv k=r:=by simp[dr,g2]
   rw[this] at hd ⊢
   exact⟨Int.emod_nonneg _ (by omega),Int.emod_lt_of_pos _ (by omega)⟩
  ·cases g1
 ·exact ha.ok i a r g1 g2
end
theorem azo{qv:LL9}(h:Hs qv){as:List Int}(ha:Arr qv as){k:Int}(h0:0<=k)(h1:k < (qv.length:Int)) : -3<=led qv as k/\led qv as k < (qv.length:Int):=by
 obtain⟨a1,a2⟩:=ha.at h0 h1;have hk:(ar as k).toNat < (dr qv k).length:=by omega
 have:led qv as k∈dr qv k:=by
  unfold led;simp[hk]
 exact(h.dr h0 h1).2.2 _ this
def gho(rows:LL9):Ro:=(rows.mapIdx fun j l=>Sl.own (some (1000+j)) (l.map D.int))++List.replicate (6 - rows.length) .emp
def tags(n:Nat):List Nat:=(List.range n).map fun j=>1000+j
@[simp] theorem akf(l:Ro):(l.mapIdx fun _ s=>s)=l:=by
 induction l with
 | nil=>rfl
 | cons a t ih=>rw[List.mapIdx_cons,ih]
theorem avb(rest ps:Ro):putB rest [none] ps=rest:=akf rest
section
variable{rows:LL9}{j:Nat}{row:List Int}
theorem ahp(h:rows[j]? = some row):(gho rows)[j]? = some (.own (some (1000+j)) (row.map D.int)):=by
 have hj:=(List.getElem?_eq_some_iff.mp h).1;unfold gho;rw[List.getElem?_append_left (by rw[List.length_mapIdx];exact hj),List.getElem?_mapIdx,h]
 rfl
theorem awj(hj:j < rows.length)(l:List Int):(gho rows).set j (.own (some (1000+j)) (l.map D.int))=gho (rows.set j l):=by
 unfold gho;rw[List.set_append_left _ _ (by rw[List.length_mapIdx];exact hj),List.length_set]
 congr 1
 refine List.ext_getElem? fun k =>?_
 rw[List.getElem?_set,List.getElem?_mapIdx,List.getElem?_mapIdx,List.getElem?_set]
 by_cases hk:j=k
 ·subst hk;simp[hj]
 ·simp[hk]
theorem axq{n:Nat}{r:Int}(h0:0<=r)(h1:r < (n:Int)):atI (tags n) r=some (1000+r.toNat):=by
 unfold atI tags;rw[List.length_map,List.length_range,ahl h0 h1];show((List.range n).map fun j=>1000+j)[r.toNat]? = _
 rw[List.getElem?_map,List.getElem?_range (by omega)]
 rfl
variable{a0 a1 a2 a3 a4 a5 a6 a7 a8 a9:Sl}
theorem al1(j:Nat)(l:Ro):(a0::a1::a2::a3::a4::a5::a6::a7::a8::a9::l:Ro)[10+j]? = l[j]? := by
 rw[Nat.add_comm];rfl
theorem a0b(j:Nat)(l:Ro)(x:Sl):List.set (a0::a1::a2::a3::a4::a5::a6::a7::a8::a9::l:Ro) (10+j) x=a0::a1::a2::a3::a4::a5::a6::a7::a8::a9::List.set l j x:=by
 rw[Nat.add_comm];rfl
theorem a3u(h:rows[j]? = some row):mGh 10 (1000+j) (a0::a1::a2::a3::a4::a5::a6::a7::a8::a9::gho rows)=some (.ok (10+j),a0::a1::a2::a3::a4::a5::a6::a7::a8::a9::gho rows):=by
 have e:(a0::a1::a2::a3::a4::a5::a6::a7::a8::a9::gho rows:Ro)[10+(1000+j - 1000)]? = some (.own (some (1000+j)) (row.map D.int)):=by
  rw[show 1000+j - 1000=j by omega,al1,ahp h]
 unfold mGh;rw[e];show(if 1000+j=1000+j then some (Out.ok (10+(1000+j - 1000)),_) else none)=_
 rw[if_pos rfl,show 1000+j - 1000=j by omega]
theorem aoa{r:Int}(h0:0<=r)(h:rows[r.toNat]? = some row) :
  mRow 6 10 (mVar 5) (a0::a1::a2::a3::a4::.val (.int r)::.lol (tags rows.length)::a7::a8::a9::gho rows)=some (.ok (10+r.toNat),a0::a1::a2::a3::a4::.val (.int r)::.lol (tags rows.length)::a7::a8::a9::gho rows):=by
 have hj:=(List.getElem?_eq_some_iff.mp h).1;have e:=axq (n:=rows.length) h0 (by omega)
 have g:=a3u (a0:=a0) (a1:=a1) (a2:=a2) (a3:=a3) (a4:=a4) (a5:=.val (.int r)) (a6:=.lol (tags rows.length)) (a7:=a7) (a8:=a8) (a9:=a9) h;generalize tags rows.length=tt at *;have l3:mLol 6 (a0::a1::a2::a3::a4::.val (.int r)::.lol tt::a7::a8::a9::gho rows)=some (.ok tt,a0::a1::a2::a3::a4::.val (.int r)::.lol tt::a7::a8::a9::gho rows):=rfl;have v6:mVar 5 (a0::a1::a2::a3::a4::.val (.int r)::.lol tt::a7::a8::a9::gho rows)=some (.ok (.int r),a0::a1::a2::a3::a4::.val (.int r)::.lol tt::a7::a8::a9::gho rows):=rfl;unfold mRow;rw[bind_eq l3,bind_eq v6,bind_eq l3];show((lift (atI tt r)).bind fun k=>mGh 10 k) _=_
 rw[e];exact g
theorem atk(h:rows[j]? = some row):di (10+j) (a0::a1::a2::a3::a4::a5::a6::a7::a8::a9::gho rows)=some (.ok (.lst (row.map D.int)),a0::a1::a2::a3::a4::a5::a6::a7::a8::a9::gho rows):=by
 unfold di;rw[al1,ahp h]
theorem atw(h:rows[j]? = some row):mOwn (10+j) (a0::a1::a2::a3::a4::a5::a6::a7::a8::a9::gho rows)=some (.ok (row.map D.int),a0::a1::a2::a3::a4::a5::a6::a7::a8::a9::gho rows):=by
 unfold mOwn;rw[al1,ahp h]
theorem ak8(h:rows[j]? = some row)(l:List Int):aa2 (10+j) (l.map D.int) (a0::a1::a2::a3::a4::a5::a6::a7::a8::a9::gho rows)=some (.ok (),a0::a1::a2::a3::a4::a5::a6::a7::a8::a9::gho (rows.set j l)):=by
 unfold aa2;rw[al1,ahp h];show some (Out.ok (),List.set (a0::a1::a2::a3::a4::a5::a6::a7::a8::a9::gho rows) (10+j) (.own (some (1000+j)) (l.map D.int)))=_;rw[a0b,awj (List.getElem?_eq_some_iff.mp h).1]
end
theorem ape(l:List Int)(k x:Int):∃l':List Int,insD (l.map D.int) k (.int x)=l'.map D.int/\l'.Perm (x::l):=by
 refine⟨l.take (if k < 0 then (k+(l.length:Int)).toNat else min k.toNat l.length)++x::l.drop (if k < 0 then (k+(l.length:Int)).toNat else min k.toNat l.length),?_,?_⟩
 ·unfold insD;rw[List.length_map];simp only[List.map_append,List.map_cons,List.map_take,List.map_drop]
 ·generalize (if k < 0 then (k+(l.length:Int)).toNat else min k.toNat l.length)=j
  have e:=List.perm_middle (a:=x) (l₁:=l.take j) (l₂:=l.drop j);rw[List.take_append_drop] at e;exact e
theorem a3s(P:Int×Int)(T:Option Nat)(M1 X2 N3:Sl)(R:Ro)(r:Int)(r0:0<=r)(r1:r<=10)(hs:List Int)(hl:hs.length<=20):∃(P':Int×Int) (hs':List Int),j6 (.own T (pen P)::M1::X2::N3::.own none (hs.map D.int)::.val (.int r)::R)=some (.nx,.own T (pen P')::M1::X2::N3::.own none (hs'.map D.int)::.val (.int r)::R)/\hs'.Perm (r::hs):=by
 obtain⟨q,P2,e2,q0,q1⟩:=jm P (r+1) (by omega) (by omega)
 obtain⟨hs',ei,hp⟩:=ape hs q r;have hcap:(hs.map D.int).length < capS:=by rw[List.length_map];exact Nat.lt_of_le_of_lt hl (by decide)
 have q63 : -9223372036854775808<=q/\q < 9223372036854775808:=by omega
 refine⟨P2,hs',?_,hp⟩;generalize hs.map D.int=sl at *;generalize hs'.map D.int=sl' at *;simp[j6,e2,ei,q63,hcap]
theorem az3(T:Option Nat)(M1 X2 N3:Sl)(R:Ro):∀(rs:List Int) (P:Int×Int) (hs:List Int) (o5:Sl),(∀r∈rs,0<=r/\r<=10)->hs.length+rs.length<=20->tagB o5=true->∃(P':Int×Int) (hs':List Int) (o5':Sl),forD (bu 5) j6 (rs.map D.int) (.own T (pen P)::M1::X2::N3::.own none (hs.map D.int)::o5::R)=some (.nx,.own T (pen P')::M1::X2::N3::.own none (hs'.map D.int)::o5'::R)/\hs'.Perm (rs++hs)/\tagB o5'=true
 | [],P,hs,o5,_,_,t=>⟨P,hs,o5,rfl,.refl _,t⟩
 | r::rs,P,hs,o5,h,hl,t=>by
  obtain⟨P1,h1,e1,p1⟩:=a3s P T M1 X2 N3 R r (h r (List.mem_cons_self ..)).1 (h r (List.mem_cons_self ..)).2 hs (by omega)
  have l1:=p1.length_eq;obtain⟨P2,h2,o,e2,p2,t2⟩:=az3 T M1 X2 N3 R rs P1 h1 (.val (.int r)) (fun x hx=>h x (List.mem_cons_of_mem _ hx)) (by simp at l1 hl ⊢;omega) rfl
  refine⟨P2,h2,o,?_,p2.trans ((p1.append_left rs).trans List.perm_middle),t2⟩;rw[List.map_cons,ju];simp only[xj,List.set_cons_succ,List.set_cons_zero];rw[e1];exact e2
theorem atu{c:List Int}{k:Nat}(hk:k < c.length):atI (c.map D.int) ((k:Int) - 1)=some (.int (prd c k)):=by
 have hm:=Nat.mod_lt (k+c.length - 1) (show 0 < c.length by omega)
 have e:ixN (c.map D.int).length ((k:Int) - 1)=some ((k+c.length - 1) % c.length):=by
  rw[List.length_map];unfold ixN;cases k with
  | zero =>
   rw[Nat.mod_eq_of_lt (by omega)]
   simp;omega
  | succ j =>
   rw[show j+1+c.length - 1=j+c.length by omega,Nat.add_mod_right,Nat.mod_eq_of_lt (by omega)]
   simp;omega
 unfold atI;rw[e];show(c.map D.int)[(k+c.length - 1) % c.length]? = _;rw[List.getElem?_map,List.getElem?_eq_getElem hm];unfold prd;rw[List.getD_eq_getElem?_getD,List.getElem?_eq_getElem hm];rfl
structure RowOk (n:Nat) (rows:LL9):Prop where
 len:rows.length=n
 row:∀r∈rows,r.length<=6/\∀x∈r,0<=x/\x < (n:Int)
section
variable{rows:LL9}{row:List Int}
theorem a1w(Pn:Sl)(M1 X2 N3 A8 A9:Sl)(c:List Int)(k:Nat)(hk:k < c.length)(x:Int)(h0:0<=x)(hr:rows[x.toNat]? = some row)(h6:row.length<=6) :
  ni (Pn::M1::X2::N3::.val (.lst (c.map D.int))::.val (.int x)::.lol (tags rows.length)::.val (.int (k:Int))::A8::A9::gho rows)=some (.nx,Pn::M1::X2::N3::.val (.lst (c.map D.int))::.val (.int x)::.lol (tags rows.length)::.val (.int (k:Int))::A8::A9::gho (rows.set x.toNat (row++[prd c k]))):=by
 have ey:=atu hk;have er:=aoa (a0:=Pn) (a1:=M1) (a2:=X2) (a3:=N3) (a4:=.val (.lst (c.map D.int))) (a7:=.val (.int (k:Int))) (a8:=A8) (a9:=A9) (rows:=rows) (row:=row) (r:=x) h0 hr;have ew:=atw (a0:=Pn) (a1:=M1) (a2:=X2) (a3:=N3) (a4:=.val (.lst (c.map D.int))) (a5:=.val (.int x)) (a6:=.lol (tags rows.length)) (a7:=.val (.int (k:Int))) (a8:=A8) (a9:=A9) hr;have es:=ak8 (a0:=Pn) (a1:=M1) (a2:=X2) (a3:=N3) (a4:=.val (.lst (c.map D.int))) (a5:=.val (.int x)) (a6:=.lol (tags rows.length)) (a7:=.val (.int (k:Int))) (a8:=A8) (a9:=A9) hr (row++[prd c k]);have ea:(ak (M.d (mOp gIx (cg 4 (M.d (mOp (gInt fSub) (cg 7 (ret (.int 1)))))))) mNil) (Pn::M1::X2::N3::.val (.lst (c.map D.int))::.val (.int x)::.lol (tags rows.length)::.val (.int (k:Int))::A8::A9::gho rows)=some (.ok [.int (prd c k)],Pn::M1::X2::N3::.val (.lst (c.map D.int))::.val (.int x)::.lol (tags rows.length)::.val (.int (k:Int))::A8::A9::gho rows):=by
  generalize tags rows.length=tt at *;generalize gho rows=gg at *;generalize c.map D.int=sl at *;simp[ey]
 have eg:acb (row.map D.int) [.int (prd c k)]=some (.non,(row++[prd c k]).map D.int):=by
  have:(row.map D.int).length < capS:=by rw[List.length_map];exact Nat.lt_of_le_of_lt h6 (by decide)
  rw[akr,if_pos this,List.map_append];rfl
 have em:(akg (mRow 6 10 (mVar 5)) acb (ak (M.d (mOp gIx (cg 4 (M.d (mOp (gInt fSub) (cg 7 (ret (.int 1)))))))) mNil)) (Pn::M1::X2::N3::.val (.lst (c.map D.int))::.val (.int x)::.lol (tags rows.length)::.val (.int (k:Int))::A8::A9::gho rows)=some (.ok .non,Pn::M1::X2::N3::.val (.lst (c.map D.int))::.val (.int x)::.lol (tags rows.length)::.val (.int (k:Int))::A8::A9::gho (rows.set x.toNat (row++[prd c k]))):=by
  unfold akg;rw[bind_eq er,bind_eq ea,bind_eq ew,eg];rw[bind_eq (show lift (some (D.non,(row++[prd c k]).map D.int)) _=some (.ok (D.non,(row++[prd c k]).map D.int),_) from rfl),bind_eq es]
  rfl
 unfold ni;rw[amc,aw3];unfold M.v;rw[bind_eq em];rfl
theorem a1v(P:Int×Int)(T:Option Nat)(M1 X2 N3 A4 A8:Sl)(c:List Int)(k:Nat)(hk:k < c.length)(x:Int)(h0:0<=x)(hr:rows[x.toNat]? = some row)(h6:row.length<=6) :
  ∃(P':Int×Int) (row':List Int),row'.Perm (prd c k::row)/\qz (.own T (pen P)::M1::X2::N3::A4::.val (.int x)::.lol (tags rows.length)::.val (.int (k:Int))::A8::.val (.lst (c.map D.int))::gho rows)=some (.nx,.own T (pen P')::M1::X2::N3::A4::.val (.int x)::.lol (tags rows.length)::.val (.int (k:Int))::A8::.val (.lst (c.map D.int))::gho (rows.set x.toNat row')):=by
 have ey:=atu hk;obtain⟨q,P2,e2,q0,q1⟩:=jm P (((row.map D.int).length:Int)+1) (by omega) (by rw[List.length_map];omega)
 obtain⟨row',ei,hp⟩:=ape row q (prd c k);refine⟨P2,row',hp,?_⟩;have er:=aoa (a0:=.own T (pen P)) (a1:=M1) (a2:=X2) (a3:=N3) (a4:=A4) (a7:=.val (.int (k:Int))) (a8:=A8) (a9:=.val (.lst (c.map D.int))) (rows:=rows) (row:=row) (r:=x) h0 hr;have ev:=atk (a0:=.own T (pen P)) (a1:=M1) (a2:=X2) (a3:=N3) (a4:=A4) (a5:=.val (.int x)) (a6:=.lol (tags rows.length)) (a7:=.val (.int (k:Int))) (a8:=A8) (a9:=.val (.lst (c.map D.int))) hr;have eo:mOne (mPtB (mRow 6 10 (mVar 5))) (.own T (pen P)::M1::X2::N3::A4::.val (.int x)::.lol (tags rows.length)::.val (.int (k:Int))::A8::.val (.lst (c.map D.int))::gho rows)=some (.ok [.lst (row.map D.int)],.own T (pen P)::M1::X2::N3::A4::.val (.int x)::.lol (tags rows.length)::.val (.int (k:Int))::A8::.val (.lst (c.map D.int))::gho rows):=by
  have e5:=(bind_eq (k:=fun g=>di g) er).trans ev
  unfold mOne mPtB;rw[bind_eq e5];rfl
 have ea:(ak (M.d (mFn f__law_draw [some 0,none] (dh 0 (bw (M.d (mOp gAdd (gq (M.d (gn (g1 gL9) (mOne (mPtB (mRow 6 10 (mVar 5)))))) (ret (.int 1))))) gm)))) (ak (M.d (mOp gIx (cg 9 (M.d (mOp (gInt fSub) (cg 7 (ret (.int 1)))))))) mNil)) (.own T (pen P)::M1::X2::N3::A4::.val (.int x)::.lol (tags rows.length)::.val (.int (k:Int))::A8::.val (.lst (c.map D.int))::gho rows)=some (.ok [.int q,.int (prd c k)],.own T (pen P2)::M1::X2::N3::A4::.val (.int x)::.lol (tags rows.length)::.val (.int (k:Int))::A8::.val (.lst (c.map D.int))::gho rows):=by
  clear ei
  generalize tags rows.length=tt at *;generalize gho rows=gg at *;generalize c.map D.int=sl at *;generalize row.map D.int=rr at *;simp[eo,e2,ey]
 have ew:=atw (a0:=.own T (pen P2)) (a1:=M1) (a2:=X2) (a3:=N3) (a4:=A4) (a5:=.val (.int x)) (a6:=.lol (tags rows.length)) (a7:=.val (.int (k:Int))) (a8:=A8) (a9:=.val (.lst (c.map D.int))) hr;have es:=ak8 (a0:=.own T (pen P2)) (a1:=M1) (a2:=X2) (a3:=N3) (a4:=A4) (a5:=.val (.int x)) (a6:=.lol (tags rows.length)) (a7:=.val (.int (k:Int))) (a8:=A8) (a9:=.val (.lst (c.map D.int))) hr row';have eg:aca (row.map D.int) [.int q,.int (prd c k)]=some (.non,row'.map D.int):=by
  rw[ako,if_pos ⟨by rw[List.length_map] at q1;omega,by rw[List.length_map] at q1;omega,by rw[List.length_map];exact Nat.lt_of_le_of_lt h6 (by decide)⟩,ei]
 have em:(akg (mRow 6 10 (mVar 5)) aca (ak (M.d (mFn f__law_draw [some 0,none] (dh 0 (bw (M.d (mOp gAdd (gq (M.d (gn (g1 gL9) (mOne (mPtB (mRow 6 10 (mVar 5)))))) (ret (.int 1))))) gm)))) (ak (M.d (mOp gIx (cg 9 (M.d (mOp (gInt fSub) (cg 7 (ret (.int 1)))))))) mNil))) (.own T (pen P)::M1::X2::N3::A4::.val (.int x)::.lol (tags rows.length)::.val (.int (k:Int))::A8::.val (.lst (c.map D.int))::gho rows)=some (.ok .non,.own T (pen P2)::M1::X2::N3::A4::.val (.int x)::.lol (tags rows.length)::.val (.int (k:Int))::A8::.val (.lst (c.map D.int))::gho (rows.set x.toNat row')):=by
  unfold akg;rw[bind_eq er,bind_eq ea,bind_eq ew,eg];rw[bind_eq (show lift (some (D.non,row'.map D.int)) _=some (.ok (D.non,row'.map D.int),_) from rfl),bind_eq es]
  rfl
 unfold qz;rw[amc,aw3];unfold M.v;rw[bind_eq em];rfl
end
def enA(i:Nat)(l:List D):List D:=l.mapIdx fun j d=>.tup [.int ((i+j:Nat):Int),d]
theorem ah1(i:Nat)(d:D)(l:List D):enA i (d::l)=.tup [.int (i:Int),d]::enA (i+1) l:=by
 unfold enA;rw[List.mapIdx_cons]
 congr 1
 congr 1
 funext j d
 rw[show i+(j+1)=i+1+j by omega]
theorem ah0(l:List D):aeh l=enA 0 l:=by
 unfold aeh enA
 congr 1
 funext j d
 rw[Nat.zero_add]
theorem ail{n:Nat}{rows:LL9}(h:RowOk n rows){j:Nat}{row':List Int}(h6:row'.length<=6)(hx:∀x∈row',0<=x/\x < (n:Int)):RowOk n (rows.set j row') :=
 ⟨by rw[List.length_set];exact h.len,fun r hr=>by
  rcases List.mem_or_eq_of_mem_set hr with z | rfl
  ·exact h.row r z
  ·exact⟨h6,hx⟩⟩
section
variable{n:Nat}{rows0:LL9}{c:List Int}(hc:∀x∈c,0<=x/\x < (n:Int))(nd:c.Nodup)(hz:rows0.length=n)(h5:∀x∈c,∀row,rows0[x.toNat]? = some row->row.length < 6)
include hc nd hz h5
theorem aoh{k:Nat}(hk:k < c.length):prd c k∈c:=by
 have hm:=Nat.mod_lt (k+c.length - 1) (show 0 < c.length by omega)
 unfold prd;rw[List.getD_eq_getElem?_getD,List.getElem?_eq_getElem hm];exact List.getElem_mem hm
theorem alk{k:Nat}{rows:LL9}(L:Lp rows0 c k rows)(hk:k < c.length):∃row,c.getD k 0=c[k]/\rows[(c.getD k 0).toNat]? = some row/\row.length < 6:=by
 have hkm:c.getD k 0=c[k]:=by rw[List.getD_eq_getElem?_getD,List.getElem?_eq_getElem hk];rfl
 have hx:=hc _ (List.getElem_mem hk);have hlt:(c.getD k 0).toNat < rows.length:=by rw[L.len,hz,hkm];omega
 refine⟨_,hkm,List.getElem?_eq_getElem hlt,?_⟩;obtain⟨r0,e1,e2,_⟩:=L.out _ _ (List.getElem?_eq_getElem hlt);have e0:(c.take k).count ((((c.getD k 0).toNat:Nat):Int))=0:=by
  rw[hkm,show((c[k].toNat:Nat):Int)=c[k] by omega]
  refine List.count_eq_zero.mpr fun z =>?_
  obtain⟨i,hi,e⟩:=List.mem_iff_getElem.mp z;rw[List.getElem_take] at e;have hi:i < k:=by simp at hi;omega
  exact List.pairwise_iff_getElem.mp nd i k (by omega) hk hi e
 rw[e2,e0];exact h5 _ (by rw[hkm];exact List.getElem_mem hk) r0 e1
theorem azk(hn:n<=6)(Pn M1 X2 N3 A8 A9:Sl):∀(rs:List Int) (k:Nat),k<=c.length->c.drop k=rs->∀(rows:LL9),Lp rows0 c k rows->RowOk n rows->∀o5 o7:Sl,tagB o5=true->tagB o7=true ->
  ∃(rows':LL9) (o5' o7':Sl),forD (bTup 2 (ji (bu 7) (ji (bu 5) bNil))) ni (enA k (rs.map D.int)) (Pn::M1::X2::N3::.val (.lst (c.map D.int))::o5::.lol (tags rows.length)::o7::A8::A9::gho rows)=some (.nx,Pn::M1::X2::N3::.val (.lst (c.map D.int))::o5'::.lol (tags rows'.length)::o7'::A8::A9::gho rows')/\Lp rows0 c c.length rows'/\RowOk n rows'/\tagB o5'=true/\tagB o7'=true
 | [],k,le,e,rows,L,h,o5,o7,t5,t7=>⟨rows,o5,o7,rfl,by
  have hk:k=c.length:=by have:=List.drop_eq_nil_iff.mp e;omega
  rw[<-hk];exact L,h,t5,t7⟩
 | x::rs,k,le,e,rows,L,h,o5,o7,t5,t7=>by
  have hk:k < c.length:=by
   apply Classical.byContradiction;intro z;rw[List.drop_eq_nil_iff.mpr (by omega)] at e
   cases e
  rw[List.drop_eq_getElem_cons hk] at e
  injection e with ex er
  obtain⟨row,hkm,hr,h6⟩:=alk hc nd hz h5 L hk;have L1:=L.step hk (fun x hx=>(hc x hx).1) nd hr (List.perm_append_singleton (prd c k) row)
  rw[hkm,ex] at hr L1;have h1:RowOk n (rows.set x.toNat (row++[prd c k])):=ail h (by simp;omega) fun z hz'=>by
   rcases List.mem_append.mp hz' with q | q
   ·exact(h.row row (List.mem_of_getElem? hr)).2 z q
   ·rw[List.mem_singleton.mp q];exact hc _ (aoh hc nd hz h5 hk)
  have t:=a1w (rows:=rows) (row:=row) Pn M1 X2 N3 A8 A9 c k hk x (by rw[<-ex];exact(hc _ (List.getElem_mem hk)).1) hr (by omega)
  obtain⟨rows2,o5',o7',e2,L2,h2⟩:=azk hn Pn M1 X2 N3 A8 A9 rs (k+1) (by omega) er _ L1 h1 (.val (.int x)) (.val (.int (k:Int))) rfl rfl
  refine⟨rows2,o5',o7',?_,L2,h2⟩;rw[List.map_cons,ah1,ju];have eb:(bTup 2 (ji (bu 7) (ji (bu 5) bNil))) (.tup [.int (k:Int),.int x]) (Pn::M1::X2::N3::.val (.lst (c.map D.int))::o5::.lol (tags rows.length)::o7::A8::A9::gho rows)=some (Pn::M1::X2::N3::.val (.lst (c.map D.int))::.val (.int x)::.lol (tags rows.length)::.val (.int (k:Int))::A8::A9::gho rows):=rfl;rw[eb];dsimp only;rw[t];rw[List.length_set] at e2;exact e2
theorem azj(hn:n<=6)(T:Option Nat)(M1 X2 N3 A4 A8:Sl):∀(rs:List Int) (k:Nat),k<=c.length->c.drop k=rs->∀(rows:LL9),Lp rows0 c k rows->RowOk n rows->∀(P:Int×Int) (o5 o7:Sl),tagB o5=true->tagB o7=true ->
  ∃(P':Int×Int) (rows':LL9) (o5' o7':Sl),forD (bTup 2 (ji (bu 7) (ji (bu 5) bNil))) qz (enA k (rs.map D.int)) (.own T (pen P)::M1::X2::N3::A4::o5::.lol (tags rows.length)::o7::A8::.val (.lst (c.map D.int))::gho rows)=some (.nx,.own T (pen P')::M1::X2::N3::A4::o5'::.lol (tags rows'.length)::o7'::A8::.val (.lst (c.map D.int))::gho rows')/\Lp rows0 c c.length rows'/\RowOk n rows'/\tagB o5'=true/\tagB o7'=true
 | [],k,le,e,rows,L,h,P,o5,o7,t5,t7=>⟨P,rows,o5,o7,rfl,by
  have hk:k=c.length:=by have:=List.drop_eq_nil_iff.mp e;omega
  rw[<-hk];exact L,h,t5,t7⟩
 | x::rs,k,le,e,rows,L,h,P,o5,o7,t5,t7=>by
  have hk:k < c.length:=by
   apply Classical.byContradiction;intro z;rw[List.drop_eq_nil_iff.mpr (by omega)] at e
   cases e
  rw[List.drop_eq_getElem_cons hk] at e
  injection e with ex er
  obtain⟨row,hkm,hr,h6⟩:=alk hc nd hz h5 L hk;rw[hkm,ex] at hr;obtain⟨P1,row',hp,t⟩:=a1v (rows:=rows) (row:=row) P T M1 X2 N3 A4 A8 c k hk x (by rw[<-ex];exact(hc _ (List.getElem_mem hk)).1) hr (by omega)
  have L1:=L.step hk (fun x hx=>(hc x hx).1) nd (by rw[hkm,ex];exact hr) hp
  rw[hkm,ex] at L1;have h1:RowOk n (rows.set x.toNat row'):=ail h (by rw[hp.length_eq];simp;omega) fun z hz'=>by
   rcases List.mem_cons.mp (hp.mem_iff.mp hz') with q | q
   ·rw[q];exact hc _ (aoh hc nd hz h5 hk)
   ·exact(h.row row (List.mem_of_getElem? hr)).2 z q
  obtain⟨P2,rows2,o5',o7',e2,L2,h2⟩:=azj hn T M1 X2 N3 A4 A8 rs (k+1) (by omega) er _ L1 h1 P1 (.val (.int x)) (.val (.int (k:Int))) rfl rfl
  refine⟨P2,rows2,o5',o7',?_,L2,h2⟩;rw[List.map_cons,ah1,ju];have eb:(bTup 2 (ji (bu 7) (ji (bu 5) bNil))) (.tup [.int (k:Int),.int x]) (.own T (pen P)::M1::X2::N3::A4::o5::.lol (tags rows.length)::o7::A8::.val (.lst (c.map D.int))::gho rows)=some (.own T (pen P)::M1::X2::N3::A4::.val (.int x)::.lol (tags rows.length)::.val (.int (k:Int))::A8::.val (.lst (c.map D.int))::gho rows):=rfl;rw[eb];dsimp only;rw[t];rw[List.length_set] at e2;exact e2
end
theorem a2o{rows:LL9}{n:Nat}(h:RowOk n rows)(hn:n<=6)(P:Int×Int)(T:Option Nat)(M1 X2 N3 A4 A7 A8:Sl)(r:Nat)(hr:r < n)(ss:List Int)(hs:ss.length<=10):∃(P':Int×Int) (ss':List Int),jo (.own T (pen P)::M1::X2::N3::A4::.val (.int (r:Int))::.lol (tags rows.length)::A7::A8::.own none (ss.map D.int)::gho rows)=some (.nx,.own T (pen P')::M1::X2::N3::A4::.val (.int (r:Int))::.lol (tags rows.length)::A7::A8::.own none (ss'.map D.int)::gho rows)/\(ss'=ss∨(ss'.Perm ((r:Int)::ss)/\∀row,rows[r]? = some row->row.length < 6)):=by
 have hl:=h.len;have hr':rows[r]? = some rows[r]:=List.getElem?_eq_getElem (by omega)
 have er:=aoa (a0:=.own T (pen P)) (a1:=M1) (a2:=X2) (a3:=N3) (a4:=A4) (a7:=A7) (a8:=A8) (a9:=.own none (ss.map D.int)) (rows:=rows) (row:=rows[r]) (r:=(r:Int)) (by omega) (by rw[Int.toNat_natCast];exact hr')
 have ev:=atk (a0:=.own T (pen P)) (a1:=M1) (a2:=X2) (a3:=N3) (a4:=A4) (a5:=.val (.int (r:Int))) (a6:=.lol (tags rows.length)) (a7:=A7) (a8:=A8) (a9:=.own none (ss.map D.int)) hr';have eo:mOne (mPtB (mRow 6 10 (mVar 5))) (.own T (pen P)::M1::X2::N3::A4::.val (.int (r:Int))::.lol (tags rows.length)::A7::A8::.own none (ss.map D.int)::gho rows)=some (.ok [.lst (rows[r].map D.int)],.own T (pen P)::M1::X2::N3::A4::.val (.int (r:Int))::.lol (tags rows.length)::A7::A8::.own none (ss.map D.int)::gho rows):=by
  rw[Int.toNat_natCast] at er;have e5:=(bind_eq (k:=fun g=>di g) er).trans ev
  unfold mOne mPtB;rw[bind_eq e5];rfl
 have hrl:(rows[r].map D.int).length=rows[r].length:=List.length_map ..
 by_cases c1:rows[r].length < 6
 ·have hc1:((rows[r].length:Nat):Int) < 6:=by omega
  obtain⟨w,P1,e1,w0,w1⟩:=jm P 2 (by decide) (by decide)
  by_cases c2:w=0
  ·obtain⟨q,P2,e2,q0,q1⟩:=jm P1 (((ss.map D.int).length:Int)+1) (by omega) (by rw[List.length_map];omega)
   obtain⟨ss',ei,hp⟩:=ape ss q (r:Int);have hcap:(ss.map D.int).length < capS:=by rw[List.length_map];exact Nat.lt_of_le_of_lt hs (by decide)
   have q63 : -9223372036854775808<=q/\q < 9223372036854775808:=by rw[List.length_map] at q1;omega
   refine⟨P2,ss',?_,.inr ⟨hp,fun row hrow =>?_⟩⟩
   ·generalize tags rows.length=tt at *;generalize gho rows=gg at *;generalize ss.map D.int=sl at *;generalize ss'.map D.int=sl' at *;simp[jo,eo,hrl,hc1,c2,e1,e2,ei,q63,hcap]
   ·rw[hr'] at hrow;cases hrow;exact c1
  ·refine⟨P1,ss,?_,.inl rfl⟩;generalize tags rows.length=tt at *;generalize gho rows=gg at *;generalize ss.map D.int=sl at *;simp[jo,eo,hrl,hc1,c2,e1]
 ·refine⟨P,ss,?_,.inl rfl⟩;have hc1:¬((rows[r].length:Nat):Int) < 6:=by omega
  generalize tags rows.length=tt at *;generalize gho rows=gg at *;generalize ss.map D.int=sl at *;simp[jo,eo,hrl,hc1]
theorem a2n{rows:LL9}{n:Nat}(h:RowOk n rows)(hn:n<=6)(P:Int×Int)(T:Option Nat)(M1 X2 N3 A4 A7 A8 o5:Sl)(t5:tagB o5=true):∃(P':Int×Int) (ss:List Int) (o5':Sl),forD (bu 5) jo (fc 0 n) (.own T (pen P)::M1::X2::N3::A4::o5::.lol (tags rows.length)::A7::A8::.own none []::gho rows)=some (.nx,.own T (pen P')::M1::X2::N3::A4::o5'::.lol (tags rows.length)::A7::A8::.own none (ss.map D.int)::gho rows)/\tagB o5'=true/\ss.Nodup/\(∀x∈ss,0<=x/\x < (n:Int))/\∀x∈ss,∀row,rows[x.toNat]? = some row->row.length < 6:=by
 have loop:=al2 (b:=bu 5) (g:=jo) (fun i ρ=>∃(P:Int×Int) (ss:List Int) (o5:Sl),ρ=(.own T (pen P)::M1::X2::N3::A4::o5::.lol (tags rows.length)::A7::A8::.own none (ss.map D.int)::gho rows:Ro)/\tagB o5=true/\ss.Nodup/\ss.length<=i/\∀x∈ss,0<=x/\x < (i:Int)/\∀row,rows[x.toNat]? = some row->row.length < 6)
  (l:=fc 0 n) (ρ:=.own T (pen P)::M1::X2::N3::A4::o5::.lol (tags rows.length)::A7::A8::.own none []::gho rows) 0 ⟨P,[],o5,rfl,t5,List.Pairwise.nil,Nat.le_refl _,fun _ z=>by cases z⟩ ?_
 ·obtain⟨ρ',e,P',ss,o5',rfl,tt,hnd,hl,hx⟩:=loop;have hrl:(fc 0 n).length=n:=by unfold fc;simp
  rw[hrl,Nat.zero_add] at hx;exact⟨P',ss,o5',e,tt,hnd,fun x hx'=>⟨(hx x hx').1,(hx x hx').2.1⟩,fun x hx'=>(hx x hx').2.2⟩
 ·rintro i d ρ hd ⟨P1,ss,o5,rfl,tt,hnd,hl,hx⟩
  rw[Nat.zero_add] at *;have hi:i < n:=by
   have:=(List.getElem?_eq_some_iff.mp hd).1;unfold fc at this
   simpa using this
  have ed:d=.int (i:Int):=by
   unfold fc at hd;rw[List.getElem?_map,List.getElem?_range hi] at hd
   simpa using hd.symm
  subst ed;obtain⟨P2,ss',e,hc⟩:=a2o h hn P1 T M1 X2 N3 A4 A7 A8 i hi ss (by omega)
  refine⟨_,_,rfl,.inl e,P2,ss',_,rfl,rfl,?_⟩;rcases hc with rfl | ⟨hp,hr⟩
  ·exact⟨hnd,by omega,fun x hx'=>⟨(hx x hx').1,by have:=(hx x hx').2.1;omega,(hx x hx').2.2⟩⟩
  ·refine⟨hp.nodup_iff.mpr (List.nodup_cons.mpr ⟨fun z =>?_,hnd⟩),by rw[hp.length_eq];simp;omega,fun x hx' =>?_⟩
   ·have:=(hx _ z).2.1;omega
   ·rcases List.mem_cons.mp (hp.mem_iff.mp hx') with rfl | z
    ·exact⟨by omega,by omega,by rw[Int.toNat_natCast];exact hr⟩
    ·exact⟨(hx x z).1,by have:=(hx x z).2.1;omega,(hx x z).2.2⟩
def More(rows rows':LL9):Prop:=∀(j:Nat) (r':List Int),rows'[j]? = some r'->∃r,rows[j]? = some r/\∀x∈r,x∈r'
theorem More.trans{a b c:LL9}(h:More a b)(k:More b c):More a c:=fun j r hr=>by
 obtain⟨r1,e1,s1⟩:=k j r hr;obtain⟨r2,e2,s2⟩:=h j r1 e1;exact⟨r2,e2,fun x hx=>s1 x (s2 x hx)⟩
theorem More.refl(a:LL9):More a a:=fun j r hr=>⟨r,hr,fun _ z=>z⟩
theorem ag4(n:Nat)(hn:n<=100):jq [.int (n:Int)]=some (fc 0 n):=by
 have:∀i:Int,jq [.int i]=if i.natAbs < 4611686018427387904 then some (fc 0 i.toNat) else none:=fun _=>rfl
 rw[this,if_pos (by omega)]
 simp
theorem a1u{n:Nat}(hn:n<=6){rows:LL9}(h:RowOk n rows)(b:Bal rows)(P:Int×Int)(T:Option Nat)(M1 X2 A4 A8 o5 o7 o9:Sl)(t5:tagB o5=true)(t7:tagB o7=true) :
  ∃(P':Int×Int) (rows':LL9) (o5' o7' o9':Sl),mz (.own T (pen P)::M1::X2::.val (.int (n:Int))::A4::o5::.lol (tags rows.length)::o7::A8::o9::gho rows)=some (.nx,.own T (pen P')::M1::X2::.val (.int (n:Int))::A4::o5'::.lol (tags rows'.length)::o7'::A8::o9'::gho rows')/\RowOk n rows'/\Bal rows'/\More rows rows'/\tagB o5'=true/\tagB o7'=true/\tagB o9'=true:=by
 obtain⟨P1,ss,o5a,e1,t5a,nd,hx,h5⟩:=a2n h hn P T M1 X2 (.val (.int (n:Int))) A4 o7 A8 o5 t5;obtain⟨P2,rows2,o5b,o7b,e2,L2,h2,t5b,t7b⟩:=azj hx nd h.len h5 hn T M1 X2 (.val (.int (n:Int))) A4 A8 ss 0 (Nat.zero_le _) rfl rows (Lp.start rows ss) h P1 o5a o7 t5a t7;refine⟨P2,rows2,o5b,o7b,.val (.lst (ss.map D.int)),?_,h2,L2.bal b,fun j r hr =>?_,t5b,t7b,rfl⟩
 ·rw[<-ah0] at e2;have hr:=ag4 n (by omega)
  generalize fc 0 n=RR at *;generalize tags rows2.length=tt2 at *;generalize gho rows2=gg2 at *;generalize tags rows.length=tt at *;generalize gho rows=gg at *
  clear L2 h5 hx nd
  generalize ss.map D.int=sl at *;simp[-zg,mz,hr,e1,e2]
 ·obtain⟨r0,e3,_,e4⟩:=L2.out j r hr;exact⟨r0,e3,e4⟩
theorem atl{n:Nat}(hn:n<=6)(T:Option Nat)(M1 X2 A4:Sl):∀(l:List Int) {rows:LL9},RowOk n rows->Bal rows->∀(P:Int×Int) (o5 o7 o8 o9:Sl),tagB o5=true->tagB o7=true->tagB o8=true->tagB o9=true ->
  ∃(P':Int×Int) (rows':LL9) (o5' o7' o8' o9':Sl),forD (bu 8) mz (l.map D.int) (.own T (pen P)::M1::X2::.val (.int (n:Int))::A4::o5::.lol (tags rows.length)::o7::o8::o9::gho rows)=some (.nx,.own T (pen P')::M1::X2::.val (.int (n:Int))::A4::o5'::.lol (tags rows'.length)::o7'::o8'::o9'::gho rows')/\RowOk n rows'/\Bal rows'/\More rows rows'/\tagB o5'=true/\tagB o7'=true/\tagB o8'=true/\tagB o9'=true
 | [],rows,h,b,P,o5,o7,o8,o9,t5,t7,t8,t9=>⟨P,rows,o5,o7,o8,o9,rfl,h,b,More.refl _,t5,t7,t8,t9⟩
 | tn::l,rows,h,b,P,o5,o7,o8,o9,t5,t7,t8,t9=>by
  obtain⟨P1,r1,p5,p7,p9,e1,h1,b1,m1,s5,s7,s9⟩:=a1u hn h b P T M1 X2 A4 (.val (.int tn)) o5 o7 o9 t5 t7;obtain⟨P2,r2,q5,q7,q8,q9,e2,h2,b2,m2,u⟩:=atl hn T M1 X2 A4 l h1 b1 P1 p5 p7 (.val (.int tn)) p9 s5 s7 rfl s9;refine⟨P2,r2,q5,q7,q8,q9,?_,h2,b2,m1.trans m2,u⟩;rw[List.map_cons,ju];have eb:(bu 8) (.int tn) (.own T (pen P)::M1::X2::.val (.int (n:Int))::A4::o5::.lol (tags rows.length)::o7::o8::o9::gho rows)=some (.own T (pen P)::M1::X2::.val (.int (n:Int))::A4::o5::.lol (tags rows.length)::o7::.val (.int tn)::o9::gho rows):=rfl;rw[eb];dsimp only;rw[e1];exact e2
theorem seq2{g1 g2:Sd}{ρ ρ':Ro}(h1:g1 ρ=some (.nx,ρ')):dSeq g1 g2 ρ=g2 ρ':=by simp[h1]
theorem aji:∀(l:List D) (ys:List (List D)) (o:Sl),∃o',compR (bu 0) my l ys [o]=some (.ok (ys++List.replicate l.length []),[o'])
 | [],ys,o=>⟨o,by simp[compR]⟩
 | d::l,ys,o=>by
  obtain⟨o',e⟩:=aji l (ys++[[]]) (.val d);refine⟨o',?_⟩;have er:my [.val d]=some (.ok (.fr []),[.val d]):=rfl;unfold compR;rw[xj];dsimp only;show(my.bind _) [.val d]=_;rw[bind_eq er];dsimp only;rw[e,List.append_assoc,List.length_cons,List.replicate_succ];rfl
theorem aws{a0 a1 a2 a3 a4 a5 a6 a7 a8 a9:Sl}:∀(rows:LL9),rows.length<=6->frzR 10 (tags rows.length) (a0::a1::a2::a3::a4::a5::a6::a7::a8::a9::gho rows)=some (rows.map fun r=>r.map D.int,a0::a1::a2::a3::a4::a5::a6::a7::a8::a9::List.replicate 6 .emp)
 | [],_=>by kernel_rfl
 | [_],_=>by kernel_rfl
 | [_,_],_=>by kernel_rfl
 | [_,_,_],_=>by kernel_rfl
 | [_,_,_,_],_=>by kernel_rfl
 | [_,_,_,_,_],_=>by kernel_rfl
 | [_,_,_,_,_,_],_=>by kernel_rfl
 | _::_::_::_::_::_::_::_,h=>by simp at h
theorem au7(n:Nat)(hn:n<=6){a0 a1 a2 a3 a4 a5 a6 a7 a8 a9:Sl}:setG ((List.replicate n ([]:List D)).map mkR) (List.take n [10,11,12,13,14,15]) 0 (a0::a1::a2::a3::a4::a5::a6::a7::a8::a9::List.replicate 6 .emp)=some (a0::a1::a2::a3::a4::a5::a6::a7::a8::a9::gho (List.replicate n [])):=by
 have:n=0∨n=1∨n=2∨n=3∨n=4∨n=5∨n=6:=by omega
 rcases this with rfl | rfl | rfl | rfl | rfl | rfl | rfl <;> kernel_rfl
theorem ao3(rows:LL9)(hl:∀r∈rows,r.length<=6):∃o,compD (bu 0) (ret true) nq ((rows.map fun r=>r.map D.int).map D.lst) [] [.emp]=some (.ok (hDs rows),[o]):=by
 have c:=ud (me:=nq) (rest:=[]) (f:=fun d=>match d with | .lst l=>.tup l | d=>d) (l:=(rows.map fun r=>r.map D.int).map D.lst) (ys:=[]) (s:=.emp) fun d hd=>by
  obtain⟨l,hl',rfl⟩:=List.mem_map.mp hd;simp[nq]
 refine⟨aeg .emp ((rows.map fun r=>r.map D.int).map D.lst),?_⟩
 rw[c,List.nil_append,List.map_map,List.map_map];rfl
theorem aj3(P:Int×Int)(m x:Int)(m1:1<=m)(m2:m<=6)(x0:0<=x)(x1:x<=6):∃qv P',f__law_rounds [.own (some 0) (pen P),.val (.int m),.val (.int x)]=some (.ok (.v (hD qv)),[.own (some 0) (pen P'),.val (.int m),.val (.int x)])/\RowOk qv.length qv/\1<=qv.length/\qv.length<=6/\Bal qv/\(∀r∈qv,r≠[])/\∀a b:Int,0<=a->a < (qv.length:Int)->0<=b->b < (qv.length:Int)->Rch qv a b:=by
 obtain⟨r0,P1,e1,r00,r01⟩:=jm P m (by omega) (by omega)
 obtain⟨n,hn⟩:∃n:Nat,(n:Int)=1+r0:=⟨(1+r0).toNat,by omega⟩
 have n1:1<=n:=by omega
 have n6:n<=6:=by omega
 have er:((List.range n).map fun(i:Nat)=>(0:Int)+(i:Nat)).map D.int=fc 0 n:=by
  unfold fc;rw[List.map_map];rfl
 obtain⟨P2,c,o5,e2,pc,t5⟩:=az3 (some 0) (.val (.int m)) (.val (.int x)) (.val (.int (n:Int))) (.emp::.emp::.emp::.emp::List.replicate 6 .emp) ((List.range n).map fun(i:Nat)=>(0:Int)+(i:Nat)) P1 [] .emp (fun r hr=>by
  obtain⟨i,hi,rfl⟩:=List.mem_map.mp hr;have:=List.mem_range.mp hi;omega) (by simp;omega) rfl
 rw[er] at e2;rw[List.append_nil] at pc;have cm:∀y:Int,y∈c↔0<=y/\y < (n:Int):=fun y=>by
  rw[pc.mem_iff];constructor
  ·intro h;obtain⟨i,hi,rfl⟩:=List.mem_map.mp h;have:=List.mem_range.mp hi;omega
  ·intro h;exact List.mem_map.mpr ⟨y.toNat,List.mem_range.mpr (by omega),by omega⟩
 have cn:c.Nodup:=pc.nodup_iff.mpr (by
  refine List.pairwise_map.mpr ?_;exact List.pairwise_lt_range.imp fun h z=>by omega)
 have cl:c.length=n:=by rw[pc.length_eq];simp
 have h0:RowOk n (List.replicate n []):=⟨by simp,fun r hr=>by
  rw[List.eq_of_mem_replicate hr];exact⟨by simp,fun _ z=>by cases z⟩⟩
 obtain⟨rows1,p5,p7,e3,L1,h1,s5,s7⟩:=azk (rows0:=List.replicate n []) (c:=c) (fun y hy=>(cm y).mp hy) cn (by simp) (fun y hy row hr=>by
  have:=List.mem_of_getElem? hr;rw[List.eq_of_mem_replicate this]
  decide) n6 (.own (some 0) (pen P2)) (.val (.int m)) (.val (.int x)) (.val (.int (n:Int))) .emp .emp c 0 (Nat.zero_le _) rfl _ (Lp.start _ c) h0 o5 .emp t5 rfl
 obtain⟨t0,P3,e4,t00,t01⟩:=jm P2 (x+1) (by omega) (by omega)
 have et:((List.range t0.toNat).map fun(i:Nat)=>(0:Int)+(i:Nat)).map D.int=fc 0 t0.toNat:=by
  unfold fc;rw[List.map_map];rfl
 obtain⟨P4,rows,q5,q7,q8,q9,e5,h5,b5,mo,u5,u7,u8,u9⟩:=atl n6 (some 0) (.val (.int m)) (.val (.int x)) (.val (.lst (c.map D.int))) ((List.range t0.toNat).map fun(i:Nat)=>(0:Int)+(i:Nat)) h1 (L1.bal (aw9 n)) P3 p5 p7 .emp .emp s5 s7 rfl rfl
 rw[et] at e5;have hl:=h5.len;obtain⟨o',ec⟩:=ao3 rows fun r hr=>(h5.row r hr).1
 have edge:∀i,i < c.length->prd c i∈dr rows (c.getD i 0):=fun i hi=>by
  have hci:c.getD i 0=c[i]:=by rw[List.getD_eq_getElem?_getD,List.getElem?_eq_getElem hi];rfl
  have hx:=(cm _).mp (List.getElem_mem hi);have hlt:(c.getD i 0).toNat < rows.length:=by rw[hci];omega
  obtain⟨r1,g1,g2⟩:=mo _ _ (List.getElem?_eq_getElem hlt);unfold dr;rw[List.getD_eq_getElem?_getD (l:=rows),List.getElem?_eq_getElem hlt];exact g2 _ (L1.edg i r1 hi hi g1)
 refine⟨rows,P4,?_,hl▸h5,by omega,by omega,b5,fun r hr z =>?_,fun a b a0 a1 b0 b1 =>?_⟩
 ·have hcR:=ag4 n (by omega)
  have hrl:(fc 0 n).length=n:=by unfold fc;simp
  have s1:dSet 3 (mOp gAdd (gq (ret (.int 1)) (M.d (mFn f__law_draw [some 0,some 1] (dh 0 (dh 1 gm)))))) (.own (some 0) (pen P)::.val (.int m)::.val (.int x)::.emp::.emp::.emp::.emp::.emp::.emp::.emp::List.replicate 6 .emp)=some (.nx,.own (some 0) (pen P1)::.val (.int m)::.val (.int x)::.val (.int (n:Int))::.emp::.emp::.emp::.emp::.emp::.emp::List.replicate 6 .emp):=by
   rw[hn];generalize List.replicate 6 Sl.emp=ee;simp[e1]
  have s2:dSet 4 (mLst mNil) (.own (some 0) (pen P1)::.val (.int m)::.val (.int x)::.val (.int (n:Int))::.emp::.emp::.emp::.emp::.emp::.emp::List.replicate 6 .emp)=some (.nx,.own (some 0) (pen P1)::.val (.int m)::.val (.int x)::.val (.int (n:Int))::.own none []::.emp::.emp::.emp::.emp::.emp::List.replicate 6 .emp):=by
   generalize List.replicate 6 Sl.emp=ee;simp
  have e2:forD (bu 5) j6 (fc 0 n) (.own (some 0) (pen P1)::.val (.int m)::.val (.int x)::.val (.int (n:Int))::.own none []::.emp::.emp::.emp::.emp::.emp::List.replicate 6 .emp)=some (.nx,.own (some 0) (pen P2)::.val (.int m)::.val (.int x)::.val (.int (n:Int))::.own none (c.map D.int)::o5::.emp::.emp::.emp::.emp::List.replicate 6 .emp):=e2;have s3:dFor (mGet jq (ak (mVar 3) mNil)) (bu 5) j6 (.own (some 0) (pen P1)::.val (.int m)::.val (.int x)::.val (.int (n:Int))::.own none []::.emp::.emp::.emp::.emp::.emp::List.replicate 6 .emp)=some (.nx,.own (some 0) (pen P2)::.val (.int m)::.val (.int x)::.val (.int (n:Int))::.own none (c.map D.int)::o5::.emp::.emp::.emp::.emp::List.replicate 6 .emp):=by
   clear e3 e5 ec
   generalize List.replicate 6 Sl.emp=ee at *;generalize fc 0 n=RR at *;generalize c.map D.int=sl at *;simp[-zg,hcR,e2]
  have c1:af9 [none] (mGet jq (ak (mVar 3) mNil)) (bu 0) my (.own (some 0) (pen P2)::.val (.int m)::.val (.int x)::.val (.int (n:Int))::.own none (c.map D.int)::o5::.emp::.emp::.emp::.emp::List.replicate 6 .emp)=some (.ok (List.replicate n []),.own (some 0) (pen P2)::.val (.int m)::.val (.int x)::.val (.int (n:Int))::.own none (c.map D.int)::o5::.emp::.emp::.emp::.emp::List.replicate 6 .emp):=by
   obtain⟨o',ecr⟩:=aji (fc 0 n) [] .emp;have ei:(mGet jq (ak (mVar 3) mNil)) (.own (some 0) (pen P2)::.val (.int m)::.val (.int x)::.val (.int (n:Int))::.own none (c.map D.int)::o5::.emp::.emp::.emp::.emp::List.replicate 6 .emp)=some (.ok (fc 0 n),.own (some 0) (pen P2)::.val (.int m)::.val (.int x)::.val (.int (n:Int))::.own none (c.map D.int)::o5::.emp::.emp::.emp::.emp::List.replicate 6 .emp):=by
    generalize List.replicate 6 Sl.emp=ee;generalize fc 0 n=RR at *;generalize c.map D.int=sl;simp[-zg,hcR]
   unfold af9;rw[bind_eq ei];rw[if_pos (show okJs _ [none]=true from rfl)]
   have el:lend (.own (some 0) (pen P2)::.val (.int m)::.val (.int x)::.val (.int (n:Int))::.own none (c.map D.int)::o5::.emp::.emp::.emp::.emp::List.replicate 6 .emp) [none] ([none].map fun(_:Option Nat)=>(none:Option D))=[.emp]:=rfl
   rw[el,ecr];dsimp only;rw[List.nil_append,hrl,if_pos (by rw[List.length_replicate];exact fj (by omega)),avb]
  have s4:dFor (mGet akp (ak (mVar 4) mNil)) (bTup 2 (ji (bu 7) (ji (bu 5) bNil))) ni (.own (some 0) (pen P2)::.val (.int m)::.val (.int x)::.val (.int (n:Int))::.own none (c.map D.int)::o5::.lol (tags n)::.emp::.emp::.emp::gho (List.replicate n []))=some (.nx,.own (some 0) (pen P2)::.val (.int m)::.val (.int x)::.val (.int (n:Int))::.val (.lst (c.map D.int))::p5::.lol (tags rows1.length)::p7::.emp::.emp::gho rows1):=by
   rw[<-ah0,List.length_replicate] at e3
   clear e2 s3 c1 e5 ec
   generalize tags n=tt at *;generalize gho (List.replicate n [])=gg at *;generalize tags rows1.length=tt1 at *;generalize gho rows1=gg1 at *;generalize c.map D.int=sl at *;simp[e3]
  have s5':dFor (mGet jq (ak (M.d (mFn f__law_draw [some 0,none] (dh 0 (bw (M.d (mOp gAdd (cg 2 (ret (.int 1))))) gm)))) mNil)) (bu 8) mz (.own (some 0) (pen P2)::.val (.int m)::.val (.int x)::.val (.int (n:Int))::.val (.lst (c.map D.int))::p5::.lol (tags rows1.length)::p7::.emp::.emp::gho rows1)=some (.nx,.own (some 0) (pen P4)::.val (.int m)::.val (.int x)::.val (.int (n:Int))::.val (.lst (c.map D.int))::q5::.lol (tags rows.length)::q7::q8::q9::gho rows):=by
   have hr2:jq [.int t0]=some (fc 0 t0.toNat):=by
    have:=ag4 t0.toNat (by omega)
    rwa[show((t0.toNat:Nat):Int)=t0 by omega] at this
   clear e2 s3 c1 e3 s4 ec
   generalize tags rows1.length=tt1 at *;generalize gho rows1=gg1 at *;generalize tags rows.length=tt at *;generalize gho rows=gg at *;generalize fc 0 t0.toNat=RR at *;generalize c.map D.int=sl at *;simp[-zg,e4,hr2,e5]
  have fz:∀k:Sd,dFrz 6 10 k (.own (some 0) (pen P4)::.val (.int m)::.val (.int x)::.val (.int (n:Int))::.val (.lst (c.map D.int))::q5::.lol (tags rows.length)::q7::q8::q9::gho rows)=k (.own (some 0) (pen P4)::.val (.int m)::.val (.int x)::.val (.int (n:Int))::.val (.lst (c.map D.int))::q5::.val (.lst ((rows.map fun r=>r.map D.int).map D.lst))::q7::q8::q9::List.replicate 6 .emp):=fun k=>by
   have ez:=aws (a0:=.own (some 0) (pen P4)) (a1:=.val (.int m)) (a2:=.val (.int x)) (a3:=.val (.int (n:Int))) (a4:=.val (.lst (c.map D.int))) (a5:=q5) (a6:=.lol (tags rows.length)) (a7:=q7) (a8:=q8) (a9:=q9) rows (by omega)
   unfold dFrz;rw[show((.own (some 0) (pen P4)::.val (.int m)::.val (.int x)::.val (.int (n:Int))::.val (.lst (c.map D.int))::q5::.lol (tags rows.length)::q7::q8::q9::gho rows:Ro):List Sl)[6]? = some (Sl.lol (tags rows.length)) from rfl]
   dsimp only;rw[ez];dsimp only;rw[show((.own (some 0) (pen P4)::.val (.int m)::.val (.int x)::.val (.int (n:Int))::.val (.lst (c.map D.int))::q5::.lol (tags rows.length)::q7::q8::q9::List.replicate 6 .emp:Ro):List Sl)[6]? = some (Sl.lol (tags rows.length)) from rfl]
   dsimp only;rw[if_pos rfl];rfl
  have ef:dRet (gn (g1 gT9) (ak (M.d (vm [none] (qe (mVar 6)) (bu 0) (ret true) nq)) mNil)) (.own (some 0) (pen P4)::.val (.int m)::.val (.int x)::.val (.int (n:Int))::.val (.lst (c.map D.int))::q5::.val (.lst ((rows.map fun r=>r.map D.int).map D.lst))::q7::q8::q9::List.replicate 6 .emp)=some (.ret (.v (hD rows)),.own (some 0) (pen P4)::.val (.int m)::.val (.int x)::.val (.int (n:Int))::.val (.lst (c.map D.int))::q5::.val (.lst ((rows.map fun r=>r.map D.int).map D.lst))::q7::q8::q9::List.replicate 6 .emp):=by
   have hcp:(hDs rows).length<=capS:=by unfold hDs;rw[List.length_map];exact fj (by omega)
   clear e2 s3 c1 e3 s4 s5' fz e5
   generalize List.replicate 6 Sl.emp=ee;generalize (rows.map fun r=>r.map D.int).map D.lst=HH at *
   generalize c.map D.int=sl;simp only[hD] at *;generalize hDs rows=hh at *;simp[ec,hcp]
  have tg0:((.own (some 0) (pen P2)::.val (.int m)::.val (.int x)::.val (.int (n:Int))::.own none (c.map D.int)::o5::.emp::.emp::.emp::.emp::List.replicate 6 .emp:Ro):List Sl).all tagB=true:=by
   show(true&&(true&&(true&&(true&&(true&&(tagB o5&&true))))))=true;rw[t5];rfl
  have tg1:(offs (.own (some 0) (pen P4)::.val (.int m)::.val (.int x)::.val (.int (n:Int))::.val (.lst (c.map D.int))::q5::.val (.lst ((rows.map fun r=>r.map D.int).map D.lst))::q7::q8::q9::List.replicate 6 .emp) [6,10,11,12,13,14,15]:List Sl).all tagB=true:=by
   show(true&&(true&&(true&&(true&&(true&&(tagB q5&&(true&&(tagB q7&&(tagB q8&&(tagB q9&&true))))))))))=true;rw[u5,u7,u8,u9];rfl
  have eg:zc (.own (some 0) (pen P)::.val (.int m)::.val (.int x)::.emp::.emp::.emp::.emp::.emp::.emp::.emp::List.replicate 6 .emp)=some (.ret (.v (hD rows)),offs (.own (some 0) (pen P4)::.val (.int m)::.val (.int x)::.val (.int (n:Int))::.val (.lst (c.map D.int))::q5::.val (.lst ((rows.map fun r=>r.map D.int).map D.lst))::q7::q8::q9::List.replicate 6 .emp) [6,10,11,12,13,14,15]):=by
   unfold zc;rw[seq2 s1,seq2 s2,seq2 s3];unfold dLol;rw[aw3,c1];dsimp only;rw[if_pos ⟨tg0,by rw[List.length_replicate];exact n6⟩,List.length_replicate]
   have sa:=au7 n n6 (a0:=.own (some 0) (pen P2)) (a1:=.val (.int m)) (a2:=.val (.int x)) (a3:=.val (.int (n:Int))) (a4:=.own none (c.map D.int)) (a5:=o5) (a6:=.lol (tags n)) (a7:=.emp) (a8:=.emp) (a9:=.emp);have sa':setG ((List.replicate n ([]:List D)).map mkR) (List.take n [10,11,12,13,14,15]) 0 (List.set (.own (some 0) (pen P2)::.val (.int m)::.val (.int x)::.val (.int (n:Int))::.own none (c.map D.int)::o5::.emp::.emp::.emp::.emp::List.replicate 6 .emp) 6 (.lol ((List.range n).map fun j=>1000+j)))=_:=sa
   rw[sa'];dsimp only;rw[seq2 s4,seq2 s5',fz,ef];dsimp only;rw[if_pos tg1]
  unfold f__law_rounds;rw[at9];rw[show([.own (some 0) (pen P),.val (.int m),.val (.int x)]++List.replicate (16 - 3) Sl.emp:Ro)=.own (some 0) (pen P)::.val (.int m)::.val (.int x)::.emp::.emp::.emp::.emp::.emp::.emp::.emp::List.replicate 6 .emp from rfl]
  rw[eg];rfl
 ·subst z;obtain⟨j,hj,ej⟩:=List.mem_iff_getElem.mp hr;have:((j:Nat):Int)∈c:=(cm _).mpr (by omega)
  obtain⟨i,hi,ei⟩:=List.mem_iff_getElem.mp this;have e:=edge i hi;rw[List.getD_eq_getElem?_getD,List.getElem?_eq_getElem hi] at e;have e:prd c i∈dr rows c[i]:=e;rw[ei] at e;unfold dr at e;rw[Int.toNat_natCast,List.getD_eq_getElem?_getD,List.getElem?_eq_getElem hj,ej] at e;cases e
 ·exact aoc (fun z=>by rw[z] at cl;simp at cl;omega) edge (fun y hy=>((cm y).mp hy).1) a ((cm a).mpr ⟨a0,by omega⟩) b ((cm b).mpr ⟨b0,by omega⟩)
structure Tr (qv:LL9):Prop where
 hs:Hs qv
 six:qv.length<=6
 sh:amt qv=true
 bal:balB qv=true
 jn:am7 qv=true
theorem axp{qv:LL9}(h:RowOk qv.length qv)(n1:1<=qv.length)(n6:qv.length<=6)(b:Bal qv)(ne:∀r∈qv,r≠[])(j:∀a b:Int,0<=a->a < (qv.length:Int)->0<=b->b < (qv.length:Int)->Rch qv a b):Tr qv:=by
 have hs:Hs qv:=⟨n1,by omega,fun r hr=>⟨List.length_pos_iff.mpr (ne r hr),(h.row r hr).1,fun x hx=>by have:=(h.row r hr).2 x hx;omega⟩⟩
 refine⟨hs,n6,?_,?_,?_⟩
 ·rw[aii hs,List.all_eq_true];intro x hx;obtain⟨r,hr,hx⟩:=List.mem_flatten.mp hx;exact decide_eq_true ((h.row r hr).2 x hx).1
 ·unfold balB;rw[List.all_eq_true];intro q hq;obtain⟨i,hi⟩:=List.mem_iff_getElem?.mp hq;rw[List.getElem?_mapIdx] at hi;cases e:qv[i]? with
  | none=>rw[e] at hi;cases hi
  | some r =>
   rw[e] at hi;have hi:decide (((qv.flatten.count (i:Int):Nat):Int)=(r.length:Int))=q:=by simpa using hi
   rw[<-hi,b i r e];simp
 ·unfold am7;rw[List.all_eq_true];intro i hi;have hi:=List.mem_range.mp hi;obtain⟨cs,_,c⟩:=abd hs (a:=(i:Int)) (by omega)
  have le:=rl_le hs (a:=(i:Int)) (by omega)
  have ge:qv.length<=rl qv (i:Int):=by
   rw[<-aj4 c];have q:=Stt.aqr qv.length (cs.map Int.toNat) fun k hk=>List.mem_map.mpr ⟨(k:Int),(c.mem _).mpr ⟨j _ _ (by omega) (by omega) (by omega) (by omega),by omega⟩,by omega⟩
   rwa[List.length_map] at q
  exact decide_eq_true (by omega)
section
variable{qv:LL9}(t:Tr qv)
include t
theorem amo:dg [.val (hD qv)]=some (.ok (.v .non),[.val (hD qv)]):=by
 have e1:=aky t.hs;have e2:=ao9 t.hs;rw[t.sh,t.bal] at e1;rw[t.jn] at e2;generalize hD qv=hh at *;simp[dg,vp,e1,e2]
end
def lu(qv:LL9):D->Bool
 | .tup [.int a,.int b]=>decide (0<=a/\a < (qv.length:Int))&&decide (0<=b/\b < ((dr qv a).length:Int))
 | _=>false
theorem auq(d:D):je [.val d,.val (.int 2),.val (.int 2)]=some (.ok (.v (.bl (match d with | .tup l=>decide (l.length=2) | _=>false))),[.val d,.val (.int 2),.val (.int 2)]):=by
 cases d with
 | tup l =>
  have e:(decide ((2:Int)<=(l.length:Int))&&decide ((l.length:Int)<=2))=decide (l.length=2):=by
   rw[Bool.eq_iff_iff];simp;omega
  dsimp only;rw[<-e];simp[je,qx,isTy]
 | _=>simp[je,qx,isTy]
section
variable{qv:LL9}(h:Hs qv)
include h
theorem am4(d:D):ie [.val (hD qv),.val d]=some (.ok (.v (.bl (lu qv d))),[.val (hD qv),.val d]):=by
 have e0:=auq d;cases d with
 | tup l =>
  match l with
  | []=>simp[ie,jw,lu] at e0 ⊢;simp[e0]
  | [p]=>simp[ie,jw,lu] at e0 ⊢;simp[e0]
  | p::q::r::l=>simp[ie,jw,lu] at e0 ⊢;simp[e0]
  | [p,q] =>
   have e1:=adv qv p;have i0:atI [p,q] 0=some p:=rfl;have i1:atI [p,q] 1=some q:=rfl;cases p with
   | int a =>
    by_cases ha:0<=a/\a < (qv.length:Int)
    ·have er:=adz ha.1 ha.2;have hw:uf 0 ((qv.length:Int) - 1) (.int a)=true:=by
      simp[uf];omega
     rw[hw] at e1;have e2:=ac0 q 0 (((dr qv a).length:Int) - 1);have hb:lu qv (.tup [.int a,q])=uf 0 (((dr qv a).length:Int) - 1) q:=by
      cases q with
      | int b =>
       show(decide (0<=a/\a < (qv.length:Int))&&decide (0<=b/\b < ((dr qv a).length:Int)))=_;rw[decide_eq_true ha,Bool.true_and,Bool.eq_iff_iff];simp[uf];omega
      | _=>rfl
     rw[hb];have hl:((dr qv a).map D.int).length=(dr qv a).length:=List.length_map ..
     simp only[hD] at *;generalize hDs qv=hh at *;generalize (dr qv a).map D.int=dd at *;generalize uf 0 (((dr qv a).length:Int) - 1) q=bb at *;simp[ie,jw,e0,e1,er,hl,e2,i0,i1]
    ·have hw:uf 0 ((qv.length:Int) - 1) (.int a)=false:=by
      simp[uf];omega
     rw[hw] at e1;have hb:lu qv (.tup [.int a,q])=false:=by
      cases q with
      | int b =>
       show(decide (0<=a/\a < (qv.length:Int))&&_)=_;rw[decide_eq_false ha];rfl
      | _=>rfl
     rw[hb];simp only[hD] at *;generalize hDs qv=hh at *;simp[ie,jw,e0,e1,i0]
   | _ =>
    have hw:∀p:D,(∀a,p≠.int a)->uf 0 ((qv.length:Int) - 1) p=false:=fun p hp=>by
     cases p with
     | int a=>exact absurd rfl (hp a)
     | _=>rfl
    rw[hw _ (fun _ z=>by cases z)] at e1
    simp only[hD] at *;generalize hDs qv=hh at *;simp[ie,jw,lu,e0,e1,i0]
 | _=>simp[ie,jw,lu] at e0 ⊢;simp[e0]
end
def afv(l:List D):LL9:=(uw l).getD []
theorem ae9{qv:LL9}:∀{l:List D},l.all (lu qv)=true->∃rows:LL9,l=rows.map rowT/\∀r∈rows,∃a b:Int,r=[a,b]/\(0<=a/\a < (qv.length:Int))/\0<=b/\b < ((dr qv a).length:Int)
 | [],_=>⟨[],rfl,fun _ z=>by cases z⟩
 | d::l,h=>by
  rw[List.all_cons,Bool.and_eq_true] at h;obtain⟨rows,e,hr⟩:=ae9 h.2;have hd:=h.1;unfold lu at hd;split at hd
  ·rename_i a b;rw[Bool.and_eq_true,decide_eq_true_eq,decide_eq_true_eq] at hd;refine⟨[a,b]::rows,by rw[e];rfl,fun r hr' =>?_⟩
   rcases List.mem_cons.mp hr' with rfl | z
   ·exact⟨a,b,rfl,hd.1,hd.2⟩
   ·exact hr r z
  ·cases hd
def endR(qv:LL9)(r:List Int):Int:=(dr qv (r.getD 0 0)).getD (r.getD 1 0).toNat 0
def abu(qv rows:LL9):Bool:=decide ((rows.map (endR qv)).drop (rows.length - 1)++(rows.map (endR qv)).take (rows.length - 1)=rows.map fun r=>r.getD 0 0)
def abv(qv:LL9):D->Bool
 | .lst l=>decide (l.length=qv.flatten.length)&&l.all (lu qv)&&decide (afv l).Nodup&&abu qv (afv l)
 | _=>false
theorem agq:∀(l ks:LL9),(l.foldl Stt.addL ks).length=ks.length+l.length↔l.Nodup/\∀x∈l,x∉ks
 | [],ks=>by simp
 | k::l,ks=>by
  rw[List.foldl_cons,List.nodup_cons];have le:=Stt.aeo l (Stt.addL ks k)
  by_cases q:k∈ks
  ·have e:Stt.addL ks k=ks:=if_pos q;rw[e] at le ⊢
   constructor
   ·intro z;rw[List.length_cons] at z;omega
   ·intro z;exact absurd q (z.2 k (List.mem_cons_self ..))
  ·have e:Stt.addL ks k=ks++[k]:=if_neg q;rw[e];have ih:=agq l (ks++[k]);rw[List.length_append,List.length_singleton] at ih;rw[List.length_cons,show ks.length+(l.length+1)=ks.length+1+l.length by omega,ih]
   constructor
   ·rintro⟨a,b⟩
    refine⟨⟨fun z=>b k z (by simp),a⟩,fun x hx =>?_⟩
    rcases List.mem_cons.mp hx with rfl | hx
    ·exact q
    ·exact fun z=>b x hx (List.mem_append_left _ z)
   ·rintro⟨⟨a,b⟩,c⟩
    refine⟨b,fun x hx z =>?_⟩
    rcases List.mem_append.mp z with z | z
    ·exact c x (List.mem_cons_of_mem _ hx) z
    ·rw[List.mem_singleton.mp z] at hx;exact a hx
section
variable{qv:LL9}(t:Tr qv)
include t
theorem ai4(l:List D):compD (bu 0) (ret true) ur l [] [.emp,.val (hD qv)]=some (.ok ((l.map (lu qv)).map D.bl),aeg .emp l::[.val (hD qv)]):=by
 rw[ud (f:=fun d=>.bl (lu qv d))]
 ·rw[List.nil_append,List.map_map];rfl
 ·intro d _;have e:=am4 t.hs d;generalize hD qv=hh at *;simp[ur,e]
theorem aur(th:D)(h:∀l,th≠.lst l)(hk:∀l,th≠.kst l):cz [.val (hD qv),.val th]=some (.ok (.v (.bl (abv qv th))),[.val (hD qv),.val th]):=by
 have e:=uy t.hs;generalize hq:hD qv=hh at *;cases th with
 | lst l=>exact absurd rfl (h l)
 | kst l=>exact absurd rfl (hk l)
 | _=>simp[cz,jt,isTy,abv]
theorem aqz(l:List D)(h:l.length≠qv.flatten.length):cz [.val (hD qv),.val (.lst l)]=some (.ok (.v (.bl (abv qv (.lst l)))),[.val (hD qv),.val (.lst l)]):=by
 have e:=uy t.hs;have hb:abv qv (.lst l)=false:=by
  show(decide (l.length=qv.flatten.length)&&_&&_&&_)=false;rw[decide_eq_false h];rfl
 rw[hb];have h':¬(l.length:Int)=(qv.flatten.length:Int):=by omega
 generalize qv.flatten.length=nn at *;generalize hD qv=hh at *;simp[cz,jt,isTy,e,h']
theorem an0(l:List D)(hz:l.length<=60)(h:l.length=qv.flatten.length)(hb:l.all (lu qv)=false):cz [.val (hD qv),.val (.lst l)]=some (.ok (.v (.bl (abv qv (.lst l)))),[.val (hD qv),.val (.lst l)]):=by
 have e:=uy t.hs;have ht:abv qv (.lst l)=false:=by
  show(decide (l.length=qv.flatten.length)&&l.all (lu qv)&&_&&_)=false;rw[hb,Bool.and_false];rfl
 rw[ht];have ec:=ai4 t l;have ea:gAll (.lst ((l.map (lu qv)).map D.bl))=some (.v (.bl false)):=by
  rw[ac4,yq];show some (Rv.v (D.bl ((l.map (lu qv)).all id)))=_;rw[List.all_map,<-hb];rfl
 have hc:((l.map (lu qv)).map D.bl).length<=capS:=by rw[List.length_map,List.length_map];exact fj (by omega)
 have h':(l.length:Int)=(qv.flatten.length:Int):=by omega
 rw[<-h'] at e;generalize (l.map (lu qv)).map D.bl=BB at *;generalize hD qv=hh at *;simp[cz,jt,isTy,e,ec,ea,hc]
end
theorem amd(l:List D):cutD l (some (-1)) none=l.drop (l.length - 1):=by
 have e:HT.sIx l.length 0 (some (-1))=l.length - 1:=by
  unfold HT.sIx;simp;omega
 have e2:HT.sIx l.length l.length none=l.length:=rfl;unfold cutD;rw[e,e2];exact List.take_of_length_le (by simp)
theorem ajg(l:List D):cutD l none (some (-1))=l.take (l.length - 1):=by
 have e:HT.sIx l.length l.length (some (-1))=l.length - 1:=by
  unfold HT.sIx;simp;omega
 have e2:HT.sIx l.length 0 none=0:=rfl;unfold cutD;rw[e,e2];simp
theorem abk{α:Type}{me:M D}{rest:Ro}{u v f:α->D}:∀{l:List α} {ys:List D} {s t:Sl},(∀p∈l,me (.val (u p)::.val (v p)::rest)=some (.ok (f p),.val (u p)::.val (v p)::rest))->∃s' t',compD (bTup 2 (ji (bu 0) (ji (bu 1) bNil))) (ret true) me (l.map fun p=>D.tup [u p,v p]) ys (s::t::rest)=some (.ok (ys++l.map f),s'::t'::rest)
 | [],ys,s,t,_=>⟨s,t,by simp[compD]⟩
 | p::l,ys,s,t,h=>by
  have h1:=h p (List.mem_cons_self ..);obtain⟨s',t',ih⟩:=abk (me:=me) (rest:=rest) (u:=u) (v:=v) (f:=f) (l:=l) (ys:=ys++[f p]) (s:=.val (u p)) (t:=.val (v p)) fun x hx=>h x (List.mem_cons_of_mem _ hx)
  exact⟨s',t',by simp[compD,h1,ih]⟩
def Lv(qv:LL9)(r:List Int):Prop:=∃a b:Int,r=[a,b]/\(0<=a/\a < (qv.length:Int))/\0<=b/\b < ((dr qv a).length:Int)
theorem aq7{a b:LL9}(h:a.map rowT=b.map rowT):a=b:=by
 have:=congrArg uw h;rw[mq,mq] at this;exact Option.some.inj this
theorem a3h{qv rows:LL9}(h:(rows.map rowT).all (lu qv)=true):∀r∈rows,Lv qv r:=by
 obtain⟨rows',e,hr⟩:=ae9 h;rw[aq7 e];exact hr
theorem awd{qv:LL9}{r:List Int}(h:Lv qv r):lu qv (rowT r)=true:=by
 obtain⟨a,b,rfl,ha,hb⟩:=h;show(decide (0<=a/\a < (qv.length:Int))&&decide (0<=b/\b < ((dr qv a).length:Int)))=true;rw[decide_eq_true ha,decide_eq_true hb];rfl
theorem alr{qv rows:LL9}(h:∀r∈rows,Lv qv r):(rows.map rowT).all (lu qv)=true:=by
 rw[List.all_eq_true];intro d hd;obtain⟨r,hr,rfl⟩:=List.mem_map.mp hd;exact awd (h r hr)
theorem ank(f g:List Int->Int):∀l k:LL9,l.length=k.length->((List.zip l k).map fun p=>(f p.1==g p.2)).all id=decide (l.map f=k.map g)
 | [],[],_=>rfl
 | a::l,b::k,h=>by
  have ih:=ank f g l k (by simpa using h)
  rw[List.zip_cons_cons,List.map_cons,List.all_cons,ih,List.map_cons,List.map_cons]
  by_cases q:f a=g b
  ·simp[q]
  ·simp[q]
 | [],b::k,h=>by simp at h
 | a::l,[],h=>by simp at h
theorem zip_rows(A B:LL9):aep (A.map rowT) (B.map rowT)=(List.zip A B).map fun p=>D.tup [rowT p.1,rowT p.2]:=by
 unfold aep;rw[List.zipWith_map,List.zip,List.map_zipWith]
theorem rotD{n:Nat}(rows:LL9)(h:rows.length=n):cutD (rows.map rowT) (some (-1)) none=(rows.drop (n - 1)).map rowT/\cutD (rows.map rowT) none (some (-1))=(rows.take (n - 1)).map rowT:=by
 rw[amd,ajg,List.length_map,List.map_drop,List.map_take,h];exact⟨rfl,rfl⟩
section
variable{qv:LL9}(t:Tr qv)
include t
theorem azi{r:List Int}(h:Lv qv r):r∈Stt.prs:=by
 obtain⟨a,b,rfl,ha,hb⟩:=h;have h6:=t.six;have hd:=(t.hs.dr ha.1 ha.2).2.1;unfold Stt.prs;refine List.mem_flatMap.mpr ⟨a.toNat,List.mem_range.mpr (by omega),List.mem_map.mpr ⟨b.toNat,List.mem_range.mpr (by omega),?_⟩⟩
 rw[Int.toNat_of_nonneg ha.1,Int.toNat_of_nonneg hb.1]
omit t in
theorem aul{a b:Int}(hb:0<=b/\b < ((dr qv a).length:Int)):atI ((dr qv a).map D.int) b=some (.int (endR qv [a,b])):=ah8 hb.1 hb.2
omit t in
theorem a4f{r q:List Int}(h:Lv qv r)(h2:Lv qv q):nu [.val (rowT r),.val (rowT q),.val (hD qv)]=some (.ok (.bl (endR qv r==q.getD 0 0)),[.val (rowT r),.val (rowT q),.val (hD qv)]):=by
 obtain⟨a,b,rfl,ha,hb⟩:=h;obtain⟨c,d,rfl,hc,hd⟩:=h2;have e1:=adz ha.1 ha.2;have e2:=aul hb;have i0:atI [D.int a,.int b] 0=some (.int a):=rfl;have i1:atI [D.int a,.int b] 1=some (.int b):=rfl;have j0:atI [D.int c,.int d] 0=some (.int c):=rfl;have e3:([c,d]:List Int).getD 0 0=c:=rfl;rw[e3];simp only[rowT,List.map_cons,List.map_nil,hD];generalize endR qv [a,b]=ee at *;generalize hDs qv=hh at *;generalize (dr qv a).map D.int=dd at *;simp[nu,e1,e2,i0,i1,j0]
theorem anz(rows:LL9)(hl:rows.length=qv.flatten.length)(hv:∀r∈rows,Lv qv r):cz [.val (hD qv),.val (.lst (rows.map rowT))]=some (.ok (.v (.bl (decide rows.Nodup&&abu qv rows))),[.val (hD qv),.val (.lst (rows.map rowT))]):=by
 have e:=uy t.hs;have f6:=ahw t.hs;rw[<-hl] at f6 e;have ec:=ai4 t (rows.map rowT);have ea:gAll (.lst (((rows.map rowT).map (lu qv)).map D.bl))=some (.v (.bl true)):=by
  rw[ac4,yq];show some (Rv.v (D.bl (((rows.map rowT).map (lu qv)).all id)))=_;rw[List.all_map,<-alr hv];rfl
 have elp:=aso (rows:=rows) (by omega) fun r hr=>azi t (hv r hr)
 have hc:(((rows.map rowT).map (lu qv)).map D.bl).length<=capS:=by rw[List.length_map,List.length_map,List.length_map];exact fj (by omega)
 have hL:(rows.map rowT).length=rows.length:=List.length_map ..
 have an:=agq rows [];rw[List.length_nil,Nat.zero_add] at an
 by_cases nd:rows.Nodup
 ·have hn:=an.mpr ⟨nd,fun _ _=>by simp⟩
  rw[hn] at elp;rw[decide_eq_true nd,Bool.true_and];obtain⟨c1,c2⟩:=rotD rows rfl;have hA:(rows.drop (rows.length - 1)++rows.take (rows.length - 1)).length=rows.length:=by simp
  obtain⟨s',t',ez⟩:=abk (me:=nu) (rest:=[.val (hD qv)]) (u:=fun p:List Int×List Int=>rowT p.1) (v:=fun p=>rowT p.2) (f:=fun p=>.bl (endR qv p.1==p.2.getD 0 0)) (l:=List.zip (rows.drop (rows.length - 1)++rows.take (rows.length - 1)) rows) (ys:=[]) (s:=.emp) (t:=.emp) fun p hp=>by
   have h1:=(List.of_mem_zip hp).1;have h2:=(List.of_mem_zip hp).2;refine a4f (hv _ ?_) (hv _ h2);rcases List.mem_append.mp h1 with z | z
   ·exact List.mem_of_mem_drop z
   ·exact List.mem_of_mem_take z
  rw[<-zip_rows,List.map_append,List.nil_append] at ez;have ez2:gAll (.lst ((List.zip (rows.drop (rows.length - 1)++rows.take (rows.length - 1)) rows).map fun p=>D.bl (endR qv p.1==p.2.getD 0 0)))=some (.v (.bl (abu qv rows))):=by
   rw[ac4,akx];show some (Rv.v (D.bl (((List.zip _ rows).map fun p=>(endR qv p.1==p.2.getD 0 0)).all id)))=_
   rw[ank (endR qv) (fun r=>r.getD 0 0) _ _ hA,List.map_append,List.map_drop,List.map_take]
   rfl
  have hz:((List.zip (rows.drop (rows.length - 1)++rows.take (rows.length - 1)) rows).map fun p=>D.bl (endR qv p.1==p.2.getD 0 0)).length<=capS:=by
   rw[List.length_map,List.length_zip];exact fj (by omega)
  have hs:((rows.drop (rows.length - 1)).map rowT).length+((rows.take (rows.length - 1)).map rowT).length=rows.length:=by
   rw[<-List.length_append,<-List.map_append,List.length_map,hA]
  have hs2:rows.length<=capS:=fj (by omega)
  generalize ((List.zip (rows.drop (rows.length - 1)++rows.take (rows.length - 1)) rows).map fun p=>D.bl (endR qv p.1==p.2.getD 0 0))=ZZ at *
  generalize ((rows.map rowT).map (lu qv)).map D.bl=BB at *;generalize (rows.drop (rows.length - 1)).map rowT=L1 at *;generalize (rows.take (rows.length - 1)).map rowT=L2 at *;generalize rows.map rowT=LL at *;generalize abu qv rows=cb at *;generalize rows.length=nn at *;generalize hD qv=hh at *;simp[cz,jt,isTy,e,ec,ea,hc,elp,hL,c1,c2,ez,ez2,hz,hs,hs2]
 ·have hn:¬((rows.foldl Stt.addL []).length:Int)=(rows.length:Int):=fun z=>nd (an.mp (by omega)).1
  rw[decide_eq_false nd,Bool.false_and];generalize ((rows.map rowT).map (lu qv)).map D.bl=BB at *;generalize (rows.foldl Stt.addL []).length=ff at *;generalize rows.map rowT=LL at *;generalize rows.length=nn at *;generalize hD qv=hh at *;simp[cz,jt,isTy,e,ec,ea,hc,elp,hL,hn]
def Fair(th:D):Prop:=(∀l,th=.lst l->l.length<=60)/\∀l,th≠.kst l
theorem aus{th:D}(h:Fair th):kj [.val (hD qv),.val th]=some (.ok (.v (.bl (abv qv th))),[.val (hD qv),.val th]):=by
 have e:cz [.val (hD qv),.val th]=some (.ok (.v (.bl (abv qv th))),[.val (hD qv),.val th]):=by
  by_cases q:∃l,th=.lst l
  ·obtain⟨l,rfl⟩:=q
   by_cases hl:l.length=qv.flatten.length
   ·cases hb:l.all (lu qv) with
    | false=>exact an0 t l (h.1 l rfl) hl hb
    | true =>
     obtain⟨rows,rfl,hr⟩:=ae9 hb;have hl':rows.length=qv.flatten.length:=by rw[<-hl,List.length_map]
     rw[anz t rows hl' hr];have:abv qv (.lst (rows.map rowT))=(decide rows.Nodup&&abu qv rows):=by
      have er:afv (rows.map rowT)=rows:=by unfold afv;rw[mq];rfl
      show(decide ((rows.map rowT).length=qv.flatten.length)&&_&&decide (afv (rows.map rowT)).Nodup&&abu qv (afv (rows.map rowT)))=_;rw[er,hb,decide_eq_true hl];rfl
     rw[this]
   ·exact aqz t l hl
  ·exact aur t th (fun l z=>q ⟨l,z⟩) h.2
 have e0:=amo t;generalize abv qv th=bb at *;generalize hD qv=hh at *;simp[kj,afg,e,e0]
end
def rowR(i:Nat)(r:List Int):LL9:=(List.range r.length).map fun(d:Nat)=>[((i:Nat):Int),((d:Nat):Int)]
def jr:Nat->LL9->LL9
 | _,[]=>[]
 | i,r::rs=>rowR i r++jr (i+1) rs
theorem ag2(i:Nat)(r:List Int):(rowR i r).length=r.length:=by unfold rowR;simp
theorem amb:∀(rs:LL9) (k:Nat),(jr k rs).length=rs.flatten.length
 | [],_=>rfl
 | r::rs,k=>by
  show(rowR k r++jr (k+1) rs).length=_;rw[List.length_append,ag2,amb rs,List.flatten_cons,List.length_append]
theorem apu:∀(rs:LL9) (k:Nat) (x:List Int),x∈jr k rs↔∃(i d:Nat) (r:List Int),rs[i]? = some r/\d < r.length/\x=[((k+i:Nat):Int),((d:Nat):Int)]
 | [],k,x=>by simp[jr]
 | r::rs,k,x=>by
  show x∈rowR k r++jr (k+1) rs↔_;rw[List.mem_append,apu rs];constructor
  ·rintro(h | ⟨i,d,q,h1,h2,h3⟩)
   ·obtain⟨d,hd,rfl⟩:=List.mem_map.mp h;exact⟨0,d,r,rfl,List.mem_range.mp hd,rfl⟩
   ·exact⟨i+1,d,q,by simpa using h1,h2,by rw[h3,show k+1+i=k+(i+1) by omega]⟩
  ·rintro⟨i,d,q,h1,h2,h3⟩
   cases i with
   | zero =>
    have h1:r=q:=by simpa using h1
    subst h1;exact .inl (List.mem_map.mpr ⟨d,List.mem_range.mpr h2,h3.symm⟩)
   | succ i=>exact .inr ⟨i,d,q,by simpa using h1,h2,by rw[h3,show k+1+i=k+(i+1) by omega]⟩
theorem ao0{a b c d:Int}(h:a < c∨(a=c/\b < d)):Kst.lexB [a,b] [c,d]=true:=by
 unfold Kst.lexB;rcases h with h | ⟨rfl,h⟩
 ·rw[if_neg (by omega)]
  exact decide_eq_true h
 ·rw[if_pos rfl];unfold Kst.lexB;rw[if_neg (by omega)]
  exact decide_eq_true h
theorem aw2:∀(rs:LL9) (k:Nat),(jr k rs).Pairwise fun a b=>Kst.lexB a b=true
 | [],_=>.nil
 | r::rs,k=>by
  show(rowR k r++jr (k+1) rs).Pairwise _;rw[List.pairwise_append];refine⟨?_,aw2 rs (k+1),fun a ha b hb =>?_⟩
  ·unfold rowR;rw[List.pairwise_map];exact List.pairwise_lt_range.imp fun h=>ao0 (.inr ⟨rfl,by omega⟩)
  ·obtain⟨d,_,rfl⟩:=List.mem_map.mp ha;obtain⟨i,e,q,_,_,rfl⟩:=(apu rs (k+1) b).mp hb;exact ao0 (.inl (by omega))
theorem a0f(qv:LL9)(x:List Int):x∈jr 0 qv↔Lv qv x:=by
 rw[apu];constructor
 ·rintro⟨i,d,r,h1,h2,rfl⟩
  have hi:=(List.getElem?_eq_some_iff.mp h1).1;have:dr qv ((0+i:Nat):Int)=r:=by
   unfold dr;rw[Int.toNat_natCast,Nat.zero_add,List.getD_eq_getElem?_getD,h1];rfl
  exact⟨_,_,rfl,by omega,by omega,by rw[this];omega⟩
 ·rintro⟨a,b,rfl,ha,hb⟩
  have hi:a.toNat < qv.length:=by omega
  refine⟨a.toNat,b.toNat,qv[a.toNat],List.getElem?_eq_getElem hi,?_,?_⟩
  ·have:dr qv a=qv[a.toNat]:=by
    unfold dr;rw[List.getD_eq_getElem?_getD,List.getElem?_eq_getElem hi];rfl
   rw[this] at hb;omega
  ·rw[Nat.zero_add,Int.toNat_of_nonneg ha.1,Int.toNat_of_nonneg hb.1]
theorem ama(rs:LL9)(k:Nat):(jr k rs).Nodup:=(aw2 rs k).imp fun{a b} h z=>by
 subst z;have:=Kst.ab5 a a h;rw[h] at this;cases this
theorem alj:∀{a k:LL9},a.Nodup->(∀x∈a,x∈k)->a.length<=k.length
 | [],k,_,_=>Nat.zero_le _
 | x::r,k,hn,h=>by
  have hx:=h x (List.mem_cons_self ..);have h1:r.length<=(k.erase x).length:=alj (List.Pairwise.of_cons hn) fun y hy=>by
   have hne:y≠x:=fun e=>(List.pairwise_cons.mp hn).1 y hy e.symm
   exact(List.mem_erase_of_ne hne).mpr (h y (List.mem_cons_of_mem _ hy))
  rw[List.length_erase_of_mem hx] at h1;have:=List.length_pos_of_mem hx;rw[List.length_cons];omega
theorem af2(qv rows:LL9):wk rows=jr 0 qv↔rows.length=qv.flatten.length/\(∀r∈rows,Lv qv r)/\rows.Nodup:=by
 constructor
 ·intro e;have p:rows.Perm (jr 0 qv):=by rw[<-e];exact(uz rows).symm
  exact⟨by rw[p.length_eq,amb],fun r hr=>(a0f qv r).mp (p.mem_iff.mp hr),p.symm.nodup_iff.mp (ama qv 0)⟩
 ·rintro⟨hl,hv,nd⟩
  have sub:∀x∈rows,x∈jr 0 qv:=fun x hx=>(a0f qv x).mpr (hv x hx)
  have sub2:∀x∈jr 0 qv,x∈rows:=fun x hx=>by
   by_cases q:x∈rows
   ·exact q
   ·have h2:(x::rows).Nodup:=List.nodup_cons.mpr ⟨q,nd⟩;have:=alj h2 (k:=jr 0 qv) fun y hy=>by
     rcases List.mem_cons.mp hy with rfl | hy
     ·exact hx
     ·exact sub y hy
    rw[amb,List.length_cons] at this;omega
  have p:rows.Perm (jr 0 qv):=(List.perm_ext_iff_of_nodup nd (ama qv 0)).mpr fun x=>⟨sub x,sub2 x⟩
  exact akh ((uz rows).trans p) (ade rows) ((aw2 qv 0).imp fun h=>Kst.ab5 _ _ h)
theorem aje:∀(a b:LL9),eqDs (a.map rowT) (b.map rowT)=decide (a=b)
 | [],[]=>rfl
 | [],_::_=>rfl
 | _::_,[]=>rfl
 | x::r,y::t=>by
  show(eqD (.tup (x.map D.int)) (.tup (y.map D.int))&&eqDs (r.map rowT) (t.map rowT))=_;rw[apt,aje r t]
  by_cases h:x=y <;> simp[h]
theorem ay3(a:LL9):okD 30 (.lst (a.map rowT))=true:=by
 show(a.map rowT).all (okD 29)=true;rw[List.all_eq_true];intro d hd;obtain⟨r,_,rfl⟩:=List.mem_map.mp hd;exact ali 28 r
theorem awo(neg:Bool)(a b:LL9):gEq neg (.lst (a.map rowT)) (.lst (b.map rowT))=some (.v (.bl (if neg then !decide (a=b) else decide (a=b)))):=by
 have h3:eqD (.lst (a.map rowT)) (.lst (b.map rowT))=decide (a=b):=by
  rw[<-aje];exact ahy _ _
 simp only[gEq,ay3,h3];rfl
theorem agj(hh:Sl):∀(rs:LL9) (k:Nat) (X:LL9) (o2 o3:Sl),X.length+rs.flatten.length<=60->(∀r∈rs,r.length<=6)->∃o2' o3',forD (bTup 2 (ji (bu 2) (ji (bu 3) bNil))) ux (enA k (hDs rs)) [hh,.own none (X.map rowT),o2,o3]=some (.nx,[hh,.own none ((X++jr k rs).map rowT),o2',o3'])
 | [],k,X,o2,o3,_,_=>⟨o2,o3,by simp[jr,hDs,enA]⟩
 | r::rs,k,X,o2,o3,h,h6=>by
  have hr:=h6 r (List.mem_cons_self ..);rw[List.flatten_cons,List.length_append] at h;obtain⟨o2',o3',ih⟩:=agj hh rs (k+1) (X++rowR k r) (.val (.int (k:Int))) (.val (.tup (r.map D.int))) (by rw[List.length_append,ag2];omega) fun q hq=>h6 q (List.mem_cons_of_mem _ hq)
  refine⟨o2',o3',?_⟩;have ec:compD (bu 0) (ret true) zu (fc 0 r.length) [] [.emp,.val (.int (k:Int))]=some (.ok ((rowR k r).map rowT),aeg .emp (fc 0 r.length)::[.val (.int (k:Int))]):=by
   rw[ud (f:=fun d=>.tup [.int (k:Int),d])]
   ·rw[List.nil_append];unfold rowR fc;rw[List.map_map,List.map_map]
    congr 3
    apply List.map_congr_left;intro i _;simp[rowT]
   ·intro d _;simp[zu]
  have hc:((rowR k r).map rowT).length=r.length:=by rw[List.length_map,ag2]
  have hc1:r.length<=capS:=fj (by omega)
  have hc2:X.length+r.length<=capS:=fj (by omega)
  have hc3:(r.map D.int).length=r.length:=List.length_map ..
  have hX:(X.map rowT).length=X.length:=List.length_map ..
  have hn:r.length < 4611686018427387904:=by omega
  have st:ux [hh,.own none (X.map rowT),.val (.int (k:Int)),.val (.tup (r.map D.int))]=some (.nx,[hh,.own none ((X++rowR k r).map rowT),.val (.int (k:Int)),.val (.tup (r.map D.int))]):=by
   rw[List.map_append];generalize (rowR k r).map rowT=RR at *;generalize X.map rowT=XX at *;generalize r.map D.int=rr at *;simp[ux,hc3,hn,ec,hc,hc1,hX,hc2]
  have eh:hDs (r::rs)=.tup (r.map D.int)::hDs rs:=rfl;rw[eh,ah1,ju];have eb:(bTup 2 (ji (bu 2) (ji (bu 3) bNil))) (.tup [.int (k:Int),.tup (r.map D.int)]) [hh,.own none (X.map rowT),o2,o3]=some [hh,.own none (X.map rowT),.val (.int (k:Int)),.val (.tup (r.map D.int))]:=rfl;rw[eb];dsimp only;rw[st];dsimp only;rw[ih,List.append_assoc];rfl
theorem ad6{qv:LL9}(h:Hs qv)(f6:qv.flatten.length<=60):lg [.val (hD qv)]=some (.ok (.fr ((jr 0 qv).map rowT)),[.val (hD qv)]):=by
 obtain⟨o2,o3,e⟩:=agj (.val (hD qv)) qv 0 [] .emp .emp (by simpa using f6) fun r hr=>(h.room r hr).2.1
 rw[<-ah0,List.nil_append,List.map_nil] at e;have hc:(0:Nat)<=capS:=Nat.zero_le _;simp only[hD] at *;generalize hDs qv=hh at *;generalize (jr 0 qv).map rowT=dd at *;simp[lg,aec,e,hc]
def abo:D->Bool
 | .tup [p,q]=>aak p&&aak q
 | _=>false
theorem aiq:∀{l:List D},l.all abo=true->∃rows:LL9,l=rows.map rowT/\∀r∈rows,∃a b:Int,r=[a,b]
 | [],_=>⟨[],rfl,fun _ z=>by cases z⟩
 | d::l,h=>by
  rw[List.all_cons,Bool.and_eq_true] at h;obtain⟨rows,e,hr⟩:=aiq h.2;have hd:=h.1;unfold abo at hd;split at hd
  ·rename_i p q;rw[Bool.and_eq_true] at hd;cases p with
   | int a =>
    cases q with
    | int b =>
     refine⟨[a,b]::rows,by rw[e];rfl,fun r hr' =>?_⟩
     rcases List.mem_cons.mp hr' with rfl | z
     ·exact⟨a,b,rfl⟩
     ·exact hr r z
    | _=>cases hd.2
   | _=>cases hd.1
  ·cases hd
theorem ao2{qv:LL9}{d:D}(h:lu qv d=true):abo d=true:=by
 unfold lu at h;split at h
 ·rfl
 ·cases h
theorem am5{qv:LL9}{l:List D}(h:l.all abo=false):l.all (lu qv)=false:=by
 cases q:l.all (lu qv) with
 | false=>rfl
 | true =>
  have:l.all abo=true:=by
   rw[List.all_eq_true] at q ⊢
   exact fun d hd=>ao2 (q d hd)
  rw[h] at this;cases this
theorem aom(hh th o:Sl)(d:D):g8 [hh,th,.val d,o]=some (if abo d=true then .nx else .ret (.v (.bl false)),[hh,th,.val d,o]):=by
 cases d with
 | tup l =>
  match l with
  | []=>simp[g8,isTy,abo]
  | [p]=>simp[g8,isTy,abo]
  | p::q::r::l =>
   have:¬((l.length:Int)+1+1+1=2):=by omega
   simp[g8,isTy,abo,this]
  | [p,q] =>
   have e1:=ad5 p;have e2:=ad5 q;have hb:abo (.tup [p,q])=(aak p&&aak q):=rfl;rw[hb];generalize aak p=b1 at *;generalize aak q=b2 at *;have ec:compD (bu 0) (ret true) wj [p,q] [] [.emp]=some (.ok [.bl b1,.bl b2],[.val q]):=by simp[compD,wj,e1,e2]
   have ea:aai [.bl b1,.bl b2]=some [b1,b2]:=rfl;have hc:(2:Nat)<=capS:=by decide
   cases b1 <;> cases b2 <;> simp[g8,isTy,ec,ea,hc]
 | _=>simp[g8,isTy,abo]
theorem ae1(hh th o3:Sl):∀(l:List D) (o:Sl),∃o',forD (bu 2) g8 l [hh,th,o,o3]=some (if l.all abo=true then .nx else .ret (.v (.bl false)),[hh,th,o',o3])
 | [],o=>⟨o,by simp⟩
 | d::l,o=>by
  have st:=aom hh th o3 d;obtain⟨o',ih⟩:=ae1 hh th o3 l (.val d);cases q:abo d with
  | true =>
   rw[q,if_pos rfl] at st;refine⟨o',?_⟩;rw[ju];simp only[xj,List.set_cons_succ,List.set_cons_zero];rw[st];simp only[List.all_cons,q,Bool.true_and];exact ih
  | false =>
   rw[q,if_neg (by simp)] at st
   refine⟨.val d,?_⟩;rw[ju];simp only[xj,List.set_cons_succ,List.set_cons_zero];rw[st];simp[q]
theorem aq6{rows:LL9}(h:∀r∈rows,∃a b:Int,r=[a,b]):rows.map rowT=rows.map fun r=>D.tup [.int (r.getD 0 0),.int (r.getD 1 0)]:=by
 apply List.map_congr_left;intro r hr;obtain⟨a,b,rfl⟩:=h r hr;rfl
theorem rotI{n:Nat}(V:List Int)(h:V.length=n):cutD (V.map D.int) (some (-1)) none=(V.drop (n - 1)).map D.int/\cutD (V.map D.int) none (some (-1))=(V.take (n - 1)).map D.int:=by
 rw[amd,ajg,List.length_map,List.map_drop,List.map_take,h];exact⟨rfl,rfl⟩
section
variable{qv:LL9}(t:Tr qv)
include t
theorem azr(th:D)(h:∀l,th≠.lst l)(hk:∀l,th≠.kst l):fu [.val (hD qv),.val th]=some (.ok (.v (.bl false)),[.val (hD qv),.val th]):=by
 generalize hq:hD qv=hh at *;cases th with
 | lst l=>exact absurd rfl (h l)
 | kst l=>exact absurd rfl (hk l)
 | _=>simp[fu,nj,isTy]
theorem am6{l:List D}(h:l.all abo=false):fu [.val (hD qv),.val (.lst l)]=some (.ok (.v (.bl false)),[.val (hD qv),.val (.lst l)]):=by
 obtain⟨o',e⟩:=ae1 (.val (hD qv)) (.val (.lst l)) .emp l .emp;rw[h,if_neg (by simp)] at e
 generalize hq:hD qv=hh at *;simp[fu,nj,isTy,e]
theorem ar8(rows:LL9)(hz:rows.length<=60)(h2:∀r∈rows,∃a b:Int,r=[a,b]):fu [.val (hD qv),.val (.lst (rows.map rowT))]=some (.ok (.v (.bl (decide (wk rows=jr 0 qv)&&abu qv rows))),[.val (hD qv),.val (.lst (rows.map rowT))]):=by
 have f6:=ahw t.hs;have hp:(rows.map rowT).all abo=true:=by
  rw[List.all_eq_true];intro d hd;obtain⟨r,hr,rfl⟩:=List.mem_map.mp hd;obtain⟨a,b,rfl⟩:=h2 r hr;rfl
 obtain⟨o',e⟩:=ae1 (.val (hD qv)) (.val (.lst (rows.map rowT))) .emp (rows.map rowT) .emp;rw[hp,if_pos rfl] at e;have es:=ahq (rows:=rows) (by omega) fun r hr z=>by
  obtain⟨a,b,q⟩:=h2 r hr;rw[q] at z;cases z
 have ed:=ad6 t.hs f6;have eq:=awo true (wk rows) (jr 0 qv)
 by_cases q:wk rows=jr 0 qv
 ·obtain⟨hl,hv,nd⟩:=(af2 qv rows).mp q;rw[decide_eq_true q] at eq ⊢
  rw[Bool.true_and];obtain⟨s1,t1,c1⟩:=abk (me:=qm) (rest:=[.val (hD qv)]) (u:=fun r:List Int=>.int (r.getD 0 0)) (v:=fun r=>.int (r.getD 1 0)) (f:=fun r=>.int (endR qv r)) (l:=rows) (ys:=[]) (s:=.emp) (t:=.emp) fun r hr=>by
   obtain⟨a,b,rfl,ha,hb⟩:=hv r hr;have e1:=adz ha.1 ha.2;have e2:=aul hb;show qm [.val (.int a),.val (.int b),.val (hD qv)]=some (.ok (.int (endR qv [a,b])),[.val (.int a),.val (.int b),.val (hD qv)]);simp only[hD];generalize endR qv [a,b]=ee at *;generalize hDs qv=hh at *;generalize (dr qv a).map D.int=dd at *;simp[qm,e1,e2]
  obtain⟨s2,t2,c2⟩:=abk (me:=wg) (rest:=[]) (u:=fun r:List Int=>.int (r.getD 0 0)) (v:=fun r=>.int (r.getD 1 0)) (f:=fun r=>.int (r.getD 0 0)) (l:=rows) (ys:=[]) (s:=.emp) (t:=.emp) fun r hr=>by simp[wg]
  rw[<-aq6 h2,List.nil_append] at c1 c2;have m1:(rows.map fun r=>D.int (endR qv r))=(rows.map (endR qv)).map D.int:=by rw[List.map_map];rfl
  have m2:(rows.map fun r=>D.int (r.getD 0 0))=(rows.map fun r=>r.getD 0 0).map D.int:=by rw[List.map_map];rfl
  rw[m1] at c1;rw[m2] at c2;have hV:(rows.map (endR qv)).length=rows.length:=List.length_map ..
  obtain⟨r1,r2⟩:=rotI (rows.map (endR qv)) hV;have hs:((rows.map (endR qv)).drop (rows.length - 1)).length+((rows.map (endR qv)).take (rows.length - 1)).length=rows.length:=by
   rw[<-List.length_append];simp
  have hW:(rows.map fun r=>r.getD 0 0).length=rows.length:=List.length_map ..
  have hc:rows.length<=capS:=fj (by omega)
  have eg:=asq false ((rows.map (endR qv)).drop (rows.length - 1)++(rows.map (endR qv)).take (rows.length - 1)) (rows.map fun r=>r.getD 0 0)
  have hcb:abu qv rows=decide ((rows.map (endR qv)).drop (rows.length - 1)++(rows.map (endR qv)).take (rows.length - 1)=rows.map fun r=>r.getD 0 0):=rfl
  rw[hcb];rw[List.map_append] at eg;generalize decide ((rows.map (endR qv)).drop (rows.length - 1)++(rows.map (endR qv)).take (rows.length - 1)=rows.map fun r=>r.getD 0 0)=cb at *
  have hs':(((rows.map (endR qv)).drop (rows.length - 1)).map D.int).length+(((rows.map (endR qv)).take (rows.length - 1)).map D.int).length=rows.length:=by rw[List.length_map,List.length_map];exact hs
  have hV':((rows.map (endR qv)).map D.int).length=rows.length:=by rw[List.length_map];exact hV
  have hW':((rows.map fun r=>r.getD 0 0).map D.int).length=rows.length:=by rw[List.length_map];exact hW
  generalize ((rows.map (endR qv)).drop (rows.length - 1)).map D.int=V1 at *;generalize ((rows.map (endR qv)).take (rows.length - 1)).map D.int=V2 at *;generalize (rows.map (endR qv)).map D.int=VV at *;generalize (rows.map fun r=>r.getD 0 0).map D.int=WW at *
  generalize (wk rows).map rowT=SS at *;generalize (jr 0 qv).map rowT=DD at *;generalize rows.map rowT=LL at *;generalize rows.length=nn at *;generalize hD qv=hh at *;simp[fu,nj,isTy,e,es,ed,eq,c1,c2,r1,r2,hs',hV',hW',hc,eg]
 ·rw[decide_eq_false q] at eq ⊢
  rw[Bool.false_and];generalize (wk rows).map rowT=SS at *;generalize (jr 0 qv).map rowT=DD at *;generalize rows.map rowT=LL at *;generalize hD qv=hh at *;simp[fu,nj,isTy,e,es,ed,eq]
theorem afz{th:D}(h:Fair th):fu [.val (hD qv),.val th]=some (.ok (.v (.bl (abv qv th))),[.val (hD qv),.val th]):=by
 by_cases q:∃l,th=.lst l
 ·obtain⟨l,rfl⟩:=q;have hz:=h.1 l rfl;cases hp:l.all abo with
  | false =>
   rw[am6 t hp];have:abv qv (.lst l)=false:=by
    show(decide (l.length=qv.flatten.length)&&l.all (lu qv)&&_&&_)=false;rw[am5 hp,Bool.and_false];rfl
   rw[this]
  | true =>
   obtain⟨rows,rfl,h2⟩:=aiq hp;have hz':rows.length<=60:=by rwa[List.length_map] at hz
   rw[ar8 t rows hz' h2];have er:afv (rows.map rowT)=rows:=by unfold afv;rw[mq];rfl
   have:abv qv (.lst (rows.map rowT))=(decide (wk rows=jr 0 qv)&&abu qv rows):=by
    show(decide ((rows.map rowT).length=qv.flatten.length)&&(rows.map rowT).all (lu qv)&&decide (afv (rows.map rowT)).Nodup&&abu qv (afv (rows.map rowT)))=_;rw[er,List.length_map]
    congr 1
    rw[Bool.eq_iff_iff,Bool.and_eq_true,Bool.and_eq_true,decide_eq_true_eq,decide_eq_true_eq,decide_eq_true_eq,af2];constructor
    ·rintro⟨⟨a,b⟩,c⟩
     exact⟨a,a3h b,c⟩
    ·rintro⟨a,b,c⟩
     exact⟨⟨a,alr b⟩,c⟩
   rw[this]
 ·have:abv qv th=false:=by
   cases th with
   | lst l=>exact absurd ⟨l,rfl⟩ q
   | _=>rfl
  rw[this];exact azr t th (fun l z=>q ⟨l,z⟩) h.2
theorem ag3{th:D}(h:Fair th):jl [.val (hD qv),.val th]=some (.ok (.v (.bl true)),[.val (hD qv),.val th]):=by
 have e1:=aus t h;have e2:=afz t h;generalize abv qv th=bb at *;generalize hD qv=hh at *;simp[jl,aea,e1,e2,isTy]
end
section
variable{qv:LL9}(t:Tr qv)
include t
theorem a1x{k:Int}(h0:0<=k)(h1:k < (qv.length:Int)):∀x∈dr qv k,0<=x:=fun x hx=>by
 have hs:=t.sh;rw[aii t.hs,List.all_eq_true] at hs;have hk:k.toNat < qv.length:=by omega
 have e:dr qv k=qv[k.toNat]:=by simp[dr,hk]
 rw[e] at hx;exact of_decide_eq_true (hs x (List.mem_flatten.mpr ⟨_,List.getElem_mem hk,hx⟩))
theorem azn{as:List Int}(ha:Arr qv as){k:Int}(h0:0<=k)(h1:k < (qv.length:Int)):0<=led qv as k:=by
 obtain⟨a1,a2⟩:=ha.at h0 h1;have hk:(ar as k).toNat < (dr qv k).length:=by omega
 refine a1x t h0 h1 _ ?_;unfold led;rw[List.getD_eq_getElem?_getD,List.getElem?_eq_getElem hk];exact List.getElem_mem hk
theorem anu{as:List Int}(ha:Arr qv as){k:Int}(h0:0<=k)(h1:k < (qv.length:Int))(X:LL9)(hX:X.length<=900)(S1 S3 o6 o7:Sl):w6 [.val (hD qv),S1,.val (.int k),S3,.own none (as.map D.int),.own none (X.map rowT),o6,o7]=some (.nx,[.val (hD qv),S1,.val (.int (led qv as k)),S3,.own none ((gone qv as k).map D.int),.own none ((X++[[k,ar as k]]).map rowT),o6,.val (.int (led qv as k))]):=by
 have e1:=adz h0 h1;have e2:=atc t.hs ha h0 h1;have e3:=axc t.hs ha h0 h1;have e4:=apm t.hs ha h0 h1 (ar as k+1);have e5:ixN as.length k=some k.toNat:=ahl h0 (by rw[ha.len];exact h1)
 have hc:X.length < capS:=Nat.lt_of_le_of_lt hX (by decide)
 have hx:(X.map rowT).length=X.length:=List.length_map ..
 have hg:(gone qv as k).map D.int=(as.map D.int).set k.toNat (.int ((ar as k+1) % ((dr qv k).length:Int))):=by
  unfold gone;rw[List.map_set]
 have ht:(X++[[k,ar as k]]).map rowT=X.map rowT++[.tup [.int k,.int (ar as k)]]:=by rw[List.map_append];rfl
 have hd:((dr qv k).map D.int).length=(dr qv k).length:=List.length_map ..
 have hl:(as.map D.int).length=as.length:=List.length_map ..
 rw[hg,ht];simp only[hD];generalize (dr qv k).length=dl at *;generalize (dr qv k).map D.int=dd at *;generalize hDs qv=hh at *;generalize X.map rowT=XX at *;generalize led qv as k=ll at *;generalize ar as k=aa at *;generalize as.map D.int=A at *;have hc2:(2:Nat)<=capS:=by decide
 simp[w6,e1,e2,e3,e4,e5,hx,hc,hd,hl,hc2]
theorem aib(S1 S3:Sl):∀(ds:List D) {as:List Int} {k:Int} {X:LL9},Arr qv as->0<=k->k < (qv.length:Int)->X.length+ds.length<=900->(∀r∈X,Lv qv r)->∀o6 o7:Sl,∃(as':List Int) (k':Int) (X':LL9) (o6' o7':Sl),forD (bu 6) w6 ds [.val (hD qv),S1,.val (.int k),S3,.own none (as.map D.int),.own none (X.map rowT),o6,o7]=some (.nx,[.val (hD qv),S1,.val (.int k'),S3,.own none (as'.map D.int),.own none (X'.map rowT),o6',o7'])/\Arr qv as'/\(0<=k'/\k' < (qv.length:Int))/\X'.length=X.length+ds.length/\∀r∈X',Lv qv r
 | [],as,k,X,ha,h0,h1,hX,hv,o6,o7=>⟨as,k,X,o6,o7,rfl,ha,⟨h0,h1⟩,by simp,hv⟩
 | d::ds,as,k,X,ha,h0,h1,hX,hv,o6,o7=>by
  rw[List.length_cons] at hX;have st:=anu t ha h0 h1 X (by omega) S1 S3 (.val d) o7
  obtain⟨as',k',X',o6',o7',e,g1,g2,g3,g4⟩:=aib S1 S3 ds (asl t.hs ha h0 h1) (azn t ha h0 h1) (azo t.hs ha h0 h1).2 (X:=X++[[k,ar as k]]) (by simp;omega) (fun r hr=>by
   rcases List.mem_append.mp hr with z | z
   ·exact hv r z
   ·rw[List.mem_singleton.mp z];exact⟨_,_,rfl,⟨h0,h1⟩,ha.at h0 h1⟩) (.val d) (.val (.int (led qv as k)))
  refine⟨as',k',X',o6',o7',?_,g1,g2,by rw[g3];simp;omega,g4⟩
  rw[ju];simp only[xj,List.set_cons_succ,List.set_cons_zero];rw[st];exact e
theorem aia{as:List Int}(ha:Arr qv as){k:Int}(h0:0<=k)(h1:k < (qv.length:Int))(n:Nat)(hn:n<=900):∃(X:LL9) (as':List Int) (k':Int),km [.val (hD qv),.val (.tup (as.map D.int)),.val (.int k),.val (.int (n:Int))]=some (.ok (.v (.tup [.lst (X.map rowT),.tup (as'.map D.int),.int k'])),[.val (hD qv),.val (.tup (as.map D.int)),.val (.int k'),.val (.int (n:Int))])/\Arr qv as'/\(0<=k'/\k' < (qv.length:Int))/\X.length=n/\∀r∈X,Lv qv r:=by
 have hr:(fc 0 n).length=n:=by unfold fc;simp
 obtain⟨as',k',X',o6',o7',e,g1,g2,g3,g4⟩:=aib t (.val (.tup (as.map D.int))) (.val (.int (n:Int))) (fc 0 n) ha h0 h1 (X:=[]) (by rw[hr];simpa using hn) (fun _ z=>by cases z) .emp .emp
 rw[hr,List.length_nil,Nat.zero_add] at g3;rw[List.map_nil] at e;refine⟨X',as',k',?_,g1,g2,g3,g4⟩;have hna:n < 4611686018427387904:=by omega
 have hm:=t.hs.most;have hc1:(as'.map D.int).length<=capS:=by rw[List.length_map,g1.len];exact fj (by omega)
 have hc0:(0:Nat)<=capS:=Nat.zero_le _;have hc3:(3:Nat)<=capS:=by decide
 generalize as'.map D.int=A2 at *;generalize as.map D.int=A1 at *;generalize X'.map rowT=XX at *;generalize hD qv=hh at *;have hnt:((n:Nat):Int).toNat=n:=Int.toNat_natCast n;simp[km,afi,hna,e,hc0,hc1,hc3,hnt]
omit t in
theorem apl{a b:Int}(h:0<=a)(h':a<=1000):fMul a b=some (a*b):=by
 unfold fMul;rw[if_pos (.inl ⟨by omega,by omega⟩)]
theorem aua:qv.flatten.length<=36:=by
 have:∀l:LL9,(∀r∈l,r.length<=6)->l.flatten.length<=6*l.length:=fun l=>by
  induction l with
  | nil=>exact fun _=>by simp
  | cons r t ih =>
   intro hr;have:=ih fun q hq=>hr q (List.mem_cons_of_mem _ hq)
   have:=hr r (List.mem_cons_self ..);rw[List.flatten_cons,List.length_append,List.length_cons];omega
 have:=this qv fun r hr=>(t.hs.room r hr).2.1
 have:=t.six;omega
omit t in
theorem aq0{hh CC A0 A1 A2 Y1 Y2:List D}{N LL MM M2 k1 k2:Int}{o:Sl}(ec:compD (bu 0) (ret true) aa8 hh [] [.emp]=some (.ok CC,[o]))(hc:CC.length<=capS)(es:gSum (.lst CC)=some (.v (.int N)))(hL:(hh.length:Int)=LL)(m1:fMul 2 N=some M2)(m2:fMul M2 LL=some MM)
  (w1:km [.val (.tup hh),.val (.tup A0),.val (.int 0),.val (.int MM)]=some (.ok (.v (.tup [.lst Y1,.tup A1,.int k1])),[.val (.tup hh),.val (.tup A0),.val (.int k1),.val (.int MM)]))
  (w2:km [.val (.tup hh),.val (.tup A1),.val (.int k1),.val (.int N)]=some (.ok (.v (.tup [.lst Y2,.tup A2,.int k2])),[.val (.tup hh),.val (.tup A1),.val (.int k2),.val (.int N)])) :
  oh [.val (.tup hh),.val (.tup A0)]=some (.ok (.v (.lst Y2)),[.val (.tup hh),.val (.tup A0)]):=by
 have i0:∀a b c:D,atI [a,b,c] 0=some a:=fun _ _ _=>rfl
 simp[oh,afj,ec,hc,es,hL,m1,m2,w1,w2,i0]
theorem an1{as:List Int}(ha:Arr qv as):∃X:LL9,oh [.val (hD qv),.val (.tup (as.map D.int))]=some (.ok (.v (.lst (X.map rowT))),[.val (hD qv),.val (.tup (as.map D.int))])/\X.length=qv.flatten.length/\∀r∈X,Lv qv r:=by
 have f6:=aua t;have ec:compD (bu 0) (ret true) aa8 (hDs qv) [] [.emp]=some (.ok ((qv.map fun r=>((r.length:Nat):Int)).map D.int),aeg .emp (hDs qv)::[]):=ai2 t.hs
 have hc:=alp t.hs;have es:=alo (qv:=qv);have hL:=afe qv;have h6:=t.six;have h1:=t.hs.one;have hle:2*qv.flatten.length*qv.length<=900:=by
  have:=Nat.mul_le_mul (show 2*qv.flatten.length<=72 by omega) h6
  omega
 obtain⟨X1,as1,k1,w1,a1,⟨k10,k11⟩,_,_⟩:=aia t ha (k:=0) (by omega) (by omega) (2*qv.flatten.length*qv.length) hle
 obtain⟨X2,as2,k2,w2,a2,_,x2,v2⟩:=aia t a1 k10 k11 qv.flatten.length (by omega)
 refine⟨X2,?_,x2,v2⟩;have hcast:((2*qv.flatten.length*qv.length:Nat):Int)=2*(qv.flatten.length:Int)*(qv.length:Int):=by simp
 rw[hcast] at w1;have m1:=apl (a:=2) (b:=(qv.flatten.length:Int)) (by omega) (by omega)
 have m2:=apl (a:=2*(qv.flatten.length:Int)) (b:=(qv.length:Int)) (by omega) (by omega)
 exact aq0 ec hc es (by rw[hL]) m1 m2 w1 w2
end
theorem rm{l:List D}(h:l.length<=60):Fair (.lst l):=⟨fun k e=>by cases e;exact h,fun k e=>by cases e⟩
theorem ass(l:List D):Fair (.tup l):=⟨fun k e=>(by cases e),fun k e=>(by cases e)⟩
theorem ato{n d:Nat}{a:Int}(h0:0<=a):HT.sIx n d (some a)=min a.toNat n:=by
 unfold HT.sIx;simp;omega
theorem apw(l:List D){a:Int}(h0:0<=a):(cutD l none (some a)).length<=a.toNat:=by
 unfold cutD;rw[ato h0,List.length_take];omega
theorem ah2(l:List D){a:Int}(h0:0<=a):(cutD l (some a) none).length<=l.length - a.toNat:=by
 unfold cutD;rw[ato h0,List.length_take,List.length_drop];omega
theorem aqm{R:List D}{r:Int}(h0:0<=r)(h1:r < (R.length:Int)):∃d∈R,atI R r=some d:=⟨_,getD_mem (by omega),atd h0 h1⟩
section
variable{T odd:List D}{r1:Int}(h1:1<=T.length)(h36:T.length<=36)(a0:0<=r1)(a1:r1 < (T.length:Int))(ho:odd.length=7)
include h1 h36 a0 a1 ho
theorem aqk(P:Int×Int):∃Y P' o,compD (bu 0) (ret true) uc (fc 0 4) [] [.emp,.val (.lst T),.own (some 2) (pen P),.own (some 3) odd,.val (.int r1)]=some (.ok Y,[o,.val (.lst T),.own (some 2) (pen P'),.own (some 3) odd,.val (.int r1)])/\Y.length=4/\∀d∈Y,Fair d:=by
 have comp:=abb (b:=bu 0) (mc:=ret true) (me:=uc) (fun j ys ρ=>∃P o,ρ=[o,.val (.lst T),.own (some 2) (pen P),.own (some 3) odd,.val (.int r1)]/\ys.length=j/\∀d∈ys,Fair d)
  (l:=fc 0 4) (ys:=[]) (ρ:=[.emp,.val (.lst T),.own (some 2) (pen P),.own (some 3) odd,.val (.int r1)]) 0 ⟨P,.emp,rfl,rfl,fun _ z=>by cases z⟩ ?_
 ·obtain⟨ys,ρ',e,P',o,rfl,hl,hf⟩:=comp;exact⟨ys,P',o,e,by rw[hl];rfl,hf⟩
 ·rintro j d ys ρ hd ⟨P,o,rfl,hl,hf⟩
  obtain⟨r,P',e,b0,b1⟩:=jm P 7 (by decide) (by decide)
  obtain⟨x,hx,ex⟩:=aqm (R:=odd) b0 (by rw[ho];omega)
  have c1:=apw T a0;have c2:=ah2 T (a:=r1+1) (by omega)
  have hc1:(cutD T none (some r1)).length+1<=capS:=fj (by omega)
  have hc2:(cutD T none (some r1)).length+1+(cutD T (some (r1+1)) none).length<=capS:=fj (by omega)
  have hlen:(cutD T none (some r1)++x::cutD T (some (r1+1)) none).length<=60:=by
   rw[List.length_append,List.length_cons];omega
  have hc0:(1:Nat)<=capS:=by decide
  refine⟨_,_,true,rfl,rfl,.inr ⟨rfl,.lst (cutD T none (some r1)++x::cutD T (some (r1+1)) none),[.val d,.val (.lst T),.own (some 2) (pen P'),.own (some 3) odd,.val (.int r1)],?_,P',.val d,rfl,by simp[hl],?_⟩⟩
  ·generalize hp:cutD T none (some r1)=C1 at *;generalize hq:cutD T (some (r1+1)) none=C2 at *;have hc2':C1.length+1+C2.length<=capS:=hc2;show uc [.val d,.val (.lst T),.own (some 2) (pen P),.own (some 3) odd,.val (.int r1)]=_;simp[uc,e,ex,hp,hq,hc0,hc1,hc2']
  ·intro d' hd';rcases List.mem_append.mp hd' with z | z
   ·exact hf d' z
   ·rw[List.mem_singleton.mp z];exact rm hlen
end
theorem aqj{qv:LL9}(t:Tr qv)(P:Int×Int){T:List D}(h1:1<=T.length)(h36:T.length<=36)(hat:∀k,0<=k->k < (T.length:Int)->∃a b,atI T k=some (.tup [.int a,.int b])/\0<=a/\a < (qv.length:Int)):∃d P',f__law_bent [.own (some 0) (pen P),.val (hD qv),.val (.lst T)]=some (.ok (.v d),[.own (some 0) (pen P'),.val (hD qv),.val (.lst T)])/\Fair d:=by
 obtain⟨r1,P1,e1,a0,a1⟩:=jm P (T.length:Int) (by omega) (by omega)
 obtain⟨r2,P2,e2,b0,b1⟩:=jm P1 (T.length:Int) (by omega) (by omega)
 obtain⟨a,b,x1,ka,kb⟩:=hat r1 a0 a1;obtain⟨a',b',x2,_,_⟩:=hat r2 b0 b1;have er:=adz ka kb;have hd1:=(t.hs.dr ka kb).1;have fm:fMod (b+1) ((dr qv a).length:Int)=some ((b+1) % ((dr qv a).length:Int)):=by
  unfold fMod;rw[if_pos (by omega)]
 have hdl:((dr qv a).map D.int).length=(dr qv a).length:=List.length_map ..
 obtain⟨T',hT'⟩:∃T',T'=(T.set r1.toNat (.tup [.int a',.int b'])).set r2.toNat (.tup [.int a,.int b]):=⟨_,rfl⟩
 have hT'l:T'.length=T.length:=by rw[hT',List.length_set,List.length_set]
 have ix1:ixN T.length r1=some r1.toNat:=ahl a0 a1;have ix2:ixN T.length r2=some r2.toNat:=ahl b0 b1;obtain⟨odd,hodd⟩:∃odd:List D,odd=[.tup [.int a,.int ((b+1) % ((dr qv a).length:Int))],.tup [.int a,.bl true],.lst [.int a,.int b],.tup [.int a],.tup [.int a,.int b,.int 0],.non,.int a]:=⟨_,rfl⟩
 have ho:odd.length=7:=by rw[hodd];rfl
 obtain⟨Y,P3,o,ec,hY,fY⟩:=aqk h1 h36 a0 a1 ho P2;have c1:=apw T a0;have c2:=ah2 T (a:=r1+1) (by omega)
 obtain⟨R,hR⟩:∃R:List D,R=[.lst T',.lst (cutD T none (some r1)++cutD T (some (r1+1)) none),.lst (T++[.tup [.int a,.int b]]),.lst T.reverse,.tup T,.lst [.lst T]]:=⟨_,rfl⟩
 have hRl:R.length=6:=by rw[hR];rfl
 have fR:∀d∈R,Fair d:=by
  intro d hd;rw[hR] at hd;simp only[List.mem_cons,List.not_mem_nil,or_false] at hd;rcases hd with rfl | rfl | rfl | rfl | rfl | rfl
  ·exact rm (by omega)
  ·exact rm (by rw[List.length_append];omega)
  ·exact rm (by rw[List.length_append];simp;omega)
  ·exact rm (by rw[List.length_reverse];omega)
  ·exact ass T
  ·exact rm (by simp)
 obtain⟨r,P4,e4,q0,q1⟩:=jm P3 10 (by decide) (by decide)
 obtain⟨d,hd,ed⟩:=aqm (R:=R++Y) q0 (by rw[List.length_append,hRl,hY];exact q1)
 have fd:Fair d:=by
  rcases List.mem_append.mp hd with z | z
  ·exact fR d z
  ·exact fY d z
 refine⟨d,P4,?_,fd⟩;have k1:(1:Nat)<=capS:=by decide
 have k2:(2:Nat)<=capS:=by decide
 have k3:(3:Nat)<=capS:=by decide
 have k4:(4:Nat)<=capS:=by decide
 have k6:(6:Nat)<=capS:=by decide
 have k7:(7:Nat)<=capS:=by decide
 have k10:(10:Nat)<=capS:=by decide
 have kT:T.length+1<=capS:=fj (by omega)
 have kC:(cutD T none (some r1)).length+(cutD T (some (r1+1)) none).length<=capS:=fj (by omega)
 simp only[hD] at *;generalize hDs qv=hh at *;generalize (dr qv a).length=dl at *;generalize (dr qv a).map D.int=dd at *;have eg:ab9 [.own (some 0) (pen P),.val (.tup hh),.val (.lst T),.emp,.emp,.emp,.emp,.emp,.emp,.emp]=some (.ret (.v d),[.own (some 0) (pen P4),.val (.tup hh),.val (.lst T),.val (.int r1),.val (.int r2),.val (.int a),.val (.int b),.val (.lst T'),.own none odd,.own none (R++Y)]):=by
  unfold ab9;refine(seq2 (ρ':=[.own (some 0) (pen P2),.val (.tup hh),.val (.lst T),.val (.int r1),.val (.int r2),.emp,.emp,.emp,.emp,.emp]) (by simp[e1,e2,k2])).trans ?_
  refine(seq2 (ρ':=[.own (some 0) (pen P2),.val (.tup hh),.val (.lst T),.val (.int r1),.val (.int r2),.val (.int a),.val (.int b),.emp,.emp,.emp]) (by simp[x1])).trans ?_
  refine(seq2 (ρ':=[.own (some 0) (pen P2),.val (.tup hh),.val (.lst T),.val (.int r1),.val (.int r2),.val (.int a),.val (.int b),.own none T,.emp,.emp]) (by simp)).trans ?_
  refine(seq2 (ρ':=[.own (some 0) (pen P2),.val (.tup hh),.val (.lst T),.val (.int r1),.val (.int r2),.val (.int a),.val (.int b),.own none T',.emp,.emp]) (by simp[x1,x2,k2,bSub,ix1,ix2,hT'])).trans ?_
  refine(seq2 (ρ':=[.own (some 0) (pen P2),.val (.tup hh),.val (.lst T),.val (.int r1),.val (.int r2),.val (.int a),.val (.int b),.own none T',.own none odd,.emp]) (by simp[er,hdl,fm,k1,k2,k3,k7,hodd])).trans ?_
  refine(seq2 (ρ':=[.own (some 0) (pen P2),.val (.tup hh),.val (.lst T),.val (.int r1),.val (.int r2),.val (.int a),.val (.int b),.val (.lst T'),.own none odd,.own none R]) (by simp[x1,kC,kT,k1,k6,hR])).trans ?_
  refine(seq2 (ρ':=[.own (some 0) (pen P3),.val (.tup hh),.val (.lst T),.val (.int r1),.val (.int r2),.val (.int a),.val (.int b),.val (.lst T'),.own none odd,.own none (R++Y)]) (by simp[ec,hY,k4,hRl,k10])).trans ?_
  simp[e4,ed]
 unfold f__law_bent;rw[at9];rw[show([.own (some 0) (pen P),.val (.tup hh),.val (.lst T)]++List.replicate (10 - 3) Sl.emp:Ro)=[.own (some 0) (pen P),.val (.tup hh),.val (.lst T),.emp,.emp,.emp,.emp,.emp,.emp,.emp] from rfl]
 rw[eg];rfl
theorem ao7:zm [.val (.exn "NoTour" [])]=some (.ok (.v (.str "tour")),[.val (.exn "NoTour" [])]):=by kernel_rfl
theorem av3:("NoTour" : Str)∈NS:=List.contains_iff_mem.mp (by decide +kernel)
theorem af5{hh:D}(e:dg [.val hh]=some (.exc ⟨"NoTour", []⟩,[.val hh]))(th:D):jc [.val hh,.val th]=some (.ok (.v (.bl true)),[.val hh,.val th]):=by
 have e1:kj [.val hh,.val th]=some (.exc ⟨"NoTour", []⟩,[.val hh,.val th]):=by simp[kj,afg,e]
 have e2:=ao7;have e3:=av3;have e4:gEq false (.str "tour") (.str "tour")=some (.v (.bl true)):=by kernel_rfl
 simp[jc,abr,dTry,e1,e3,aa4,e2,e4]
def noH:List (LL9):=[[[-1]],[[0,-1]],[[0],[1]],[[1,1],[0]],[[1],[1]],[[1,0],[0,0]],[[1],[0],[2]]]
theorem af7:∀R∈noH,dg [.val (hD R)]=some (.exc ⟨"NoTour", []⟩,[.val (hD R)]):=by
 intro R hR;simp only[noH,List.mem_cons,List.not_mem_nil,or_false] at hR;rcases hR with rfl | rfl | rfl | rfl | rfl | rfl | rfl
 ·kernel_rfl
 ·kernel_rfl
 ·kernel_rfl
 ·kernel_rfl
 ·kernel_rfl
 ·kernel_rfl
 ·kernel_rfl
theorem acx(P:Int×Int):∃R P',f__law_no_house [.own (some 0) (pen P)]=some (.ok (.v (hD R)),[.own (some 0) (pen P')])/\R∈noH:=by
 obtain⟨r,P',e,h0,h1⟩:=jm P 7 (by decide) (by decide)
 obtain⟨d,hd,ed⟩:=aqm (R:=noH.map hD) h0 (by simpa[noH] using h1)
 obtain⟨R,hR,rfl⟩:=List.mem_map.mp hd;refine⟨R,P',?_,hR⟩;have hc1:(1:Nat)<=capS:=by decide
 have hc2:(2:Nat)<=capS:=by decide
 have hc3:(3:Nat)<=capS:=by decide
 have hc7:(7:Nat)<=capS:=by decide
 have ed:atI [.tup [.tup [.int (-1)]],.tup [.tup [.int 0,.int (-1)]],.tup [.tup [.int 0],.tup [.int 1]],.tup [.tup [.int 1,.int 1],.tup [.int 0]],.tup [.tup [.int 1],.tup [.int 1]],.tup [.tup [.int 1,.int 0],.tup [.int 0,.int 0]],.tup [.tup [.int 1],.tup [.int 0],.tup [.int 2]]] r=some (hD R):=ed;simp[f__law_no_house,aa5,e,ed,hc1,hc2,hc3,hc7]
theorem ak4{r:List Int}(h:r=[0]∨r=[0,0]):Tr [r]:=by
 have hb:Bal [r]:=fun i q e=>by
  cases i with
  | zero =>
   have e:r=q:=by simpa using e
   subst e;rcases h with rfl | rfl <;> rfl
  | succ i=>simp at e
 refine axp ?_ (Nat.le_refl 1) (show 1<=6 by decide) hb ?_ ?_
 ·rcases h with rfl | rfl
  ·exact⟨by decide,by decide⟩
  ·exact⟨by decide,by decide⟩
 ·rcases h with rfl | rfl <;> decide
 ·intro a b a0 a1 b0 b1;have ea:a=0:=by simp at a1;omega
  have eb:b=0:=by simp at b1;omega
  rw[ea,eb];exact .base
theorem apn{d:D}(h:match d with | .lst l=>decide (l.length<=60) | .kst _=>false | _=>true):Fair d:=by
 cases d with
 | lst l=>exact rm (of_decide_eq_true h)
 | kst l=>cases h
 | _=>exact⟨fun k e=>(by cases e),fun k e=>(by cases e)⟩
theorem arv(P:Int×Int):∃d P',f__law_odd [.own (some 0) (pen P)]=some (.ok (.v d),[.own (some 0) (pen P')])/\Fair d:=by
 obtain⟨r,P',e,h0,h1⟩:=jm P 16 (by decide) (by decide)
 have big:fPow 10 30=some 1000000000000000000000000000000:=by decide +kernel
 obtain⟨d,hd,ed⟩:=aqm (R:=[.non,.bl true,.bl false,.int (-1),.str "1", .str "", .tup [],.lst [],.tup [.int 0],.lst [.int 0],.dct [(Sum.inr "a", .int 1)],.tup [.int 0,.int 1],.int 1000000000000000000000000000000,.tup [.tup [.int 0]],.str "ab", .tup [.tup [.int (-1)],.tup [.int 0,.int 1]]]) h0 (by simpa using h1)
 have hc:(16:Nat)<=capS:=by decide
 refine⟨d,P',by simp[f__law_odd,agf,e,big,ed,hc],?_⟩
 simp only[List.mem_cons,List.not_mem_nil,or_false] at hd;rcases hd with rfl | rfl | rfl | rfl | rfl | rfl | rfl | rfl | rfl | rfl | rfl | rfl | rfl | rfl | rfl | rfl <;> exact apn rfl
section
variable{qv:LL9}(t:Tr qv)
include t
theorem ao5(a0 a2 a3 a5 a6 a7:Sl):∀(l:List D) (q:Sl),(∀d∈l,Fair d)->∃q',forD (bu 1) ai5 l [a0,q,a2,a3,.val (hD qv),a5,a6,a7]=some (.nx,[a0,q',a2,a3,.val (hD qv),a5,a6,a7])
 | [],q,_=>⟨q,rfl⟩
 | d::l,q,hd=>by
  have e1:=ag3 t (hd d (List.mem_cons_self ..));obtain⟨q',e⟩:=ao5 a0 a2 a3 a5 a6 a7 l (.val d) fun x hx=>hd x (List.mem_cons_of_mem _ hx)
  refine⟨q',?_⟩;generalize hD qv=hh at *;have es:ai5 [a0,.val d,a2,a3,.val hh,a5,a6,a7]=some (.nx,[a0,.val d,a2,a3,.val hh,a5,a6,a7]):=by simp[ai5,e1]
  rw[ju];simp only[xj,List.set_cons_succ,List.set_cons_zero];rw[es];exact e
theorem a4o(P:Int×Int){T:List D}(h1:1<=T.length)(h36:T.length<=36)(hat:∀k,0<=k->k < (T.length:Int)->∃a b,atI T k=some (.tup [.int a,.int b])/\0<=a/\a < (qv.length:Int)):∃Y P' o,compD (bu 0) (ret true) agi (fc 0 4) [] [.emp,.val (.lst T),.own (some 2) (pen P),.val (hD qv)]=some (.ok Y,[o,.val (.lst T),.own (some 2) (pen P'),.val (hD qv)])/\Y.length=4/\∀d∈Y,Fair d:=by
 have comp:=abb (b:=bu 0) (mc:=ret true) (me:=agi) (fun j ys ρ=>∃P o,ρ=[o,.val (.lst T),.own (some 2) (pen P),.val (hD qv)]/\ys.length=j/\∀d∈ys,Fair d)
  (l:=fc 0 4) (ys:=[]) (ρ:=[.emp,.val (.lst T),.own (some 2) (pen P),.val (hD qv)]) 0 ⟨P,.emp,rfl,rfl,fun _ z=>by cases z⟩ ?_
 ·obtain⟨ys,ρ',e,P',o,rfl,hl,hf⟩:=comp;exact⟨ys,P',o,e,by rw[hl];rfl,hf⟩
 ·rintro j d ys ρ hd ⟨P,o,rfl,hl,hf⟩
  obtain⟨x,P',e,fx⟩:=aqj t P h1 h36 hat;refine⟨_,_,true,rfl,rfl,.inr ⟨rfl,x,[.val d,.val (.lst T),.own (some 2) (pen P'),.val (hD qv)],?_,P',.val d,rfl,by simp[hl],?_⟩⟩
  ·show agi [.val d,.val (.lst T),.own (some 2) (pen P),.val (hD qv)]=_;generalize hD qv=hh at *;simp[agi,e]
  ·intro d' hd';rcases List.mem_append.mp hd' with z | z
   ·exact hf d' z
   ·rw[List.mem_singleton.mp z];exact fx
end
theorem azs{S hh R1 R2 od:D}{n r:Int}{v1 a3 a4 a5 a6 a7 q' o:Sl}{A T DD Y:List D}{P0 P1 P2 P3 P4 P5 P6 P7:Int×Int}(e0:f__law_pen [.val (.int n)]=some (.ok (.fr (pen P0)),[.val (.int n)]))
  (e1:f__law_rounds [.own (some 0) (pen P0),.val (.int 6),.val (.int 3)]=some (.ok (.v hh),[.own (some 0) (pen P1),.val (.int 6),.val (.int 3)]))
  (e2:f__law_drawn [.own (some 0) (pen P1),.val hh]=some (.ok (.v (.tup A)),[.own (some 0) (pen P2),.val hh]))
  (e3:oh [.val hh,.val (.tup A)]=some (.ok (.v (.lst T)),[.val hh,.val (.tup A)]))
  (e4:f__law_draw [.own (some 0) (pen P2),.val (.int (T.length:Int))]=some (.ok (.v (.int r)),[.own (some 0) (pen P3),.val (.int (T.length:Int))]))
  (e5:lg [.val hh]=some (.ok (.fr DD),[.val hh]))
  (e6:f__law_odd [.own (some 0) (pen P3)]=some (.ok (.v od),[.own (some 0) (pen P4)]))
  (hc:(cutD T (some r) none).length+(cutD T none (some r)).length<=capS)
  (e7:compD (bu 0) (ret true) agi (fc 0 4) [] [.emp,.val (.lst T),.own (some 2) (pen P4),.val hh]=some (.ok Y,[o,.val (.lst T),.own (some 2) (pen P5),.val hh])) (hY:Y.length=4)
  (e8:forD (bu 1) ai5 ([.lst T,.lst (cutD T (some r) none++cutD T none (some r)),.lst DD,od]++Y) [.val S,v1,.val (.int n),.own none (pen P5),.val hh,.val (.lst T),.val (.int r),.own none [.lst T,.lst (cutD T (some r) none++cutD T none (some r)),.lst DD,od]]=some (.nx,[.val S,q',.val (.int n),.own none (pen P5),.val hh,.val (.lst T),.val (.int r),.own none [.lst T,.lst (cutD T (some r) none++cutD T none (some r)),.lst DD,od]]))
  (e9:f__law_no_house [.own (some 0) (pen P5)]=some (.ok (.v R1),[.own (some 0) (pen P6)])) (e10:jc [.val R1,.val (.lst T)]=some (.ok (.v (.bl true)),[.val R1,.val (.lst T)]))
  (e11:f__law_no_house [.own (some 0) (pen P6)]=some (.ok (.v R2),[.own (some 0) (pen P7)])) (e12:jc [.val R2,.val .non]=some (.ok (.v (.bl true)),[.val R2,.val .non])) :
  l3_law [.val S,v1,.val (.int n),a3,a4,a5,a6,a7]=some (.nx,[.val S,q',.val (.int n),.own none (pen P7),.val hh,.val (.lst T),.val (.int r),.own none [.lst T,.lst (cutD T (some r) none++cutD T none (some r)),.lst DD,od]]):=by
 have k4:(4:Nat)<=capS:=by decide
 have k8:(8:Nat)<=capS:=by decide
 unfold l3_law;refine(seq2 (ρ':=[.val S,v1,.val (.int n),.own none (pen P0),a4,a5,a6,a7]) (by simp[e0])).trans ?_
 refine(seq2 (ρ':=[.val S,v1,.val (.int n),.own none (pen P1),.val hh,a5,a6,a7]) (by simp[e1])).trans ?_
 refine(seq2 (ρ':=[.val S,v1,.val (.int n),.own none (pen P2),.val hh,.val (.lst T),a6,a7]) (by simp[e2,e3])).trans ?_
 refine(seq2 (ρ':=[.val S,v1,.val (.int n),.own none (pen P3),.val hh,.val (.lst T),.val (.int r),a7]) (by simp[e4])).trans ?_
 refine(seq2 (ρ':=[.val S,v1,.val (.int n),.own none (pen P4),.val hh,.val (.lst T),.val (.int r),.own none [.lst T,.lst (cutD T (some r) none++cutD T none (some r)),.lst DD,od]]) (by simp[e5,e6,hc,k4])).trans ?_
 refine(seq2 (ρ':=[.val S,q',.val (.int n),.own none (pen P5),.val hh,.val (.lst T),.val (.int r),.own none [.lst T,.lst (cutD T (some r) none++cutD T none (some r)),.lst DD,od]]) ?_).trans ?_
 ·simp only[List.cons_append,List.nil_append] at e8;simp[e7,hY,k4,k8,e8]
 ·simp[e9,e10,e11,e12]
theorem a3l(S:D)(n:Int)(v1 a3 a4 a5 a6 a7:Sl):∃b1 b3 b4 b5 b6 b7,l3_law [.val S,v1,.val (.int n),a3,a4,a5,a6,a7]=some (.nx,[.val S,b1,.val (.int n),b3,b4,b5,b6,b7]):=by
 obtain⟨P0,e0⟩:=ark n;obtain⟨qv,P1,e1,ro,n1,n6,bal,ne,jn⟩:=aj3 P0 6 3 (by decide) (by decide) (by decide) (by decide)
 have t:Tr qv:=axp ro n1 (by omega) bal ne jn
 obtain⟨as,P2,e2,ha⟩:=ak0 P1 t.hs;obtain⟨X,e3,xl,xv⟩:=an1 t ha;have f36:=aua t;have hT:(X.map rowT).length=X.length:=List.length_map ..
 have hone:1<=qv.flatten.length:=by
  obtain⟨r,hr⟩:=List.exists_mem_of_length_pos (l:=qv) (by have:=t.hs.one;omega)
  have h1:=(t.hs.room r hr).1;obtain⟨x,hx⟩:=List.exists_mem_of_length_pos (l:=r) (by omega)
  exact List.length_pos_of_mem (List.mem_flatten.mpr ⟨r,hr,hx⟩)
 have hat:∀k,0<=k->k < ((X.map rowT).length:Int)->∃a b,atI (X.map rowT) k=some (.tup [.int a,.int b])/\0<=a/\a < (qv.length:Int):=fun k k0 k1=>by
  obtain⟨d,hd,ed⟩:=aqm k0 k1;obtain⟨r,hr,rfl⟩:=List.mem_map.mp hd;obtain⟨a,b,rfl,ka,_⟩:=xv r hr;exact⟨a,b,ed,ka.1,ka.2⟩
 have f60:=ahw t.hs;have e5:=ad6 t.hs f60;have hD1:((jr 0 qv).map rowT).length<=60:=by rw[List.length_map,amb];exact f60
 have t1:1<=(X.map rowT).length:=by omega
 have t2:(X.map rowT).length<=36:=by omega
 generalize X.map rowT=T at *;generalize (jr 0 qv).map rowT=DD at *;obtain⟨r,P3,e4,r0,r1⟩:=jm P2 (T.length:Int) (by omega) (by omega)
 obtain⟨od,P4,e6,fo⟩:=arv P3;have c1:=apw T r0;have c2:=ah2 T r0;have hc:(cutD T (some r) none).length+(cutD T none (some r)).length<=60:=by omega
 obtain⟨Y,P5,o,e7,hY,fY⟩:=a4o t P4 t1 t2 hat;obtain⟨q',e8⟩:=ao5 t (.val S) (.val (.int n)) (.own none (pen P5)) (.val (.lst T)) (.val (.int r)) (.own none [.lst T,.lst (cutD T (some r) none++cutD T none (some r)),.lst DD,od]) ([.lst T,.lst (cutD T (some r) none++cutD T none (some r)),.lst DD,od]++Y) v1 fun d hd=>by
  rcases List.mem_append.mp hd with hd | hd
  ·simp only[List.mem_cons,List.not_mem_nil,or_false] at hd;rcases hd with rfl | rfl | rfl | rfl
   ·exact rm (by omega)
   ·exact rm (by rw[List.length_append];exact hc)
   ·exact rm hD1
   ·exact fo
  ·exact fY d hd
 obtain⟨R1,P6,e9,m1⟩:=acx P5;obtain⟨R2,P7,e11,m2⟩:=acx P6;exact⟨_,_,_,_,_,_,azs e0 e1 e2 e3 e4 e5 e6 (fj (by omega)) e7 hY e8 e9 (af5 (af7 R1 m1) _) e11 (af5 (af7 R2 m2) _)⟩
theorem azl(S:D):∀(ns:List Int) (a1 q a3 a4 a5 a6 a7:Sl),∃ρ,forD (bu 2) l3_law (ns.map D.int) [.val S,a1,q,a3,a4,a5,a6,a7]=some (.nx,.val S::ρ)
 | [],a1,q,a3,a4,a5,a6,a7=>⟨_,rfl⟩
 | n::r,a1,q,a3,a4,a5,a6,a7=>by
  obtain⟨b1,b3,b4,b5,b6,b7,z⟩:=a3l S n a1 a3 a4 a5 a6 a7;obtain⟨ρ,z2⟩:=azl S r b1 (.val (.int n)) b3 b4 b5 b6 b7;exact⟨ρ,by rw[List.map_cons,ju];simp[z,z2]⟩
theorem ao6(S:D)(a2 a3 a4 a5 a6 a7:Sl):∀(l:List D) (q:Sl),(∀d∈l,Fair d)->∃q',forD (bu 1) alu l [.val S,q,a2,a3,a4,a5,a6,a7]=some (.nx,[.val S,q',a2,a3,a4,a5,a6,a7])
 | [],q,_=>⟨q,rfl⟩
 | d::l,q,hd=>by
  have r1:jl [.val (.tup [.tup [.int 0]]),.val d]=some (.ok (.v (.bl true)),[.val (.tup [.tup [.int 0]]),.val d]):=ag3 (ak4 (.inl rfl)) (hd d (List.mem_cons_self ..));have r2:jl [.val (.tup [.tup [.int 0,.int 0]]),.val d]=some (.ok (.v (.bl true)),[.val (.tup [.tup [.int 0,.int 0]]),.val d]):=ag3 (ak4 (.inr rfl)) (hd d (List.mem_cons_self ..));obtain⟨q',e⟩:=ao6 S a2 a3 a4 a5 a6 a7 l (.val d) fun x hx=>hd x (List.mem_cons_of_mem _ hx)
  have k1:(1:Nat)<=capS:=by decide
  have k2:(2:Nat)<=capS:=by decide
  have es:alu [.val S,.val d,a2,a3,a4,a5,a6,a7]=some (.nx,[.val S,.val d,a2,a3,a4,a5,a6,a7]):=by simp[alu,r1,r2,k1,k2]
  refine⟨q',?_⟩;rw[ju];simp only[xj,List.set_cons_succ,List.set_cons_zero];rw[es];exact e
theorem ar7:ak2 apo:=fun ns hn=>by
 obtain⟨n0,e0⟩:=ap4 ns 0 (by decide)
 obtain⟨ms,em,hm⟩:=apy ns (some 1) (some 4);have hc:1+ms.length<=capS:=fj (by omega)
 obtain⟨q',e1⟩:=ao6 (.kst (ns.map D.int)) .emp .emp .emp .emp .emp .emp [.lst [],.lst [.tup [.int 0,.int 0]],.lst [.tup [.int 0,.bl false]],.lst [.tup [.bl false,.int 0]],.tup [.tup [.int 0,.int 0]],.lst [.tup [.int 0,.int 0],.tup [.int 0,.int 0]],.non] .emp fun d hd=>by
  simp only[List.mem_cons,List.not_mem_nil,or_false] at hd;rcases hd with rfl | rfl | rfl | rfl | rfl | rfl | rfl <;> exact apn rfl
 have k1:(1:Nat)<=capS:=by decide
 have k2:(2:Nat)<=capS:=by decide
 have k7:(7:Nat)<=capS:=by decide
 obtain⟨ρ,q⟩:=azl (.kst (ns.map D.int)) (n0::ms) q' .emp .emp .emp .emp .emp .emp;simp only[List.map_cons] at q;simp[apo,az4,e1,e0,em,hc,q,k1,k2,k7]
end My
set_option maxHeartbeats 0
namespace My
open PySem L2 Mn Dn
def top(i:Nat):Stmt:=PySem.Challenge.pw_turnarrows_k66_what_is_a_tour.main.body.getD i (.Pass ⟨0,0,0,0⟩)
abbrev adh:Stmt:=top 15
theorem aj1:FnScope ["thing"] ["thing"] (ao adh):=mkSc rfl rfl rfl rfl (by decide +kernel)
abbrev qt:Stmt:=top 16
theorem acj:FnScope ["thing","least","most"] ["thing","least","most"] (ao qt):=mkSc rfl rfl rfl rfl (by decide +kernel)
abbrev qu:Stmt:=top 17
theorem ack:FnScope ["thing","least","most"] ["thing","least","most"] (ao qu):=mkSc rfl rfl rfl rfl (by decide +kernel)
abbrev uh:Stmt:=top 19
theorem adg:FnScope ["house","thing"] ["house","thing"] (ao uh):=mkSc rfl rfl rfl rfl (by decide +kernel)
abbrev ug:Stmt:=top 20
theorem adf:FnScope ["house","thing"] ["house","thing"] (ao ug):=mkSc rfl rfl rfl rfl (by decide +kernel)
abbrev aey:Stmt:=top 21
theorem u6:FnScope ["house","room","met","looked_at","doors","door"] ["house","room"] (ao aey):=mkSc rfl rfl rfl rfl (by decide +kernel)
abbrev aex:Stmt:=top 22
theorem amu:FnScope ["house"] ["house"] (ao aex):=mkSc rfl rfl rfl rfl (by decide +kernel)
abbrev abw:Stmt:=top 23
theorem aij:FnScope ["house"] ["house"] (ao abw):=mkSc rfl rfl rfl rfl (by decide +kernel)
abbrev adi:Stmt:=top 24
theorem aj2:FnScope ["house","room"] ["house","room"] (ao adi):=mkSc rfl rfl rfl rfl (by decide +kernel)
abbrev yt:Stmt:=top 25
theorem afu:FnScope ["house"] ["house"] (ao yt):=mkSc rfl rfl rfl rfl (by decide +kernel)
abbrev aaq:Stmt:=top 26
theorem agy:FnScope ["house"] ["house"] (ao aaq):=mkSc rfl rfl rfl rfl (by decide +kernel)
abbrev jy:Stmt:=top 28
theorem ut:FnScope ["house"] ["house"] (ao jy):=mkSc rfl rfl rfl rfl (by decide +kernel)
abbrev aap:Stmt:=top 29
theorem agx:FnScope ["house","thing"] ["house","thing"] (ao aap):=mkSc rfl rfl rfl rfl (by decide +kernel)
abbrev vg:Stmt:=top 30
theorem aab:FnScope ["house","thing","ahead"] ["house","thing"] (ao vg):=mkSc rfl rfl rfl rfl (by decide +kernel)
abbrev acn:Stmt:=top 31
theorem af4:FnScope ["house","thing"] ["house","thing"] (ao acn):=mkSc rfl rfl rfl rfl (by decide +kernel)
abbrev ab1:Stmt:=top 33
theorem aik:FnScope ["script","k"] ["script","k"] (ao ab1):=mkSc rfl rfl rfl rfl (by decide +kernel)
abbrev adk:Stmt:=top 34
theorem aev:FnScope ["cell","left"] ["cell"] (ao adk):=mkSc rfl rfl rfl rfl (by decide +kernel)
abbrev ab0:Stmt:=top 35
theorem sr:FnScope ["pen","many","left","found","stir"] ["pen","many"] (ao ab0):=mkSc rfl rfl rfl rfl (by decide +kernel)
abbrev aar:Stmt:=top 36
theorem agz:FnScope ["thing"] ["thing"] (ao aar):=mkSc rfl rfl rfl rfl (by decide +kernel)
abbrev adl:Stmt:=top 37
theorem aew:FnScope ["pen","some"] ["pen"] (ao adl):=mkSc rfl rfl rfl rfl (by decide +kernel)
abbrev aat:Stmt:=top 38
theorem ag0:FnScope ["pen","house"] ["pen","house"] (ao aat):=mkSc rfl rfl rfl rfl (by decide +kernel)
abbrev abz:Stmt:=top 39
theorem rz:FnScope ["e","marks","words"] ["e"] (ao abz):=mkSc rfl rfl rfl rfl (by decide +kernel)
abbrev yu:Stmt:=top 40
theorem dw:FnScope ["pen","most","extra","many","here","room","house","at","turn","some","house.0","house.1","house.2","house.3","house.4","house.5"] ["pen","most","extra"] (ao yu):=mkSc rfl rfl rfl rfl (by decide +kernel)
abbrev abx:Stmt:=top 41
theorem ph:FnScope ["house","some","room","many","here","found","pace","door"] ["house","some","room","many"] (ao abx):=mkSc rfl rfl rfl rfl (by decide +kernel)
abbrev aau:Stmt:=top 42
theorem qd:FnScope ["house","found","at","room"] ["house"] (ao aau):=mkSc rfl rfl rfl rfl (by decide +kernel)
abbrev xq:Stmt:=top 43
theorem vf:FnScope ["house","thing","one","ends"] ["house","thing"] (ao xq):=mkSc rfl rfl rfl rfl (by decide +kernel)
abbrev vh:Stmt:=top 44
theorem aac:FnScope ["pen","some"] ["pen"] (ao vh):=mkSc rfl rfl rfl rfl (by decide +kernel)
abbrev aby:Stmt:=top 45
theorem rn:FnScope ["house","some","many","doors","here","room"] ["house","some"] (ao aby):=mkSc rfl rfl rfl rfl (by decide +kernel)
abbrev ab2:Stmt:=top 46
theorem jk:FnScope ["pen","house","tour","at","to","room","door","other","odd","rows"] ["pen","house","tour"] (ao ab2):=mkSc rfl rfl rfl rfl (by decide +kernel)
abbrev aas:Stmt:=top 47
theorem acl:FnScope ["house","thing","found"] ["house","thing"] (ao aas):=mkSc rfl rfl rfl rfl (by decide +kernel)
abbrev xn:Stmt:=top 48
theorem aao:FnScope ["house","thing","e"] ["house","thing"] (ao xn):=mkSc rfl rfl rfl rfl (by decide +kernel)
abbrev ag1:Stmt:=top 49
theorem aci:FnScope ["script","thing","cell","pen","house","tour","at","things"] ["script"] (ao ag1):=mkSc rfl rfl rfl rfl (by decide +kernel)
theorem lnS{k:Nat}{us:List Value}(h:us.length=k+1):∃a r,us=a::r/\r.length=k:=by
 cases us with
 | nil=>cases h
 | cons a r=>exact⟨a,r,rfl,Nat.succ.inj h⟩
theorem ln1{us:List Value}(h:us.length=1):∃a0,us=[a0]:=by
 obtain⟨a,r,rfl,h'⟩:=lnS h;cases List.eq_nil_of_length_eq_zero h';exact⟨a,rfl⟩
theorem ln2{us:List Value}(h:us.length=2):∃a0 a1,us=[a0,a1]:=by
 obtain⟨a,r,rfl,h'⟩:=lnS h;obtain⟨_,rfl⟩:=ln1 h';exact⟨_,_,rfl⟩
theorem ln3{us:List Value}(h:us.length=3):∃a0 a1 a2,us=[a0,a1,a2]:=by
 obtain⟨a,r,rfl,h'⟩:=lnS h;obtain⟨_,_,rfl⟩:=ln2 h';exact⟨_,_,_,rfl⟩
theorem ln4{us:List Value}(h:us.length=4):∃a0 a1 a2 a3,us=[a0,a1,a2,a3]:=by
 obtain⟨a,r,rfl,h'⟩:=lnS h;obtain⟨_,_,_,rfl⟩:=ln3 h';exact⟨_,_,_,_,rfl⟩
structure Txt (K:Fg9) (mg:Str->Option Value):Prop where
 z_ValueError:mg "ValueError" = none
 z_all:mg "all" = none
 z_bool:mg "bool" = none
 z_divmod:mg "divmod" = none
 z_enumerate:mg "enumerate" = none
 z_int:mg "int" = none
 z_isinstance:mg "isinstance" = none
 z_len:mg "len" = none
 z_list:mg "list" = none
 z_max:mg "max" = none
 z_min:mg "min" = none
 z_range:mg "range" = none
 z_set:mg "set" = none
 z_sorted:mg "sorted" = none
 z_sum:mg "sum" = none
 z_tuple:mg "tuple" = none
 z_zip:mg "zip" = none
 sub:agt K NS=true
 cat:CatT K mg
 k_ArrowError:ClsT K mg "ArrowError"
 k_NoArrows:ClsT K mg "NoArrows"
 k_NoRoom:ClsT K mg "NoRoom"
 k_NoWalkers:ClsT K mg "NoWalkers"
 k_NotShut:ClsT K mg "NotShut"
 k_NeverBack:ClsT K mg "NeverBack"
 k_NoTour:ClsT K mg "NoTour"
 k_NoRow:ClsT K mg "NoRow"
 k_NoHouse:ClsT K mg "NoHouse"
 k_NotOpen:ClsT K mg "NotOpen"
 k_Nobody:ClsT K mg "Nobody"
 k_NoText:ClsT K mg "NoText"
 k_TooGreat:ClsT K mg "TooGreat"
 r_ArrowError:RaiT K mg "ArrowError"
 r_NoArrows:RaiT K mg "NoArrows"
 r_NoRoom:RaiT K mg "NoRoom"
 r_NoWalkers:RaiT K mg "NoWalkers"
 r_NotShut:RaiT K mg "NotShut"
 r_NeverBack:RaiT K mg "NeverBack"
 r_NoTour:RaiT K mg "NoTour"
 r_NoRow:RaiT K mg "NoRow"
structure Cz where
 P:Program
 w:World
 K:Fg9
 mg:Str->Option Value
 base:Heap
abbrev Cz.d(z:Cz)(x:Str)(ps:List Str)(k n:Nat)(F:Fd):Prop:=Dfn z.P z.w z.K z.mg z.base x ps k (spOf z.K n F)
abbrev Cz.x(z:Cz)(x:Str)(ps:List Str)(k n:Nat)(F:Fd):Prop:=DfnX z.P z.w z.K z.mg z.base x ps k (spX z.K n F)
abbrev Cz.F(z:Cz)(x:Str)(st:Stmt)(f:Addr)(fd:FuncData):Prop:=Fun z.K x x st f fd
abbrev Cz.o(z:Cz)(k:Nat)(f:Addr)(fd:FuncData)(ps:List Str)(n:Nat)(F:Fd):Prop:=FnOk z.P z.w z.K z.mg z.base CX0 k f fd ps (spOf z.K n F)
abbrev Cz.p(z:Cz)(k:Nat)(f:Addr)(fd:FuncData)(ps:List Str)(n:Nat)(F:Fd):Prop:=FnOk z.P z.w z.K z.mg z.base (CX1 z.P z.w) k f fd ps (spX z.K n F)
abbrev Dd0(z:Cz):Prop:=z.d "is_whole" ["thing"] 1 1 yj
abbrev Dd1(z:Cz):Prop:=z.d "is_whole_within" ["thing","least","most"] 2 3 jd
abbrev Dd3(z:Cz):Prop:=z.d "is_room_number" ["house","thing"] 3 2 jj
abbrev Dd4(z:Cz):Prop:=z.d "refuse_no_room" ["house","thing"] 4 2 j4
abbrev Dd5(z:Cz):Prop:=z.d "come_to" ["house","room"] 5 2 ym
abbrev Dd6(z:Cz):Prop:=z.d "is_shut" ["house"] 1 1 aa6
abbrev Dd8(z:Cz):Prop:=z.d "doors_to" ["house","room"] 1 2 yl
abbrev Dd9(z:Cz):Prop:=z.d "is_balanced" ["house"] 2 1 lw
abbrev Dd7(z:Cz):Prop:=z.d "is_joined" ["house"] 6 1 vq
abbrev Dd2(z:Cz):Prop:=z.d "is_tuple_within" ["thing","least","most"] 1 3 je
abbrev Dd10(z:Cz):Prop:=z.d "doors_many" ["house"] 1 1 su
abbrev Dd12(z:Cz):Prop:=z.d "is_leaving" ["house","thing"] 4 2 ie
abbrev Dd11(z:Cz):Prop:=z.d "refuse_no_touring" ["house"] 7 1 dg
abbrev Dd13(z:Cz):Prop:=z.d "is_round_trip" ["house","thing"] 5 2 cz
abbrev Dx11(z:Cz):Prop:=z.x "refuse_no_touring" ["house"] 7 1 dg
abbrev Dd17(z:Cz):Prop:=z.d "_law_draw" ["pen","many"] 1 2 f__law_draw
abbrev Dd18(z:Cz):Prop:=z.d "_law_whole" ["thing"] 1 1 sy
abbrev Dd24(z:Cz):Prop:=z.d "_law_doors" ["house"] 1 1 lg
abbrev Dd23(z:Cz):Prop:=z.d "_law_walk" ["house","some","room","many"] 1 4 km
abbrev Dd14(z:Cz):Prop:=z.d "is_tour" ["house","thing"] 8 2 kj
abbrev Dd25(z:Cz):Prop:=z.d "_law_is_tour" ["house","thing"] 2 2 fu
abbrev Dx14(z:Cz):Prop:=z.x "is_tour" ["house","thing"] 8 2 kj
abbrev Du21(z:Cz):Prop:=DfnU z.P z.w z.K z.mg z.base "_law_kind" ["e"] 1 (spOf z.K 1 zm)
abbrev Dd29(z:Cz):Prop:=z.d "_law_right" ["house","thing"] 9 2 jl
abbrev Dd15(z:Cz):Prop:=z.d "_law_cell" ["script","k"] 1 2 f__law_cell
abbrev Dd16(z:Cz):Prop:=z.d "_law_pen" ["cell"] 1 1 f__law_pen
abbrev Dd22(z:Cz):Prop:=z.d "_law_rounds" ["pen","most","extra"] 2 3 f__law_rounds
abbrev Dd20(z:Cz):Prop:=z.d "_law_drawn" ["pen","house"] 2 2 f__law_drawn
abbrev Dd27(z:Cz):Prop:=z.d "_law_tour" ["house","some"] 2 2 oh
abbrev Dd19(z:Cz):Prop:=z.d "_law_odd" ["pen"] 2 1 f__law_odd
abbrev Dd28(z:Cz):Prop:=z.d "_law_bent" ["pen","house","tour"] 2 3 f__law_bent
abbrev Dd26(z:Cz):Prop:=z.d "_law_no_house" ["pen"] 2 1 f__law_no_house
abbrev Dd30(z:Cz):Prop:=z.d "_law_refused" ["house","thing"] 9 2 jc
section
variable(z:Cz){f:Addr}{fd:FuncData}(T:Txt z.K z.mg)
include T
theorem aj9(F:z.F "is_whole" adh f fd):z.o 1 f fd ["thing"] 1 yj :=
 jg F aj1 rfl rfl fun _ _ _ _ _ _ hr =>
  (bh (dz (EV.toR (agh (ac7 (t:=.int) (afw (by rfl) T.z_int aqf) (by rfl) T.z_isinstance bj (gj (pv 0))) (ajd (aud (ac7 (t:=.bool) (afw (by rfl) T.z_bool akv) (by rfl) T.z_isinstance bj (gj (pv 0)))))))))
theorem acu(F:z.F "is_whole_within" qt f fd)(d0:Dd0 z):z.o 2 f fd ["thing","least","most"] 3 jd :=
 jg F acj rfl rfl fun _ _ _ _ _ _ hr =>
  (bh (dz (EV.toR (agh (ER.toD (gr d0 (hr.mono (by decide)) (by rfl) (eg_n (pv 0) cu))) (ajd (al9 art art (bf (pv 1)) (bf (pv 0)) (bf (pv 2))))))))
theorem acv(F:z.F "is_tuple_within" qu f fd):z.o 1 f fd ["thing","least","most"] 3 je :=
 jg F ack rfl rfl fun _ _ _ _ _ _ hr =>
  (bh (dz (EV.toR (agh (ac7 (t:=.tuple) (afw (by rfl) T.z_tuple xg) (by rfl) T.z_isinstance bj (gj (pv 0))) (ajd (al9 art art (bf (pv 1)) (ER.toD (bz j5 (by rfl) T.z_len jx (ea_n (pv 0) du))) (bf (pv 2))))))))
theorem ado(F:z.F "is_room_number" uh f fd)(d1:Dd1 z):z.o 3 f fd ["house","thing"] 2 jj :=
 jg F adg rfl rfl fun _ _ _ _ _ _ hr =>
  (bh (dz (gr d1 (hr.mono (by decide)) (by rfl) (eg_v (bf (pv 1)) (eg_v au (eg_v (ER.toD (dq ae3 (e2_v (ER.toD (bz j5 (by rfl) T.z_len jx (ea_n (pv 0) du))) (EV.toB au)))) cu))))))
theorem adn(F:z.F "refuse_no_room" ug f fd)(d3:Dd3 z):z.o 4 f fd ["house","thing"] 2 j4 :=
 jg F adf rfl rfl fun _ _ _ _ _ _ hr =>
  (bh (aaj (qj (qi (ER.toD (gr d3 (hr.mono (by decide)) (by rfl) (eg_n (pv 0) (eg_v (bf (pv 1)) cu)))))) (bh ak6) j7))
theorem am2(F:z.F "come_to" aey f fd)(d4:Dd4 z):z.o 5 f fd ["house","room"] 2 ym :=
 jg F u6 rfl rfl fun _ _ _ _ _ _ hr =>
  (az (xm (gr d4 (hr.mono (by decide)) (by rfl) (eg_n (pv 0) (eg_v (bf (pv 1)) cu)))) (az (ik (i:=2) u6.nd rfl (Or.inl rfl) (jh (aj (bf (pv 1)) bc))) (az (ik (i:=3) u6.nd rfl (Or.inl rfl) (EV.toR au)) (az (aq3 fuel PassesOwn.never (aah aop (e2_n (pv 3) (EV.toB (ER.toD (bz j5 (by rfl) T.z_len jx (ea_n (pv 2) du))))) (pq _)) (az (ik (i:=4) u6.nd rfl (Or.inl rfl) (j8 (e2_n (pv 0) (EV.toB (ER.toD (j8 (e2_n (pv 2) (gj (pv 3))) (fun _ _=>by rfl))))) (fun _ _=>by rfl))) (az (zy PassesOwn.never rfl (vo (bf (pv 4))) (cj (i:=5) u6.nd rfl (Or.inl rfl)) (bh (aaj (EW.pt (auc (aah aoq (e2_n (pv 5) (EV.toB au)) (pq _)) (apq (aah (aoo hr.units) (e2_n (pv 5) (gj (pv 2))) (by with_unfolding_all rfl))))) (bh (xm (EV.toR (al7 adq PySem.F.slot_list_append PySem.F.type_list_append acy (pv 2) (aj (bf (pv 5)) bc))))) j7))) (bh (axw (i:=3) u6.nd rfl (Or.inl rfl) au az1))))) (bh (dz (ql abm (by rfl) T.z_tuple xg (ea_v (ER.toD (bz agm (by rfl) T.z_sorted ajp (ea_n (pv 2) du))) du))))))))
theorem am1(F:z.F "is_shut" aex f fd):z.o 1 f fd ["house"] 1 aa6 :=
 jg F amu rfl rfl fun _ _ _ _ _ _ hr =>
  (bh (dz (bz (agn rfl) (by rfl) T.z_all ago (ea_v (ER.toD (ou [] ["doors"] [none] rfl (vo (bf (pv 0))) (fun _ _ _=>(cj (i:=0) (show(["doors"]:List Str).Nodup by decide +kernel) rfl (Or.inl rfl))) (fun _ _ _=>lq) (fun _ _ _=>(ER.toD (ac8 aoq (e2_v (ER.toD (bz (aw5 rfl) (by rfl) T.z_min a0n (ea_n (pv 0) du))) (EV.toB au)) (pq _)))))) du))))
theorem ais(F:z.F "is_joined" abw f fd)(d5:Dd5 z):z.o 6 f fd ["house"] 1 vq :=
 jg F aij rfl rfl fun _ _ _ _ _ _ hr =>
  (bh (dz (bz (agn rfl) (by rfl) T.z_all ago (ea_v (ER.toD (ou ["house"] ["room","house"] [none,some 0] rfl (qg (by rfl) T.z_range (aj (ER.toD (bz j5 (by rfl) T.z_len jx (ea_n (pv 0) du))) bc)) (fun _ _ _=>(cj (i:=0) (show(["room","house"]:List Str).Nodup by decide +kernel) rfl (Or.inl rfl))) (fun _ _ _=>lq) (fun _ _ _=>(ER.toD (ac8 (acs hr.units) (e2_v (ER.toD (bz j5 (by rfl) T.z_len jx (ea_v (ER.toD (gr d5 (hr.mono (by decide)) (by rfl) (eg_n (pv 1) (eg_n (pv 0) cu)))) du))) (EV.toB (ER.toD (bz j5 (by rfl) T.z_len jx (ea_n (pv 1) du))))) (pq _)))))) du))))
theorem aka(F:z.F "doors_to" adi f fd):z.o 1 f fd ["house","room"] 2 yl :=
 jg F aj2 rfl rfl fun _ _ _ _ _ _ hr =>
  (bh (dz (bz (ap5 rfl) (by rfl) T.z_sum aqe (ea_v (ER.toD (ou ["room"] ["doors","room"] [none,some 1] rfl (vo (bf (pv 0))) (fun _ _ _=>(cj (i:=0) (show(["doors","room"]:List Str).Nodup by decide +kernel) rfl (Or.inl rfl))) (fun _ _ _=>lq) (fun _ _ _=>(al8 hr.units (pv 0) (aj (bf (pv 1)) bc))))) du))))
theorem afx(F:z.F "is_balanced" yt f fd)(d6:Dd6 z)(d8:Dd8 z):z.o 2 f fd ["house"] 1 lw :=
 jg F afu rfl rfl fun _ _ _ _ _ _ hr =>
  (az (aaj (qj (qi (ER.toD (gr d6 (hr.mono (by decide)) (by rfl) (eg_v (bf (pv 0)) cu))))) (bh (dz (EV.toR yo))) j7) (bh (dz (bz (agn rfl) (by rfl) T.z_all ago (ea_v (ER.toD (ou ["house"] ["room","doors","house"] [none,none,some 0] rfl (ahm (by rfl) T.z_enumerate (aj (bf (pv 0)) bc)) (fun _ _ _=>(aae rfl (gf (cj (i:=0) (show(["room","doors","house"]:List Str).Nodup by decide +kernel) rfl (Or.inl rfl)) (gf (cj (i:=1) (show(["room","doors","house"]:List Str).Nodup by decide +kernel) rfl (Or.inl rfl)) ul)))) (fun _ _ _=>lq) (fun _ _ _=>(ER.toD (ac8 (acs hr.units) (e2_v (ER.toD (gr d8 (hr.mono (by decide)) (by rfl) (eg_n (pv 2) (eg_n (pv 0) cu)))) (EV.toB (ER.toD (bz j5 (by rfl) T.z_len jx (ea_n (pv 1) du))))) (pq _)))))) du)))))
theorem ag9(F:z.F "doors_many" aaq f fd):z.o 1 f fd ["house"] 1 su :=
 jg F agy rfl rfl fun _ _ _ _ _ _ hr =>
  (bh (dz (bz (ap5 rfl) (by rfl) T.z_sum aqe (ea_v (ER.toD (ou [] ["doors"] [none] rfl (vo (bf (pv 0))) (fun _ _ _=>(cj (i:=0) (show(["doors"]:List Str).Nodup by decide +kernel) rfl (Or.inl rfl))) (fun _ _ _=>lq) (fun _ _ _=>(ER.toD (bz j5 (by rfl) T.z_len jx (ea_n (pv 0) du)))))) du))))
theorem abp(F:z.F "refuse_no_touring" jy f fd)(d9:Dd9 z)(d7:Dd7 z):z.o 7 f fd ["house"] 1 dg :=
 jg F ut rfl rfl fun _ _ _ _ _ _ hr =>
  (bh (aaj (ET.s (EW.pt (ahx (qj (qi (ER.toD (gr d9 (hr.mono (by decide)) (by rfl) (eg_v (bf (pv 0)) cu))))) (aed (qj (qi (ER.toD (gr d7 (hr.mono (by decide)) (by rfl) (eg_n (pv 0) cu))))))))) (bh ak6) j7))
theorem aaz(F:z.F "refuse_no_touring" jy f fd)(d9:Dd9 z)(d7:Dd7 z):z.p 7 f fd ["house"] 1 dg :=
 fn_x F ut rfl rfl fun _ _ _ _ _ _ hr =>
  (agr (a1t (ET.s (EW.pt (ahx (qj (qi (ER.toD (gr d9 (hr.mono (by decide)) (by rfl) (eg_v (bf (pv 0)) cu))))) (aed (qj (qi (ER.toD (gr d7 (hr.mono (by decide)) (by rfl) (eg_n (pv 0) cu))))))))) ahg (agr (anp rfl rfl (by rfl) T.r_NoTour)) aum))
theorem ag8(F:z.F "is_leaving" aap f fd)(d2:Dd2 z)(d3:Dd3 z)(d1:Dd1 z):z.o 4 f fd ["house","thing"] 2 ie :=
 jg F agx rfl rfl fun _ _ _ _ _ _ hr =>
  (az (aaj (EW.pt (ahx (qj (qi (ER.toD (gr d2 (hr.mono (by decide)) (by rfl) (eg_n (pv 1) (eg_v au (eg_v au cu))))))) (aed (qj (qi (ER.toD (gr d3 (hr.mono (by decide)) (by rfl) (eg_n (pv 0) (eg_v (ER.toD (j8 (e2_n (pv 1) (EV.toB au)) (fun _ _=>by rfl))) cu))))))))) (bh (dz (EV.toR yo))) j7) (bh (dz (gr d1 (hr.mono (by decide)) (by rfl) (eg_v (ER.toD (j8 (e2_n (pv 1) (EV.toB au)) (fun _ _=>by rfl))) (eg_v au (eg_v (ER.toD (dq ae3 (e2_v (ER.toD (bz j5 (by rfl) T.z_len jx (ea_v (ER.toD (j8 (e2_n (pv 0) (EV.toB (ER.toD (j8 (e2_n (pv 1) (EV.toB au)) (fun _ _=>by rfl))))) (fun _ _=>by rfl))) du))) (EV.toB au)))) cu)))))))
theorem aee(F:z.F "is_round_trip" vg f fd)(d10:Dd10 z)(d12:Dd12 z):z.o 5 f fd ["house","thing"] 2 cz :=
 jg F aab rfl rfl fun _ _ _ _ _ _ hr =>
  (az (aaj (EW.pt (ahx (qj (qi (ac7 (t:=.list) (afw (by rfl) T.z_list ah4) (by rfl) T.z_isinstance bj (gj (pv 1))))) (aed (aah (air hr.units) (e2_v (ER.toD (bz j5 (by rfl) T.z_len jx (ea_n (pv 1) du))) (EV.toB (ER.toD (gr d10 (hr.mono (by decide)) (by rfl) (eg_v (bf (pv 0)) cu))))) (pq _))))) (bh (dz (EV.toR yo))) j7) (az (aaj (qj (qi (ER.toD (bz (agn rfl) (by rfl) T.z_all ago (ea_v (ER.toD (ou ["house"] ["leaving","house"] [none,some 0] rfl (vo (bf (pv 1))) (fun _ _ _=>(cj (i:=0) (show(["leaving","house"]:List Str).Nodup by decide +kernel) rfl (Or.inl rfl))) (fun _ _ _=>lq) (fun _ _ _=>(ER.toD (gr d12 (hr.mono (by decide)) (by rfl) (eg_n (pv 1) (eg_n (pv 0) cu))))))) du))))) (bh (dz (EV.toR yo))) j7) (az (aaj (aah (air hr.units) (e2_v (ER.toD (ana rfl hr.units (by rfl) T.z_len jx (by rfl) T.z_set a0m (ea_n (pv 1) du))) (EV.toB (ER.toD (bz j5 (by rfl) T.z_len jx (ea_n (pv 1) du))))) (pq _)) (bh (dz (EV.toR yo))) j7) (az (ik (i:=2) aab.nd rfl (Or.inl rfl) (dq gw (e2_v (ER.toD (vz (pv 1) (uq (ac6 au)) xr)) (EV.toB (ER.toD (vz (pv 1) xr (uq (ac6 au)))))))) (bh (dz (bz (agn rfl) (by rfl) T.z_all ago (ea_v (ER.toD (ou ["house"] ["one","leaving","house"] [none,none,some 0] rfl (awf (by rfl) T.z_zip (aj (bf (pv 2)) (aj (bf (pv 1)) bc))) (fun _ _ _=>(aae rfl (gf (cj (i:=0) (show(["one","leaving","house"]:List Str).Nodup by decide +kernel) rfl (Or.inl rfl)) (gf (cj (i:=1) (show(["one","leaving","house"]:List Str).Nodup by decide +kernel) rfl (Or.inl rfl)) ul)))) (fun _ _ _=>lq) (fun _ _ _=>(ER.toD (ac8 (acs hr.units) (e2_v (ER.toD (j8 (e2_v (ER.toD (j8 (e2_n (pv 2) (EV.toB (ER.toD (j8 (e2_n (pv 0) (EV.toB au)) (fun _ _=>by rfl))))) (fun _ _=>by rfl))) (EV.toB (ER.toD (j8 (e2_n (pv 0) (EV.toB au)) (fun _ _=>by rfl))))) (fun _ _=>by rfl))) (EV.toB (ER.toD (j8 (e2_n (pv 1) (EV.toB au)) (fun _ _=>by rfl))))) (pq _)))))) du))))))))
theorem am0(F:z.F "is_tour" acn f fd)(d11:Dd11 z)(d13:Dd13 z)(x11:Dx11 z):z.o 8 f fd ["house","thing"] 2 kj :=
 jg F af4 rfl rfl fun _ _ _ _ _ _ hr =>
  (az (xm (gr d11 (hr.mono (by decide)) (by rfl) (eg_v (EV.s (bf (pv 0))) cu))) (bh (SV.s (dz (gr d13 (hr.mono (by decide)) (by rfl) (eg_v (bf (pv 0)) (eg_v (bf (pv 1)) cu)))))))
theorem aj8(F:z.F "is_tour" acn f fd)(d11:Dd11 z)(d13:Dd13 z)(x11:Dx11 z):z.p 8 f fd ["house","thing"] 2 kj :=
 fn_x F af4 rfl rfl fun _ _ _ _ _ _ hr =>
  (aqx (xm (gr d11 (hr.mono (by decide)) (by rfl) (eg_v (EV.s (bf (pv 0))) cu))) (anr (axm x11 (hr.mono (by decide)) (by rfl) (eg_v (EV.s (bf (pv 0))) cu) (xa_v (js:=[]) (EV.s (bf (pv 0))) (XE.no ahg) ati))) (agr axl))
theorem aiw(F:z.F "_law_cell" ab1 f fd):z.o 1 f fd ["script","k"] 2 f__law_cell :=
 jg F aik rfl rfl fun _ _ _ _ _ _ hr =>
  (az (aaj (aah aop (e2_n (pv 1) (EV.toB (ER.toD (bz j5 (by rfl) T.z_len jx (ea_n (pv 0) du))))) (pq _)) (bh (dz (j8 (e2_n (pv 0) (gj (pv 1))) (fun _ _=>by rfl)))) j7) (bh (dz (EV.toR au))))
theorem akb(F:z.F "_law_pen" adk f fd):z.o 1 f fd ["cell"] 1 f__law_pen :=
 jg F aev rfl rfl fun _ _ _ _ _ _ hr =>
  (az (ik (i:=1) aev.nd rfl (Or.inl rfl) (bz (a0j rfl) (by rfl) T.z_max a0o (ea_n (pv 0) (ea_v (ER.toD (dq ae3 (e2_v au (gj (pv 0))))) du)))) (bh (dz (jh (aj (bf (pv 1)) (aj (ER.toD (ql a0k (by rfl) T.z_int aqf (ea_v (ER.toD (ac8 aoq (e2_n (pv 1) (EV.toB (ER.toD (dq aon (e2_v au (EV.toB au)))))) (pq _))) du))) bc))))))
theorem aiv(F:z.F "_law_draw" ab0 f fd):z.o 1 f fd ["pen","many"] 2 f__law_draw :=
 jg F sr rfl rfl fun _ _ _ _ _ _ hr =>
  (az (aaj (aah (acs hr.units) (e2_v (ER.toD (j8 (e2_n (pv 0) (EV.toB au)) (fun _ _=>by rfl))) (EV.toB au)) (pq _)) (az (aid (ER.toD (bz ap8 (by rfl) T.z_divmod aqg (ea_v (ER.toD (j8 (e2_n (pv 0) (EV.toB au)) (fun _ _=>by rfl))) (ea_n (pv 1) du)))) (aae rfl (gf (cj (i:=2) sr.nd rfl (Or.inl rfl)) (gf (cj (i:=3) sr.nd rfl (Or.inl rfl)) ul)))) (az (an3 (bf (pv 2)) (pv 0) au) (bh (dz (aps (pv 3)))))) j7) (az (ik (i:=4) sr.nd rfl (Or.inl rfl) (dq ab4 (e2_v (ER.toD (dq ae4 (e2_v (ER.toD (dq gw (e2_v (ER.toD (dq ab4 (e2_v (ER.toD (j8 (e2_n (pv 0) (EV.toB au)) (fun _ _=>by rfl))) (EV.toB au)))) (EV.toB au)))) (EV.toB au)))) (EV.toB au)))) (az (ik (i:=4) sr.nd rfl (Or.inl rfl) (dq ab4 (e2_v (ER.toD (dq gw (e2_v (ER.toD (dq ae4 (e2_n (pv 4) (gj (pv 4))))) (EV.toB au)))) (EV.toB au)))) (az (an3 (ER.toD (dq ab4 (e2_v (ER.toD (dq gw (e2_v (ER.toD (dq ae4 (e2_n (pv 4) (EV.toB au)))) (EV.toB au)))) (EV.toB au)))) (pv 0) au) (bh (dz (dq ab4 (e2_v (ER.toD (dq avx (e2_v (ER.toD (j8 (e2_n (pv 0) (EV.toB au)) (fun _ _=>by rfl))) (EV.toB au)))) (gj (pv 1))))))))))
theorem aha(F:z.F "_law_whole" aar f fd):z.o 1 f fd ["thing"] 1 sy :=
 jg F agz rfl rfl fun _ _ _ _ _ _ hr =>
  (bh (dz (EV.toR (agh (ac7 (t:=.int) (afw (by rfl) T.z_int aqf) (by rfl) T.z_isinstance bj (gj (pv 0))) (ajd (aud (ac7 (t:=.bool) (afw (by rfl) T.z_bool akv) (by rfl) T.z_isinstance bj (gj (pv 0)))))))))
theorem akc(F:z.F "_law_odd" adl f fd)(d17:Dd17 z):z.o 2 f fd ["pen"] 1 f__law_odd :=
 jg F aew rfl rfl fun _ _ _ _ _ _ hr =>
  (az (ik (i:=1) aew.nd rfl (Or.inl rfl) (jh (aj al6 (aj yo (aj yo (aj (ac6 au) (aj tu (aj tu (aj (dj bc) (aj (ER.toD (jh bc)) (aj (dj (aj au bc)) (aj (ER.toD (jh (aj au bc))) (aj asx (aj (dj (aj au (aj au bc))) (aj (ER.toD (dq aon (e2_v au (EV.toB au)))) (aj (dj (aj (dj (aj au bc)) bc)) (aj tu bc))))))))))))))))) (bh (dz (j8 (e2_v (ER.toD (dq gw (e2_n (pv 1) (EV.toB (ER.toD (jh (aj (dj (aj (dj (aj (ac6 au) bc)) (aj (dj (aj au (aj au bc))) bc))) bc))))))) (EV.toB (ER.toD (gr d17 (hr.mono (by decide)) (by rfl) (eg_n (pv 0) (eg_v au cu)))))) (fun _ _=>by rfl)))))
theorem ahc(F:z.F "_law_drawn" aat f fd)(d17:Dd17 z):z.o 2 f fd ["pen","house"] 2 f__law_drawn :=
 jg F ag0 rfl rfl fun _ _ _ _ _ _ hr =>
  (bh (dz (ql abm (by rfl) T.z_tuple xg (ea_v (ER.toD (ou ["pen"] ["room","pen"] [none,some 0] rfl (vo (bf (pv 1))) (fun _ _ _=>(cj (i:=0) (show(["room","pen"]:List Str).Nodup by decide +kernel) rfl (Or.inl rfl))) (fun _ _ _=>lq) (fun _ _ _=>(ER.toD (gr d17 (hr.mono (by decide)) (by rfl) (eg_n (pv 1) (eg_v (ER.toD (bz j5 (by rfl) T.z_len jx (ea_n (pv 0) du))) cu))))))) du))))
theorem ag7(F:z.F "_law_kind" abz f fd):FnOkU z.P z.w z.K z.mg z.base 1 f fd ["e"] (spOf z.K 1 zm) :=
 awu F rz rfl rfl fun _ _ _ _ _ hr =>
  (az (ik (i:=1) rz.nd rfl (Or.inl rfl) (jh (aj (uo T.sub (by decide +kernel) (by rfl) T.k_NoArrows (by rfl) T.z_isinstance bj (gj (pv 0))) (aj (uo T.sub (by decide +kernel) (by rfl) T.k_NoRoom (by rfl) T.z_isinstance bj (gj (pv 0))) (aj (uo T.sub (by decide +kernel) (by rfl) T.k_NoWalkers (by rfl) T.z_isinstance bj (gj (pv 0))) (aj (uo T.sub (by decide +kernel) (by rfl) T.k_NotShut (by rfl) T.z_isinstance bj (gj (pv 0))) bc)))))) (az (ik (i:=1) rz.nd rfl (Or.inl rfl) (dq gw (e2_n (pv 1) (EV.toB (ER.toD (jh (aj (uo T.sub (by decide +kernel) (by rfl) T.k_NeverBack (by rfl) T.z_isinstance bj (gj (pv 0))) (aj (uo T.sub (by decide +kernel) (by rfl) T.k_NoTour (by rfl) T.z_isinstance bj (gj (pv 0))) (aj (uo T.sub (by decide +kernel) (by rfl) T.k_NoRow (by rfl) T.z_isinstance bj (gj (pv 0))) (aj (uo T.sub (by decide +kernel) (by rfl) T.k_NoHouse (by rfl) T.z_isinstance bj (gj (pv 0))) bc)))))))))) (az (ik (i:=1) rz.nd rfl (Or.inl rfl) (dq gw (e2_n (pv 1) (EV.toB (ER.toD (jh (aj (uo T.sub (by decide +kernel) (by rfl) T.k_NotOpen (by rfl) T.z_isinstance bj (gj (pv 0))) (aj (uo T.sub (by decide +kernel) (by rfl) T.k_Nobody (by rfl) T.z_isinstance bj (gj (pv 0))) (aj (uo T.sub (by decide +kernel) (by rfl) T.k_NoText (by rfl) T.z_isinstance bj (gj (pv 0))) (aj (uo T.sub (by decide +kernel) (by rfl) T.k_TooGreat (by rfl) T.z_isinstance bj (gj (pv 0))) bc)))))))))) (az (aaj (EW.pt (ahx (qj (qi (awy T.sub (by rfl) T.z_ValueError ah5 (by rfl) T.z_isinstance bj (gj (pv 0))))) (aed (aah (air hr.units) (e2_v (al8 hr.units (pv 1) (aj yo bc)) (EV.toB au)) (pq _))))) (bh (dz (EV.toR tu))) j7) (az (ik (i:=2) rz.nd rfl (Or.inl rfl) (jh (aj tu (aj tu (aj tu (aj tu (aj tu (aj tu (aj tu (aj tu (aj tu (aj tu bc)))))))))))) (bh (dz (j8 (e2_v (ER.toD (dq gw (e2_n (pv 2) (EV.toB (ER.toD (jh (aj tu (aj tu bc)))))))) (EV.toB (awx PySem.F.slot_list_index PySem.F.type_list_index (arx hr.units) (pv 1) (aj yo bc)))) (fun _ _=>by rfl)))))))))
theorem afy(F:z.F "_law_rounds" yu f fd)(d17:Dd17 z):z.o 2 f fd ["pen","most","extra"] 3 f__law_rounds :=
 jg F dw rfl rfl fun _ _ _ _ _ _ hr =>
  (az (ik (i:=3) dw.nd rfl (Or.inl rfl) (dq gw (e2_v au (EV.toB (ER.toD (gr d17 (hr.mono (by decide)) (by rfl) (eg_n (pv 0) (eg_n (pv 1) cu)))))))) (az (ik (i:=4) dw.nd rfl (Or.inl rfl) (jh bc)) (az (zy PassesOwn.never rfl (qg (by rfl) T.z_range (aj (bf (pv 3)) bc)) (cj (i:=5) dw.nd rfl (Or.inl rfl)) (bh (xm (EV.toR (al7 adp PySem.F.slot_list_insert PySem.F.type_list_insert ae7 (pv 4) (aj (ER.toD (gr d17 (hr.mono (by decide)) (by rfl) (eg_n (pv 0) (eg_v (ER.toD (dq gw (e2_n (pv 5) (EV.toB au)))) cu)))) (aj (bf (pv 5)) bc))))))) (auy (i:=6) (gs:=[10,11,12,13,14,15]) (os:=[6,10,11,12,13,14,15]) [] ["room"] [none] dw.nd rfl (Or.inl rfl) rfl (qg (by rfl) T.z_range (aj (bf (pv 3)) bc)) (fun _ _ _=>(cj (i:=0) (show(["room"]:List Str).Nodup by decide +kernel) rfl (Or.inl rfl))) (fun _ _ _=>(jh bc)) (az (zy PassesOwn.never rfl (ahm (by rfl) T.z_enumerate (aj (bf (pv 4)) bc)) (aae rfl (gf (cj (i:=7) dw.nd rfl (Or.inl rfl)) (gf (cj (i:=5) dw.nd rfl (Or.inl rfl)) ul))) (bh (xm (EV.toR (apr adq PySem.F.slot_list_append PySem.F.type_list_append acy (alc (base:=10) (pv 6) (bf (pv 5)) (fun _ _=>by rfl)) (aj (ER.toD (j8 (e2_n (pv 4) (EV.toB (ER.toD (dq ae3 (e2_n (pv 7) (EV.toB au)))))) (fun _ _=>by rfl))) bc)))))) (az (zy PassesOwn.never rfl (qg (by rfl) T.z_range (aj (ER.toD (gr d17 (hr.mono (by decide)) (by rfl) (eg_n (pv 0) (eg_v (ER.toD (dq gw (e2_n (pv 2) (EV.toB au)))) cu)))) bc)) (cj (i:=8) dw.nd rfl (Or.inl rfl)) (az (ik (i:=9) dw.nd rfl (Or.inl rfl) (jh bc)) (az (zy PassesOwn.never rfl (qg (by rfl) T.z_range (aj (bf (pv 3)) bc)) (cj (i:=5) dw.nd rfl (Or.inl rfl)) (bh (aaj (EW.pt (auc (aah aop (e2_v (ER.toD (bz j5 (by rfl) T.z_len jx (aue (a0e (alc (base:=10) (pv 6) (bf (pv 5)) (fun _ _=>by rfl)))))) (EV.toB au)) (pq _)) (apq (aah (acs hr.units) (e2_v (ER.toD (gr d17 (hr.mono (by decide)) (by rfl) (eg_n (pv 0) (eg_v au cu)))) (EV.toB au)) (pq _))))) (bh (xm (EV.toR (al7 adp PySem.F.slot_list_insert PySem.F.type_list_insert ae7 (pv 9) (aj (ER.toD (gr d17 (hr.mono (by decide)) (by rfl) (eg_n (pv 0) (eg_v (ER.toD (dq gw (e2_v (ER.toD (bz j5 (by rfl) T.z_len jx (ea_n (pv 9) du))) (EV.toB au)))) cu)))) (aj (bf (pv 5)) bc)))))) j7))) (bh (zy PassesOwn.never rfl (ahm (by rfl) T.z_enumerate (aj (bf (pv 9)) bc)) (aae rfl (gf (cj (i:=7) dw.nd rfl (Or.inl rfl)) (gf (cj (i:=5) dw.nd rfl (Or.inl rfl)) ul))) (bh (xm (EV.toR (apr adp PySem.F.slot_list_insert PySem.F.type_list_insert ae7 (alc (base:=10) (pv 6) (bf (pv 5)) (fun _ _=>by rfl)) (aj (ER.toD (gr d17 (hr.mono (by decide)) (by rfl) (eg_n (pv 0) (eg_v (ER.toD (dq gw (e2_v (ER.toD (bz j5 (by rfl) T.z_len jx (aue (a0e (alc (base:=10) (pv 6) (bf (pv 5)) (fun _ _=>by rfl)))))) (EV.toB au)))) cu)))) (aj (ER.toD (j8 (e2_n (pv 9) (EV.toB (ER.toD (dq ae3 (e2_n (pv 7) (EV.toB au)))))) (fun _ _=>by rfl))) bc))))))))))) (auz (i:=6) (base:=10) (bh (dz (ql abm (by rfl) T.z_tuple xg (ea_v (ER.toD (ou [] ["room"] [none] rfl (vo (bf (pv 6))) (fun _ _ _=>(cj (i:=0) (show(["room"]:List Str).Nodup by decide +kernel) rfl (Or.inl rfl))) (fun _ _ _=>lq) (fun _ _ _=>(ER.toD (ql abm (by rfl) T.z_tuple xg (ea_n (pv 0) du)))))) du))))))) (a3t (by rfl))))))
theorem ait(F:z.F "_law_walk" abx f fd):z.o 1 f fd ["house","some","room","many"] 4 km :=
 jg F ph rfl rfl fun _ _ _ _ _ _ hr =>
  (az (ik (i:=4) ph.nd rfl (Or.inl rfl) (ql ap7 (by rfl) T.z_list ah4 (ea_n (pv 1) du))) (az (ik (i:=5) ph.nd rfl (Or.inl rfl) (jh bc)) (az (zy PassesOwn.never rfl (qg (by rfl) T.z_range (aj (bf (pv 3)) bc)) (cj (i:=6) ph.nd rfl (Or.inl rfl)) (az (xm (EV.toR (al7 adq PySem.F.slot_list_append PySem.F.type_list_append acy (pv 5) (aj (dj (aj (bf (pv 2)) (aj (ER.toD (j8 (e2_n (pv 4) (gj (pv 2))) (fun _ _=>by rfl))) bc))) bc)))) (az (ik (i:=7) ph.nd rfl (Or.inl rfl) (j8 (e2_v (ER.toD (j8 (e2_n (pv 0) (gj (pv 2))) (fun _ _=>by rfl))) (EV.toB (ER.toD (j8 (e2_n (pv 4) (gj (pv 2))) (fun _ _=>by rfl))))) (fun _ _=>by rfl))) (az (an3 (ER.toD (dq ab4 (e2_v (ER.toD (dq gw (e2_v (ER.toD (j8 (e2_n (pv 4) (gj (pv 2))) (fun _ _=>by rfl))) (EV.toB au)))) (EV.toB (ER.toD (bz j5 (by rfl) T.z_len jx (ea_v (ER.toD (j8 (e2_n (pv 0) (gj (pv 2))) (fun _ _=>by rfl))) du))))))) (pv 4) (bf (pv 2))) (bh (ik (i:=2) ph.nd rfl (Or.inl rfl) (EV.toR (bf (pv 7))))))))) (bh (dz (EV.toR (dj (aj (bf (pv 5)) (aj (ER.toD (ql abm (by rfl) T.z_tuple xg (ea_n (pv 4) du))) (aj (bf (pv 2)) bc))))))))))
theorem ahd(F:z.F "_law_doors" aau f fd):z.o 1 f fd ["house"] 1 lg :=
 jg F qd rfl rfl fun _ _ _ _ _ _ hr =>
  (az (ik (i:=1) qd.nd rfl (Or.inl rfl) (jh bc)) (az (zy PassesOwn.never rfl (ahm (by rfl) T.z_enumerate (aj (bf (pv 0)) bc)) (aae rfl (gf (cj (i:=2) qd.nd rfl (Or.inr rfl)) (gf (cj (i:=3) qd.nd rfl (Or.inl rfl)) ul))) (bh (ik (i:=1) qd.nd rfl (Or.inl rfl) (dq gw (e2_n (pv 1) (EV.toB (ER.toD (ou ["at"] ["door","at"] [none,some 2] rfl (qg (by rfl) T.z_range (aj (ER.toD (bz j5 (by rfl) T.z_len jx (ea_n (pv 3) du))) bc)) (fun _ _ _=>(cj (i:=0) (show(["door","at"]:List Str).Nodup by decide +kernel) rfl (Or.inl rfl))) (fun _ _ _=>lq) (fun _ _ _=>(dj (aj (bf (pv 1)) (aj (bf (pv 0)) bc)))))))))))) (bh (dz (aps (pv 1))))))
theorem ae6(F:z.F "_law_is_tour" xq f fd)(d18:Dd18 z)(d24:Dd24 z):z.o 2 f fd ["house","thing"] 2 fu :=
 jg F vf rfl rfl fun _ _ _ _ _ _ hr =>
  (az (aaj (qj (qi (ac7 (t:=.list) (afw (by rfl) T.z_list ah4) (by rfl) T.z_isinstance bj (gj (pv 1))))) (bh (dz (EV.toR yo))) j7) (az (zy PassesOwn.never rfl (vo (bf (pv 1))) (cj (i:=2) vf.nd rfl (Or.inl rfl)) (bh (aaj (EW.pt (ahx (qj (qi (ac7 (t:=.tuple) (afw (by rfl) T.z_tuple xg) (by rfl) T.z_isinstance bj (gj (pv 2))))) (ahx (aah (air hr.units) (e2_v (ER.toD (bz j5 (by rfl) T.z_len jx (ea_n (pv 2) du))) (EV.toB au)) (pq _)) (aed (qj (qi (ER.toD (bz (agn rfl) (by rfl) T.z_all ago (ea_v (ER.toD (ou [] ["at"] [none] rfl (vo (bf (pv 2))) (fun _ _ _=>(cj (i:=0) (show(["at"]:List Str).Nodup by decide +kernel) rfl (Or.inl rfl))) (fun _ _ _=>lq) (fun _ _ _=>(ER.toD (gr d18 (hr.mono (by decide)) (by rfl) (eg_n (pv 0) cu)))))) du))))))))) (bh (dz (EV.toR yo))) j7))) (az (aaj (aah (air hr.units) (e2_v (ER.toD (bz anc (by rfl) T.z_sorted ajp (ea_n (pv 1) du))) (EV.toB (ER.toD (gr d24 (hr.mono (by decide)) (by rfl) (eg_v (bf (pv 0)) cu))))) (pq _)) (bh (dz (EV.toR yo))) j7) (az (au1 (i:=3) ["house"] ["room","door","house"] [none,none,some 0] vf.nd rfl (Or.inl rfl) rfl (vo (bf (pv 1))) (fun _ _ _=>(aae rfl (gf (cj (i:=0) (show(["room","door","house"]:List Str).Nodup by decide +kernel) rfl (Or.inl rfl)) (gf (cj (i:=1) (show(["room","door","house"]:List Str).Nodup by decide +kernel) rfl (Or.inl rfl)) ul)))) (fun _ _ _=>lq) (fun _ _ _=>(ER.toD (j8 (e2_v (ER.toD (j8 (e2_n (pv 2) (gj (pv 0))) (fun _ _=>by rfl))) (gj (pv 1))) (fun _ _=>by rfl))))) (bh (dz (ac8 (acs hr.units) (e2_v (ER.toD (dq gw (e2_v (ER.toD (vz (pv 3) (uq (ac6 au)) xr)) (EV.toB (ER.toD (vz (pv 3) xr (uq (ac6 au)))))))) (EV.toB (ER.toD (ou [] ["room","door"] [none,none] rfl (vo (bf (pv 1))) (fun _ _ _=>(aae rfl (gf (cj (i:=0) (show(["room","door"]:List Str).Nodup by decide +kernel) rfl (Or.inl rfl)) (gf (cj (i:=1) (show(["room","door"]:List Str).Nodup by decide +kernel) rfl (Or.inl rfl)) ul)))) (fun _ _ _=>lq) (fun _ _ _=>(bf (pv 0))))))) (pq _))))))))
theorem aef(F:z.F "_law_no_house" vh f fd)(d17:Dd17 z):z.o 2 f fd ["pen"] 1 f__law_no_house :=
 jg F aac rfl rfl fun _ _ _ _ _ _ hr =>
  (az (ik (i:=1) aac.nd rfl (Or.inl rfl) (jh (aj (dj (aj (dj (aj (ac6 au) bc)) bc)) (aj (dj (aj (dj (aj au (aj (ac6 au) bc))) bc)) (aj (dj (aj (dj (aj au bc)) (aj (dj (aj au bc)) bc))) (aj (dj (aj (dj (aj au (aj au bc))) (aj (dj (aj au bc)) bc))) (aj (dj (aj (dj (aj au bc)) (aj (dj (aj au bc)) bc))) (aj (dj (aj (dj (aj au (aj au bc))) (aj (dj (aj au (aj au bc))) bc))) (aj (dj (aj (dj (aj au bc)) (aj (dj (aj au bc)) (aj (dj (aj au bc)) bc)))) bc))))))))) (bh (dz (j8 (e2_n (pv 1) (EV.toB (ER.toD (gr d17 (hr.mono (by decide)) (by rfl) (eg_n (pv 0) (eg_v au cu)))))) (fun _ _=>by rfl)))))
theorem aiu(F:z.F "_law_tour" aby f fd)(d23:Dd23 z):z.o 2 f fd ["house","some"] 2 oh :=
 jg F rn rfl rfl fun _ _ _ _ _ _ hr =>
  (az (ik (i:=2) rn.nd rfl (Or.inl rfl) (bz (ap5 rfl) (by rfl) T.z_sum aqe (ea_v (ER.toD (ou [] ["room"] [none] rfl (vo (bf (pv 0))) (fun _ _ _=>(cj (i:=0) (show(["room"]:List Str).Nodup by decide +kernel) rfl (Or.inl rfl))) (fun _ _ _=>lq) (fun _ _ _=>(ER.toD (bz j5 (by rfl) T.z_len jx (ea_n (pv 0) du)))))) du))) (az (aid (ER.toD (gr d23 (hr.mono (by decide)) (by rfl) (eg_n (pv 0) (eg_n (pv 1) (eg_v au (eg_v (ER.toD (dq ae4 (e2_v (ER.toD (dq ae4 (e2_v au (gj (pv 2))))) (EV.toB (ER.toD (bz j5 (by rfl) T.z_len jx (ea_n (pv 0) du))))))) cu)))))) (aae rfl (gf (cj (i:=3) rn.nd rfl (Or.inl rfl)) (gf (cj (i:=4) rn.nd rfl (Or.inl rfl)) (gf (cj (i:=5) rn.nd rfl (Or.inl rfl)) ul))))) (bh (dz (j8 (e2_v (ER.toD (gr d23 (hr.mono (by decide)) (by rfl) (eg_n (pv 0) (eg_n (pv 4) (eg_v (bf (pv 5)) (eg_v (bf (pv 2)) cu)))))) (EV.toB au)) (fun _ _=>by rfl))))))
theorem aix(F:z.F "_law_bent" ab2 f fd)(d17:Dd17 z):z.o 2 f fd ["pen","house","tour"] 3 f__law_bent :=
 jg F jk rfl rfl fun _ _ _ _ _ _ hr =>
  (az (aid (dj (aj (ER.toD (gr d17 (hr.mono (by decide)) (by rfl) (eg_n (pv 0) (eg_v (ER.toD (bz j5 (by rfl) T.z_len jx (ea_n (pv 2) du))) cu)))) (aj (ER.toD (gr d17 (hr.mono (by decide)) (by rfl) (eg_n (pv 0) (eg_v (ER.toD (bz j5 (by rfl) T.z_len jx (ea_n (pv 2) du))) cu)))) bc))) (aae rfl (gf (cj (i:=3) jk.nd rfl (Or.inr rfl)) (gf (cj (i:=4) jk.nd rfl (Or.inl rfl)) ul)))) (az (aid (ER.toD (j8 (e2_n (pv 2) (gj (pv 3))) (fun _ _=>by rfl))) (aae rfl (gf (cj (i:=5) jk.nd rfl (Or.inl rfl)) (gf (cj (i:=6) jk.nd rfl (Or.inl rfl)) ul)))) (az (ik (i:=7) jk.nd rfl (Or.inl rfl) (ql ap7 (by rfl) T.z_list ah4 (ea_n (pv 2) du))) (az (aid (dj (aj (ER.toD (j8 (e2_n (pv 7) (gj (pv 4))) (fun _ _=>by rfl))) (aj (ER.toD (j8 (e2_n (pv 7) (gj (pv 3))) (fun _ _=>by rfl))) bc))) (aae rfl (gf (at6 (pv 7) (bf (pv 3))) (gf (at6 (pv 7) (bf (pv 4))) ul)))) (az (ik (i:=8) jk.nd rfl (Or.inr rfl) (jh (aj (dj (aj (bf (pv 5)) (aj (ER.toD (dq ab4 (e2_v (ER.toD (dq gw (e2_n (pv 6) (EV.toB au)))) (EV.toB (ER.toD (bz j5 (by rfl) T.z_len jx (ea_v (ER.toD (j8 (e2_n (pv 1) (gj (pv 5))) (fun _ _=>by rfl))) du))))))) bc))) (aj (dj (aj (bf (pv 5)) (aj yo bc))) (aj (ER.toD (jh (aj (bf (pv 5)) (aj (bf (pv 6)) bc)))) (aj (dj (aj (bf (pv 5)) bc)) (aj (dj (aj (bf (pv 5)) (aj (bf (pv 6)) (aj au bc)))) (aj al6 (aj (bf (pv 5)) bc))))))))) (az (ik (i:=9) jk.nd rfl (Or.inl rfl) (jh (aj (bf (pv 7)) (aj (ER.toD (dq gw (e2_v (ER.toD (vz (pv 2) xr (uq (bf (pv 3))))) (EV.toB (ER.toD (vz (pv 2) (uq (ER.toD (dq gw (e2_n (pv 3) (EV.toB au))))) xr)))))) (aj (ER.toD (dq gw (e2_n (pv 2) (EV.toB (ER.toD (jh (aj (ER.toD (j8 (e2_n (pv 2) (gj (pv 3))) (fun _ _=>by rfl))) bc))))))) (aj (ER.toD (aw0 (bf (pv 2)) (ac6 au))) (aj (ER.toD (ql abm (by rfl) T.z_tuple xg (ea_n (pv 2) du))) (aj (ER.toD (jh (aj (bf (pv 2)) bc))) bc)))))))) (az (ik (i:=9) jk.nd rfl (Or.inl rfl) (dq gw (e2_n (pv 9) (EV.toB (ER.toD (ou ["tour","pen","odd","at"] ["turn","tour","pen","odd","at"] [none,some 2,some 0,some 8,some 3] rfl (qg (by rfl) T.z_range (aj au bc)) (fun _ _ _=>(cj (i:=0) (show(["turn","tour","pen","odd","at"]:List Str).Nodup by decide +kernel) rfl (Or.inl rfl))) (fun _ _ _=>lq) (fun _ _ _=>(ER.toD (dq gw (e2_v (ER.toD (dq gw (e2_v (ER.toD (vz (pv 1) xr (uq (bf (pv 4))))) (EV.toB (ER.toD (jh (aj (ER.toD (j8 (e2_n (pv 3) (EV.toB (ER.toD (gr d17 (hr.mono (by decide)) (by rfl) (eg_n (pv 2) (eg_v au cu)))))) (fun _ _=>by rfl))) bc))))))) (EV.toB (ER.toD (vz (pv 1) (uq (ER.toD (dq gw (e2_n (pv 4) (EV.toB au))))) xr))))))))))))) (bh (dz (j8 (e2_n (pv 9) (EV.toB (ER.toD (gr d17 (hr.mono (by decide)) (by rfl) (eg_n (pv 0) (eg_v au cu)))))) (fun _ _=>by rfl)))))))))))
theorem ahb(F:z.F "_law_right" aas f fd)(d14:Dd14 z)(d25:Dd25 z):z.o 9 f fd ["house","thing"] 2 jl :=
 jg F acl rfl rfl fun _ _ _ _ _ _ hr =>
  (az (ik (i:=2) acl.nd rfl (Or.inl rfl) (gr d14 (hr.mono (by decide)) (by rfl) (eg_v (bf (pv 0)) (eg_v (bf (pv 1)) cu)))) (bh (dz (EV.toR (agh (ac7 (t:=.bool) (afw (by rfl) T.z_bool akv) (by rfl) T.z_isinstance bj (gj (pv 2))) (agh (ER.toD (ac8 (acs hr.units) (e2_n (pv 2) (EV.toB (ER.toD (gr d25 (hr.mono (by decide)) (by rfl) (eg_v (bf (pv 0)) (eg_v (bf (pv 1)) cu)))))) (pq _))) (ajd (ER.toD (ac8 (acs hr.units) (e2_v (ER.toD (gr d14 (hr.mono (by decide)) (by rfl) (eg_v (bf (pv 0)) (eg_v (bf (pv 1)) cu)))) (gj (pv 2))) (pq _))))))))))
theorem ae5(F:z.F "_law_refused" xn f fd)(d14:Dd14 z)(x14:Dx14 z)(u21:Du21 z):z.o 9 f fd ["house","thing"] 2 jc :=
 jg F aao rfl rfl fun _ _ _ _ _ _ hr =>
  (az (au0 rfl rfl rfl rfl aao.nd rfl rfl (by rfl) T.cat T.sub (by decide +kernel) (bh (xm (gr d14 (hr.mono (by decide)) (by rfl) (eg_v (EV.s (bf (pv 0))) (eg_v (EV.s (bf (pv 1))) cu))))) (agr (anr (axm x14 (hr.mono (by decide)) (by rfl) (eg_v (EV.s (bf (pv 0))) (eg_v (EV.s (bf (pv 1))) cu)) (xa_v (js:=[]) (EV.s (bf (pv 0))) (XE.no ahg) (xa_v (js:=[]) (EV.s (bf (pv 1))) (XE.no ahg) ati))))) (fun ev=>(bh (dz (ac8 (acs (hr.mark ev).units) (e2_v (ER.toD (a0d u21 ((hr.mark ev).mono (by decide)) (by rfl) (eg_n (pv 2) cu))) (EV.toB tu)) (pq _)))))) (bh (dz (EV.toR yo))))
theorem ay2(F:z.F "law" ag1 f fd)(d29:Dd29 z)(d15:Dd15 z)(d16:Dd16 z)(d22:Dd22 z)(d20:Dd20 z)(d27:Dd27 z)(d17:Dd17 z)(d24:Dd24 z)(d19:Dd19 z)(d28:Dd28 z)(d26:Dd26 z)(d30:Dd30 z):z.o 10 f fd ["script"] 1 apo :=
 jg F aci rfl rfl fun _ _ _ _ _ _ hr =>
  (az (zy PassesOwn.never rfl (vo (ER.toD (jh (aj (ER.toD (jh bc)) (aj (ER.toD (jh (aj (dj (aj au (aj au bc))) bc))) (aj (ER.toD (jh (aj (dj (aj au (aj yo bc))) bc))) (aj (ER.toD (jh (aj (dj (aj yo (aj au bc))) bc))) (aj (dj (aj (dj (aj au (aj au bc))) bc)) (aj (ER.toD (jh (aj (dj (aj au (aj au bc))) (aj (dj (aj au (aj au bc))) bc)))) (aj al6 bc)))))))))) (cj (i:=1) aci.nd rfl (Or.inl rfl)) (bh (aaj (EW.pt (ahx (qj (qi (ER.toD (gr d29 (hr.mono (by decide)) (by rfl) (eg_v (dj (aj (dj (aj au bc)) bc)) (eg_v (bf (pv 1)) cu)))))) (aed (qj (qi (ER.toD (gr d29 (hr.mono (by decide)) (by rfl) (eg_v (dj (aj (dj (aj au (aj au bc))) bc)) (eg_v (bf (pv 1)) cu))))))))) (bh (dz (EV.toR yo))) j7))) (az (zy PassesOwn.never rfl (vo (ER.toD (dq gw (e2_v (ER.toD (jh (aj (ER.toD (gr d15 (hr.mono (by decide)) (by rfl) (eg_n (pv 0) (eg_v au cu)))) bc))) (EV.toB (ER.toD (vz (pv 0) (uq au) (uq au)))))))) (cj (i:=2) aci.nd rfl (Or.inl rfl)) (az (ik (i:=3) aci.nd rfl (Or.inr rfl) (gr d16 (hr.mono (by decide)) (by rfl) (eg_n (pv 2) cu))) (az (ik (i:=4) aci.nd rfl (Or.inr rfl) (gr d22 (hr.mono (by decide)) (by rfl) (eg_n (pv 3) (eg_v au (eg_v au cu))))) (az (ik (i:=5) aci.nd rfl (Or.inr rfl) (gr d27 (hr.mono (by decide)) (by rfl) (eg_v (bf (pv 4)) (eg_v (ER.toD (gr d20 (hr.mono (by decide)) (by rfl) (eg_n (pv 3) (eg_v (bf (pv 4)) cu)))) cu)))) (az (ik (i:=6) aci.nd rfl (Or.inl rfl) (gr d17 (hr.mono (by decide)) (by rfl) (eg_n (pv 3) (eg_v (ER.toD (bz j5 (by rfl) T.z_len jx (ea_n (pv 5) du))) cu)))) (az (ik (i:=7) aci.nd rfl (Or.inl rfl) (jh (aj (bf (pv 5)) (aj (ER.toD (dq gw (e2_v (ER.toD (vz (pv 5) (uq (bf (pv 6))) xr)) (EV.toB (ER.toD (vz (pv 5) xr (uq (bf (pv 6))))))))) (aj (ER.toD (gr d24 (hr.mono (by decide)) (by rfl) (eg_v (bf (pv 4)) cu))) (aj (ER.toD (gr d19 (hr.mono (by decide)) (by rfl) (eg_n (pv 3) cu))) bc)))))) (az (zy PassesOwn.never rfl (vo (ER.toD (dq gw (e2_n (pv 7) (EV.toB (ER.toD (ou ["tour","pen","house"] ["turn","tour","pen","house"] [none,some 5,some 3,some 4] rfl (qg (by rfl) T.z_range (aj au bc)) (fun _ _ _=>(cj (i:=0) (show(["turn","tour","pen","house"]:List Str).Nodup by decide +kernel) rfl (Or.inl rfl))) (fun _ _ _=>lq) (fun _ _ _=>(ER.toD (gr d28 (hr.mono (by decide)) (by rfl) (eg_n (pv 2) (eg_n (pv 3) (eg_n (pv 1) cu))))))))))))) (cj (i:=1) aci.nd rfl (Or.inl rfl)) (bh (aaj (qj (qi (ER.toD (gr d29 (hr.mono (by decide)) (by rfl) (eg_v (bf (pv 4)) (eg_v (bf (pv 1)) cu)))))) (bh (dz (EV.toR yo))) j7))) (bh (aaj (EW.pt (ahx (qj (qi (ER.toD (gr d30 (hr.mono (by decide)) (by rfl) (eg_v (ER.toD (gr d26 (hr.mono (by decide)) (by rfl) (eg_n (pv 3) cu))) (eg_v (bf (pv 5)) cu)))))) (aed (qj (qi (ER.toD (gr d30 (hr.mono (by decide)) (by rfl) (eg_v (ER.toD (gr d26 (hr.mono (by decide)) (by rfl) (eg_n (pv 3) cu))) (eg_v al6 cu))))))))) (bh (dz (EV.toR yo))) j7))))))))) (bh (dz (EV.toR yo)))))
end
abbrev Q(K:Fg9)(x:Str)(st:Stmt)(f:Addr)(oc:Value)(od:Option Addr)(kV dc pm:Value)(an:Option Addr)(cd ct:Value)(sl:Array (Option Value)):Prop:=nsIn K mainGlobals x=some (some (.ref f))/\K.lookup f=some ⟨oc,od,.func (fnOf x x (j9 st) (ir st) (ao st) .none kV dc pm an cd ct),sl⟩/\codeIn K cd x=true/\keepIn K (.ref f)=true
section
variable{K:Fg9}{x:Str}{st:Stmt}{f:Addr}{oc:Value}{od:Option Addr}{kV dc pm:Value}{an:Option Addr}{cd ct:Value}{sl:Array (Option Value)}(q:Q K x st f oc od kV dc pm an cd ct sl){h:Heap}{mg:Str->Option Value}
include q
theorem Q.F:Fun K x x st f (fnOf x x (j9 st) (ir st) (ao st) .none kV dc pm an cd ct):=at8 q.2.1 q.2.2.1 q.2.2.2
theorem Q.E{ps:List Str}(X:K.In h)(G:h.Ns mainGlobals mg)(b:∀(kV doc pm:Value) (an:Option Addr) (cdv ct:Value) (us:List Value),us.length=ps.length->bindArgs (fnOf x x (j9 st) (ir st) (ao st) .none kV doc pm an cdv ct) ⟨us,[]⟩=pure (ps.zip us)):mg x=some (.ref f)/\keepIn K (.ref f)=true/\Binds K (fnOf x x (j9 st) (ir st) (ao st) .none kV dc pm an cd ct) ps []:=⟨mg_of X G q.1,q.2.2.2,(Q.F q).binds b⟩
theorem Q.E1{p0:Str}(X:K.In h)(G:h.Ns mainGlobals mg)(b:∀(kV doc pm:Value) (an:Option Addr) (cdv ct u0:Value),bindArgs (fnOf x x (j9 st) (ir st) (ao st) .none kV doc pm an cdv ct) ⟨[u0],[]⟩=pure ([p0].zip [u0]):=by intros;rfl):mg x=some (.ref f)/\keepIn K (.ref f)=true/\Binds K (fnOf x x (j9 st) (ir st) (ao st) .none kV dc pm an cd ct) [p0] []:=q.E X G fun _ _ _ _ _ _ us hl=>by obtain⟨_,rfl⟩:=ln1 hl;apply b
theorem Q.E2{p0 p1:Str}(X:K.In h)(G:h.Ns mainGlobals mg)(b:∀(kV doc pm:Value) (an:Option Addr) (cdv ct u0 u1:Value),bindArgs (fnOf x x (j9 st) (ir st) (ao st) .none kV doc pm an cdv ct) ⟨[u0,u1],[]⟩=pure ([p0,p1].zip [u0,u1]):=by intros;rfl):mg x=some (.ref f)/\keepIn K (.ref f)=true/\Binds K (fnOf x x (j9 st) (ir st) (ao st) .none kV dc pm an cd ct) [p0,p1] []:=q.E X G fun _ _ _ _ _ _ us hl=>by obtain⟨_,_,rfl⟩:=ln2 hl;apply b
theorem Q.E3{p0 p1 p2:Str}(X:K.In h)(G:h.Ns mainGlobals mg)(b:∀(kV doc pm:Value) (an:Option Addr) (cdv ct u0 u1 u2:Value),bindArgs (fnOf x x (j9 st) (ir st) (ao st) .none kV doc pm an cdv ct) ⟨[u0,u1,u2],[]⟩=pure ([p0,p1,p2].zip [u0,u1,u2]):=by intros;rfl):mg x=some (.ref f)/\keepIn K (.ref f)=true/\Binds K (fnOf x x (j9 st) (ir st) (ao st) .none kV dc pm an cd ct) [p0,p1,p2] []:=q.E X G fun _ _ _ _ _ _ us hl=>by obtain⟨_,_,_,rfl⟩:=ln3 hl;apply b
theorem Q.E4{p0 p1 p2 p3:Str}(X:K.In h)(G:h.Ns mainGlobals mg)(b:∀(kV doc pm:Value) (an:Option Addr) (cdv ct u0 u1 u2 u3:Value),bindArgs (fnOf x x (j9 st) (ir st) (ao st) .none kV doc pm an cdv ct) ⟨[u0,u1,u2,u3],[]⟩=pure ([p0,p1,p2,p3].zip [u0,u1,u2,u3]):=by intros;rfl):mg x=some (.ref f)/\keepIn K (.ref f)=true/\Binds K (fnOf x x (j9 st) (ir st) (ao st) .none kV dc pm an cd ct) [p0,p1,p2,p3] []:=q.E X G fun _ _ _ _ _ _ us hl=>by obtain⟨_,_,_,_,rfl⟩:=ln4 hl;apply b
end
theorem a0t{l:PySem.W.OpenLaw}{w:World}{K:Fg9}{h:Heap}{mg:Str->Option Value}(X:K.In h)(G:h.Ns mainGlobals mg)(hfa:mg "law" = some (.ref fa))
  (q0:Q K "is_whole" adh f0' o0 p0 v0 t0 m0 n0 c0 r0 z0)
  (q1:Q K "is_whole_within" qt f1' o1 p1 v1 t1 m1 n1 c1 r1 z1)
  (q2:Q K "is_tuple_within" qu f2' o2 p2 v2 t2 m2 n2 c2 r2 z2)
  (q3:Q K "is_room_number" uh f3' o3 p3 v3 t3 m3 n3 c3 r3 z3)
  (q4:Q K "refuse_no_room" ug f4' o4 p4 v4 t4 m4 n4 c4 r4 z4)
  (q5:Q K "come_to" aey f5' o5 p5 v5 t5 m5 n5 c5 r5 z5)
  (q6:Q K "is_shut" aex f6' o6 p6 v6 t6 m6 n6 c6 r6 z6)
  (q7:Q K "is_joined" abw f7' o7 p7 v7 t7 m7 n7 c7 r7 z7)
  (q8:Q K "doors_to" adi f8' o8 p8 v8 t8 m8 n8 c8 r8 z8)
  (q9:Q K "is_balanced" yt f9' o9 p9 v9 t9 m9 n9 c9 r9 z9)
  (q10:Q K "doors_many" aaq f10' o10 p10 v10 t10 m10 n10 c10 r10 z10)
  (q11:Q K "refuse_no_touring" jy f11' o11 p11 v11 t11 m11 n11 c11 r11 z11)
  (q12:Q K "is_leaving" aap f12' o12 p12 v12 t12 m12 n12 c12 r12 z12)
  (q13:Q K "is_round_trip" vg f13' o13 p13 v13 t13 m13 n13 c13 r13 z13)
  (q14:Q K "is_tour" acn f14' o14 p14 v14 t14 m14 n14 c14 r14 z14)
  (q15:Q K "_law_cell" ab1 f15' o15 p15 v15 t15 m15 n15 c15 r15 z15)
  (q16:Q K "_law_pen" adk f16' o16 p16 v16 t16 m16 n16 c16 r16 z16)
  (q17:Q K "_law_draw" ab0 f17' o17 p17 v17 t17 m17 n17 c17 r17 z17)
  (q18:Q K "_law_whole" aar f18' o18 p18 v18 t18 m18 n18 c18 r18 z18)
  (q19:Q K "_law_odd" adl f19' o19 p19 v19 t19 m19 n19 c19 r19 z19)
  (q20:Q K "_law_drawn" aat f20' o20 p20 v20 t20 m20 n20 c20 r20 z20)
  (q21:Q K "_law_kind" abz f21' o21 p21 v21 t21 m21 n21 c21 r21 z21)
  (q22:Q K "_law_rounds" yu f22' o22 p22 v22 t22 m22 n22 c22 r22 z22)
  (q23:Q K "_law_walk" abx f23' o23 p23 v23 t23 m23 n23 c23 r23 z23)
  (q24:Q K "_law_doors" aau f24' o24 p24 v24 t24 m24 n24 c24 r24 z24)
  (q25:Q K "_law_is_tour" xq f25' o25 p25 v25 t25 m25 n25 c25 r25 z25)
  (q26:Q K "_law_no_house" vh f26' o26 p26 v26 t26 m26 n26 c26 r26 z26)
  (q27:Q K "_law_tour" aby f27' o27 p27 v27 t27 m27 n27 c27 r27 z27)
  (q28:Q K "_law_bent" ab2 f28' o28 p28 v28 t28 m28 n28 c28 r28 z28)
  (q29:Q K "_law_right" aas f29' o29 p29 v29 t29 m29 n29 c29 r29 z29)
  (q30:Q K "_law_refused" xn f30' o30 p30 v30 t30 m30 n30 c30 r30 z30)
  (a31:nsIn K mainGlobals "law" = some (some (.ref f31'))) (l31:K.lookup f31'=some ⟨oc31,od31,.func (fnOf "law" "law" (j9 ag1) (ir ag1) (ao ag1) .none kV31 dc31 pm31 an31 cd31 ct31),sl31⟩) (c31:codeIn K cd31 "law" = true) (k31:keepIn K (.ref f31')=true)
  (e_cls:ap1 K NS=true) (e_sub:agt K NS=true) (e_rai:atq K ["ArrowError","NoArrows","NoRoom","NoWalkers","NotShut","NeverBack","NoTour","NoRow"]=true) (e_cat:catB K=true)
  (y_ValueError:nsIn K mainGlobals "ValueError" = some none)
  (y_all:nsIn K mainGlobals "all" = some none)
  (y_bool:nsIn K mainGlobals "bool" = some none)
  (y_divmod:nsIn K mainGlobals "divmod" = some none)
  (y_enumerate:nsIn K mainGlobals "enumerate" = some none)
  (y_int:nsIn K mainGlobals "int" = some none)
  (y_isinstance:nsIn K mainGlobals "isinstance" = some none)
  (y_len:nsIn K mainGlobals "len" = some none)
  (y_list:nsIn K mainGlobals "list" = some none)
  (y_max:nsIn K mainGlobals "max" = some none)
  (y_min:nsIn K mainGlobals "min" = some none)
  (y_range:nsIn K mainGlobals "range" = some none)
  (y_set:nsIn K mainGlobals "set" = some none)
  (y_sorted:nsIn K mainGlobals "sorted" = some none)
  (y_sum:nsIn K mainGlobals "sum" = some none)
  (y_tuple:nsIn K mainGlobals "tuple" = some none)
  (y_zip:nsIn K mainGlobals "zip" = some none)
  : ∃fd:FuncData,(∀(s:Shared) (v:Value),BindsTo s fd ⟨[v],[]⟩ [("script", v)])/\∀base:Heap,K.In base->base.Ns mainGlobals mg->FnOk l.prog w K mg base CX0 10 fa fd ["script"] (spOf K 1 apo):=by
 have e:=hfa.symm.trans (mg_of X G a31);cases e;have T:Txt K mg:=⟨mg_none_of X G y_ValueError,mg_none_of X G y_all,mg_none_of X G y_bool,mg_none_of X G y_divmod,mg_none_of X G y_enumerate,mg_none_of X G y_int,mg_none_of X G y_isinstance,mg_none_of X G y_len,mg_none_of X G y_list,mg_none_of X G y_max,mg_none_of X G y_min,mg_none_of X G y_range,mg_none_of X G y_set,mg_none_of X G y_sorted,mg_none_of X G y_sum,mg_none_of X G y_tuple,mg_none_of X G y_zip,e_sub,aw7 X G e_cat,qp X G e_cls (by decide +kernel),qp X G e_cls (by decide +kernel),qp X G e_cls (by decide +kernel),qp X G e_cls (by decide +kernel),qp X G e_cls (by decide +kernel),qp X G e_cls (by decide +kernel),qp X G e_cls (by decide +kernel),qp X G e_cls (by decide +kernel),qp X G e_cls (by decide +kernel),qp X G e_cls (by decide +kernel),qp X G e_cls (by decide +kernel),qp X G e_cls (by decide +kernel),qp X G e_cls (by decide +kernel),aay X G e_cls (by decide +kernel) e_rai (by decide +kernel),aay X G e_cls (by decide +kernel) e_rai (by decide +kernel),aay X G e_cls (by decide +kernel) e_rai (by decide +kernel),aay X G e_cls (by decide +kernel) e_rai (by decide +kernel),aay X G e_cls (by decide +kernel) e_rai (by decide +kernel),aay X G e_cls (by decide +kernel) e_rai (by decide +kernel),aay X G e_cls (by decide +kernel) e_rai (by decide +kernel),aay X G e_cls (by decide +kernel) e_rai (by decide +kernel)⟩
 have F31:=at8 (st:=ag1) l31 c31 k31;refine⟨fnOf "law" "law" (j9 ag1) (ir ag1) (ao ag1) .none kV31 dc31 pm31 an31 cd31 ct31,fun s v=>.of_eq rfl,fun base _ _ =>?_⟩
 let z:Cz:=⟨l.prog,w,K,mg,base⟩
 have d0:Dd0 z:=⟨_,_,aj9 z T q0.F,q0.E1 X G⟩;have d1:Dd1 z:=⟨_,_,acu z T q1.F d0,q1.E3 X G⟩;have d2:Dd2 z:=⟨_,_,acv z T q2.F,q2.E3 X G⟩;have d3:Dd3 z:=⟨_,_,ado z T q3.F d1,q3.E2 X G⟩;have d4:Dd4 z:=⟨_,_,adn z T q4.F d3,q4.E2 X G⟩;have d5:Dd5 z:=⟨_,_,am2 z T q5.F d4,q5.E2 X G⟩;have d6:Dd6 z:=⟨_,_,am1 z T q6.F,q6.E1 X G⟩;have d7:Dd7 z:=⟨_,_,ais z T q7.F d5,q7.E1 X G⟩;have d8:Dd8 z:=⟨_,_,aka z T q8.F,q8.E2 X G⟩;have d9:Dd9 z:=⟨_,_,afx z T q9.F d6 d8,q9.E1 X G⟩;have d10:Dd10 z:=⟨_,_,ag9 z T q10.F,q10.E1 X G⟩;have d11:Dd11 z:=⟨_,_,abp z T q11.F d9 d7,q11.E1 X G⟩;have x11:Dx11 z:=⟨_,_,aaz z T q11.F d9 d7,q11.E1 X G⟩;have d12:Dd12 z:=⟨_,_,ag8 z T q12.F d2 d3 d1,q12.E2 X G⟩;have d13:Dd13 z:=⟨_,_,aee z T q13.F d10 d12,q13.E2 X G⟩;have d14:Dd14 z:=⟨_,_,am0 z T q14.F d11 d13 x11,q14.E2 X G⟩;have x14:Dx14 z:=⟨_,_,aj8 z T q14.F d11 d13 x11,q14.E2 X G⟩;have d15:Dd15 z:=⟨_,_,aiw z T q15.F,q15.E2 X G⟩;have d16:Dd16 z:=⟨_,_,akb z T q16.F,q16.E1 X G⟩;have d17:Dd17 z:=⟨_,_,aiv z T q17.F,q17.E2 X G⟩;have d18:Dd18 z:=⟨_,_,aha z T q18.F,q18.E1 X G⟩;have d19:Dd19 z:=⟨_,_,akc z T q19.F d17,q19.E1 X G⟩;have d20:Dd20 z:=⟨_,_,ahc z T q20.F d17,q20.E2 X G⟩;have u21:Du21 z:=⟨_,_,ag7 z T q21.F,q21.E1 X G⟩;have d22:Dd22 z:=⟨_,_,afy z T q22.F d17,q22.E3 X G⟩;have d23:Dd23 z:=⟨_,_,ait z T q23.F,q23.E4 X G⟩;have d24:Dd24 z:=⟨_,_,ahd z T q24.F,q24.E1 X G⟩;have d25:Dd25 z:=⟨_,_,ae6 z T q25.F d18 d24,q25.E2 X G⟩;have d26:Dd26 z:=⟨_,_,aef z T q26.F d17,q26.E1 X G⟩;have d27:Dd27 z:=⟨_,_,aiu z T q27.F d23,q27.E2 X G⟩;have d28:Dd28 z:=⟨_,_,aix z T q28.F d17,q28.E3 X G⟩;have d29:Dd29 z:=⟨_,_,ahb z T q29.F d14 d25,q29.E2 X G⟩;have d30:Dd30 z:=⟨_,_,ae5 z T q30.F d14 x14 u21,q30.E2 X G⟩;exact ay2 z T F31 d29 d15 d16 d22 d20 d27 d17 d24 d19 d28 d26 d30
end My
set_option genInjectivity false in
structure PySem.W.Fast where(tw8166585118068835360 tw17527816881925757632 tw11034838442222054081 tw17382267745184204803 tw7811372339594886083 tw9403365795488678660 tw17356910013359298725 tw11075357788465052678 tw18397910490270142598 tw6750066365823639782 tw10497967985810314566 tw260900106094576935 tw1254247901054688711 tw754853025669291879 tw11164033757285527176 tw15342517734165593992 tw4112758738247945321 tw1279176975052328841 tw18119208036642098602 tw11077745876381164875 tw17980871002497097067 tw13150971880352244107 tw3754993722903596748 tw2828709470568337196 tw13730917849712376717 tw7366204621457716334 tw9787131542809825198 tw8614709878830581199 tw5642841506345007599 tw5691300692809161423 tw6818569918979618416 tw3882212752061276689 tw12823250526665085553 tw7232383617527095025 tw2713379900848203505 tw12992145231911814226 tw413806467203181842 tw17004291398031467954 tw13020491340226173810 tw4822699015578987827 tw15901819807366317971 tw16249157565853728660 tw16877216130496106678 tw11381085500033327734 tw10330385801833193560 tw4059504204109052088 tw16506699286147954904 tw12304524923000860056 tw5716349400460919288 tw1413910704285890136 tw11044328348933693400 tw13999343645339420409 tw12317338764210066842 tw16578499853925939707 tw17563652960767051323 tw11117541576942001819 tw12208324755247236892 tw14389270172794680637 tw1966488984519354077 tw17439149845629267773 tw18078640239616551869 tw7418981801938626751 tw16803862851317630463 tw6671545110922818010 tw16604072137267838601 tw7749732299521320681 tw14081839413683413028 tw4540230451822876674 tw16825728368712984454 tw8819611124427824814 tw6046435327328080726 tw15070955226150986628 tw17956694378473527348 tw7538951546912066014 tw18380538028692358428 tw12750162391238353488 tw5844370657665375659 tw5586761101502012824 tw2827236956968452821 tw17228558665040158953 tw17457765499719473088 tw6850925868689059096 tw3875943586615163014 tw3285646284994102202 tw7311385819646291586 tw4542373197392407271 tw17175273095379361655 tw11944084472280225345 tw1452723097922472727 tw9515856604724715343 tw8796430051157654917 tw3512934818677253234 tw16897814342696769721 tw3015945672003710585 tw913398826560494190 tw5061794050248738034 tw14669560268114765658 tw17495480485693252272 tw11025609415229836447 tw9525810702346897084 tw1742906882392867576 tw11080758732432985140 tw9277170524806284739 tw3763983518177132095 tw16774667094834725946 tw9625515765170714596 tw10234451791582126925 tw1174192316776376190 tw2168896644313693269 tw15587560913572995157 tw14605063900842166361 tw15496733054389624378 tw9190803760740167291 tw10241213515438697910 tw9723360558103289999 tw7088113159051033115 tw9054404840868799960 tw6819166420253980879 tw10018517254673703088 tw3359170115259621793 tw13432216569077755062 tw14691627159490166859 tw3591923805099115241 tw15386841117351305295 tw12434568140391471225 tw17784555828986934443 tw14906839613003589629 tw5928632663254923116 tw16510378602750392037 tw4024139736385837800 tw10317393694380369910 tw11634850099314225864 tw7833588198003821826 tw10498270459499595091 tw14611240111683654935 tw1794435101691897382 tw424714019400753515 tw17890799114579016788 tw6763184308039368415 tw6535195493730163455 tw7452935296774772838 tw3300288178171996406 tw14058083273443122302 tw10026863745241529241 tw2245674515291392364 tw9049078843477709405 tw13011007258150380159 tw4845424099665838706 tw3403957428893516893 tw9717821467453547031 tw6754351842774505533 tw14444003373817535134 tw3700943851846091645 tw11403294769096262411 tw9508501665927764531 tw7151700604014392484 tw5152928267604906231 tw11168185646345870213 tw14655100806199647054 tw8282684437377629162 tw10188091018145726407 tw4549502494788257633 tw16727586118792550242 tw6009326050588734013 tw10394135841180975148 tw4375237466946925064 tw3147946993429151318 tw10393033288902546336 tw16346594579374170626 tw8563970922353444622 tw622308219662794857 tw17358624124454210456 tw16612584585257023258 tw2841039852179614536 tw12808326112607197322 tw12322654143726484221 tw9548392114734122207 tw13562220289933508639 tw3910851882966965912 tw16895128429107412056 tw7514701753779836710 tw16794895768345814049:Unit)
open PySem PySem.W PyProof.Rows
set_option maxRecDepth 100000 in
set_option maxHeartbeats 0 in
theorem PySem.Challenge.cw_turnarrows_k66_what_is_a_tour_holds : PySem.Challenge.rw_turnarrows_k66_what_is_a_tour.Holds := by
 w_on;o_law;k_head;(case hw=>w_witness2)
 k_fill
 refine Dn.walk (l:=PySem.Challenge.rw_turnarrows_k66_what_is_a_tour) (f:=My.apo) (k:=10) My.ar7 rfl rfl ⟨rfl,by decide,by decide,rfl⟩ (fun w h Y=>PySem.W.kIn_of Y) ?F
 case F =>
  intro w mg fa h KX G hmg;refine' My.a0t KX G hmg ?_ ?_ ?_ ?_ ?_ ?_ ?_ ?_ ?_ ?_ ?_ ?_ ?_ ?_ ?_ ?_ ?_ ?_ ?_ ?_ ?_ ?_ ?_ ?_ ?_ ?_ ?_ ?_ ?_ ?_ ?_ ?_ ?_ ?_ ?_ ?_ ?_ ?_ ?_ ?_ ?_ ?_ ?_ ?_ ?_ ?_ ?_ ?_ ?_ ?_ ?_ ?_ ?_ ?_ ?_ ?_
  all_goals try refine' And.intro ?_ (And.intro ?_ (And.intro ?_ ?_))
  any_goals k_is
  all_goals kernel_rfl
