import PyProof.Rows.All
import Wide.All
import OpenK.AllK
import Wide.FinOn
import Lean
import PyProof.EqAt
import PyProof.EqKinds
import PyProof.TupleCall
import PySem.Challenge.RW_turnarrows_k47_all_walkers_led_back
set_option Elab.async false
set_option linter.all false
set_option maxRecDepth 100000
namespace L2
open PySem PySem.Spec PyProof.Rows
noncomputable abbrev Key:=Sum Int Str
noncomputable def ayl:Key→Value→Bool
  | .inl k,v=>Value.isInt k v
  | .inr x,v=>Value.isStrOf x v
noncomputable def keyH (w:World):Key→Int
  | .inl k=>hashInt k
  | .inr x=>hashStr w x
theorem mj:∀ {k:Key} {v:Value},ayl k v=true→(∃ i t,k=Sum.inl i∧v=Value.int i t)∨(∃ x t,k=Sum.inr x∧v=Value.str x t)
  | .inl i,v,h=>by
    obtain ⟨t,e⟩:=Value.isInt_shape (k:=i) (v:=v) h
    exact .inl ⟨i,t,rfl,e⟩
  | .inr x,v,h=>by
    obtain ⟨t,e⟩:=Value.isStrOf_shape (x:=x) (v:=v) h
    exact .inr ⟨x,t,rfl,e⟩
theorem ayk (a b:Int):decide ((Sum.inl a:Key)=Sum.inl b)=(a==b):=by
  by_cases e:a=b
  · subst e; simp
  · have h:¬(Sum.inl a:Key)=Sum.inl b:=fun q=>e (Sum.inl.inj q)
    rw [decide_eq_false h]
    exact (beq_eq_false_iff_ne.mpr e).symm
theorem ayh (a b:Str):decide ((Sum.inr a:Key)=Sum.inr b)=decide (a=b):=by
  by_cases e:a=b
  · subst e; simp
  · have h:¬(Sum.inr a:Key)=Sum.inr b:=fun q=>e (Sum.inr.inj q)
    rw [decide_eq_false h,decide_eq_false e]
theorem ayj (a:Int) (b:Str):decide ((Sum.inl a:Key)=Sum.inr b)=false:=decide_eq_false (fun q=>nomatch q)
theorem ayi (a:Str) (b:Int):decide ((Sum.inr a:Key)=Sum.inl b)=false:=decide_eq_false (fun q=>nomatch q)
noncomputable def aow (prog:Program) (w:World):PySem.KeyKind prog w Key where
  is:=ayl
  hash:=keyH w
  inj:=fun v a b ha hb=>by
    rcases mj ha with ⟨i,t,rfl,rfl⟩ | ⟨x,t,rfl,rfl⟩
    · rcases mj hb with ⟨j,u,rfl,e⟩ | ⟨y,u,rfl,e⟩
      · injection e with e1 _; rw [e1]
      · exact nomatch e
    · rcases mj hb with ⟨j,u,rfl,e⟩ | ⟨y,u,rfl,e⟩
      · exact nomatch e
      · injection e with e1 _; rw [e1]
  byValue:=fun k v h=>by
    rcases mj h with ⟨i,t,rfl,rfl⟩ | ⟨x,t,rfl,rfl⟩ <;> rfl
  pyHash:=fun hv h=>by
    rcases mj hv with ⟨i,t,rfl,rfl⟩ | ⟨x,t,rfl,rfl⟩
    · exact wpAny_pyHash_int h
    · exact wpAny_pyHash_str h
  eqBool:=fun hu hv h=>by
    rcases mj hu with ⟨i,t,rfl,rfl⟩ | ⟨x,t,rfl,rfl⟩
    · rcases mj hv with ⟨j,u,rfl,rfl⟩ | ⟨y,u,rfl,rfl⟩
      · rw [ayk] at h; exact wpAny_eqBool_int h
      · rw [ayj] at h; exact SeqAt.EqAt.int_str i t y u _ _ _ _ h
    · rcases mj hv with ⟨j,u,rfl,rfl⟩ | ⟨y,u,rfl,rfl⟩
      · rw [ayi] at h; exact SeqAt.EqAt.str_int x t j u _ _ _ _ h
      · rw [ayh] at h; exact wpAny_eqBool_str h
  «strs» := fun k x t v h=>by
    rcases mj h with ⟨i,u,rfl,e⟩ | ⟨y,u,rfl,e⟩
    · exact nomatch e
    · injection e with e1 _
      subst e1
      cases v <;> rfl
end L2
namespace L2
open PySem PySem.Spec PyProof.Rows
noncomputable def IsTp (h:Heap) (a:Addr) (items:Array Value):Prop:=∃ o,h.get? a=some o∧o.cls=.type "tuple" ∧ o.dict=none∧∃ n,o.data=.seq items n
theorem IsTp.tup {h:Heap} {a:Addr} {items:Array Value} (x:IsTp h a items):IsTup h a items:=let ⟨o,e,c,_,n,d⟩:=x; ⟨o,e,c,n,d⟩
theorem IsTp.new (h:Heap) (items:Array Value):IsTp (h.push { cls:=.type "tuple", data:=.seq items }) h.objs.size items:=⟨_,Heap.get?_push_size _ rfl,rfl,rfl,_,rfl⟩
end L2
namespace L2
open PySem PySem.Spec PyProof.Rows
inductive V where
  | non | bl (b:Bool) | int (i:Int) | str (x:Str) | byt (b:Array UInt8) | flt (b:UInt64) | ref (a:Addr) | ty (n:String)
  deriving DecidableEq
noncomputable def RelV:V→Value→Prop
  | .non,u=>u=Value.none
  | .bl b,u=>u=Value.bool b
  | .int i,u=>∃ t,u=Value.int i t
  | .str x,u=>∃ t,u=Value.str x t
  | .byt b,u=>∃ t,u=Value.bytes b t
  | .flt b,u=>∃ t,u=Value.float b t
  | .ref a,u=>u=Value.ref a
  | .ty n,u=>u=Value.type n
noncomputable abbrev Vals:List V→List Value→Prop:=Paired RelV
theorem Vals.length {xs:List V} {us:List Value} (r:Vals xs us):xs.length=us.length:=Paired.length r
theorem Vals.get:∀ {xs:List V} {us:List Value} {i:Nat} {x:V},Vals xs us→xs[i]? = some x→∃ u,us[i]? = some u∧RelV x u
  | _,_,_,_,.nil,e=>by simp at e
  | _,_,0,_,.cons r _,e=>by simp at e; subst e; exact ⟨_,rfl,r⟩
  | _,_,i+1,x,.cons _ t,e=>by
    obtain ⟨u,h1,h2⟩:=Vals.get (i:=i) (x:=x) t (by simpa using e)
    exact ⟨u,by simpa using h1,h2⟩
theorem Vals.set {x:V} {u:Value} (r:RelV x u):∀ {xs:List V} {us:List Value} (i:Nat),Vals xs us→Vals (xs.set i x) (us.set i u)
  | _,_,_,.nil=>.nil
  | _,_,0,.cons _ t=>.cons r t
  | _,_,i+1,.cons q t=>.cons q (Vals.set r i t)
theorem Vals.append:∀ {xs ys:List V} {us ws:List Value},Vals xs us→Vals ys ws→Vals (xs++ys) (us++ws)
  | _,_,_,_,.nil,s=>s
  | _,_,_,_,.cons r t,s=>.cons r (Vals.append t s)
theorem Vals.take:∀ {xs:List V} {us:List Value} (n:Nat),Vals xs us→Vals (xs.take n) (us.take n)
  | _,_,0,_=>.nil
  | _,_,_+1,.nil=>.nil
  | _,_,n+1,.cons r t=>.cons r (Vals.take n t)
theorem Vals.drop:∀ {xs:List V} {us:List Value} (n:Nat),Vals xs us→Vals (xs.drop n) (us.drop n)
  | _,_,0,r=>r
  | _,_,_+1,.nil=>.nil
  | _,_,n+1,.cons _ t=>Vals.drop n t
theorem Vals.none_of:∀ {xs:List V} {us:List Value} {i:Nat},Vals xs us→xs[i]? = none→us[i]? = none:=fun {xs us i} r e=>by
  have h1:=r.length
  have h2:xs.length≤i:=List.getElem?_eq_none_iff.mp e
  exact List.getElem?_eq_none_iff.mpr (by omega)
noncomputable def RelO:Option V→Option Value→Prop
  | some v,some u=>RelV v u
  | none,none=>True
  | _,_=>False
noncomputable def KV {κ:Type}:List (κ×V)→List (κ×Value)→Prop:=Paired fun (p:κ×V) (q:κ×Value)=>p.1=q.1∧RelV p.2 q.2
noncomputable def kV:Key→V
  | .inl i=>.int i
  | .inr x=>.str x
inductive HO where
  | lst (xs:List V)
  | tup (xs:List V)
  | dK (kvs:List (Key×V)) | dT (kvs:List (List Key×V))
  | set (S:Int→Bool) (n:Nat)
  | ins (C dx:Addr) (fs:List (Str×V))
  | own (x:Addr)
  | xd (fs:List (Str×V))
  | met (f x:Addr)
  | rng (lo hi:Int)
  | frz (o:Obj) (u:HO)
  | tbl (ps:Array Value)
  | ext (φ:Heap→Prop)
noncomputable abbrev Hp:=Addr→Option HO
noncomputable def upd (H:Hp) (a:Addr) (o:HO):Hp:=fun b=>if b=a then some o else H b
theorem jh {H:Hp} {a:Addr} {o:HO}:upd H a o a=some o:=by unfold upd; rw [if_pos rfl]
theorem fc {H:Hp} {a b:Addr} {o:HO} (h:b≠a):upd H a o b=H b:=by unfold upd; rw [if_neg h]
theorem jz {H:Hp} {a b:Addr} {o:HO} (h:H a=some o) (h':H b=none):a≠b:=by
  intro e; subst e; rw [h] at h'; cases h'
section
variable (P:Program) (w:World)
noncomputable def za (H:Hp) (h:Heap) (a:Addr):HO→Prop
  | .lst xs=>xs.length≤sizeLine∧∃ (its:List Value) (n:Nat),Vals xs its∧h.get? a=some { cls:=.type "list", data:=.seq its.toArray n }
  | .tup xs=>xs.length≤sizeLine∧∃ its:List Value,Vals xs its∧IsTp h a its.toArray
  | .dK kvs=>kvs.length≤sizeLine∧(a==sysModules)=false∧∃ vs,KV kvs vs∧h.DictOf (aow P w) a vs
  | .dT kvs=>kvs.length≤sizeLine∧(a==sysModules)=false∧∃ xs:List (List Key×Addr×Value),
      Paired (fun (p:List Key×V) (q:List Key×Addr×Value)=>p.1=q.1∧H q.2.1=some (.tup (p.1.map kV))∧RelV p.2 q.2.2) kvs xs ∧
      ∃ o es ep,h.get? a=some o∧o.ExactDict∧o.data=.dict es ep∧es.toList=xs.map (entryOfKey (tupleKind (aow P w)))∧(xs.map (·.1)).Nodup
  | .set S n=>h.SetOf (intKind P w) a S n
  | .ins C dx fs=>H dx=some (.own a)∧fs.length≤1000∧dx≠a∧h.get? a=some (PySem.W.instObj C dx) ∧
      ∃ mA,h.Ns1 dx mA∧(∀ f,RelO (fs.lookup f) (mA f))∧PySem.Within mA (fs.map (·.1))
  | .own _=>∃ o,h.get? a=some o
  | .xd fs=>∃ mA,h.Ns1 a mA∧∀ f,RelO (fs.lookup f) (mA f)
  | .rng lo hi=>∃ t u v,h.get? a=some { cls:=.type "range", data:=.fields #[.int lo t,.int hi u,.int 1 v] }
  | .frz o u=>h.get? a=some o∧za H h a u
  | .tbl ps=>h.get? a=some { cls:=.none,data:=.fields ps }
  | .met f x=>h.get? a=some (PySem.W.methodObj (.ref f) (.ref x))
  | .ext φ=>φ h∧(∃ o,h.get? a=some o)∧∀ h1 h2:Heap,φ h1→(∀ o,h1.get? a=some o→h2.get? a=some o)→φ h2
noncomputable def HOk (H:Hp) (h:Heap):Prop:=∀ a o,H a=some o→za P w H h a o
end
section
variable {P:Program} {w:World} {H H':Hp} {h h':Heap} {a:Addr} {o:HO}
theorem za.lt (x:za P w H h a o):a < h.objs.size:=by
  cases o with
  | lst xs=>obtain ⟨_,_,_,_,e⟩:=x; exact Heap.lt_size e
  | tup xs=>obtain ⟨_,_,_,p⟩:=x; exact p.tup.lt
  | dK kvs=>obtain ⟨_,_,_,_,o,_,_,e,_⟩:=x; exact Heap.lt_size e
  | dT kvs=>obtain ⟨_,_,_,_,o,_,_,e,_⟩:=x; exact Heap.lt_size e
  | set S n=>obtain ⟨o,_,_,_,e,_⟩:=x; exact Heap.lt_size e
  | ins C dx fs=>obtain ⟨_,_,_,e,_⟩:=x; exact Heap.lt_size e
  | own y=>obtain ⟨_,e⟩:=x; exact Heap.lt_size e
  | xd fs=>obtain ⟨_,⟨_,_,_,e,_⟩,_⟩:=x; exact Heap.lt_size e
  | rng lo hi=>obtain ⟨_,_,_,e⟩:=x; exact Heap.lt_size e
  | frz ob u=>obtain ⟨e,_⟩:=x; exact Heap.lt_size e
  | tbl ps=>exact Heap.lt_size (show h.get? a=some _ from x)
  | met f y=>exact Heap.lt_size (show h.get? a=some _ from x)
  | ext φ=>obtain ⟨_,⟨_,e⟩,_⟩:=x; exact Heap.lt_size e
theorem Paired.mapP {α β:Type} {F G:α→β→Prop}:∀ {l₁:List α} {l₂:List β},Paired F l₁ l₂→(∀ a b,F a b→G a b)→Paired G l₁ l₂
  | _,_,.nil,_=>.nil
  | _,_,.cons r t,f=>.cons (f _ _ r) (Paired.mapP t f)
theorem za.stay (x:za P w H h a o) (k:∀ b u,(b=a∨H b=some (.own a))→h.get? b=some u→h'.get? b=some u)
    (ho:∀ b,H b=some (.own a)→H' b=some (.own a)) (ht:∀ b xs,H b=some (.tup xs)→H' b=some (.tup xs)):za P w H' h' a o:=by
  induction o with
  | lst xs=>obtain ⟨z,its,n,r,e⟩:=x; exact ⟨z,its,n,r,k _ _ (.inl rfl) e⟩
  | tup xs=>obtain ⟨z,its,r,ob,e,c⟩:=x; exact ⟨z,its,r,ob,k _ _ (.inl rfl) e,c⟩
  | dK kvs=>obtain ⟨z,y,vs,r,ob,es,ep,e,c⟩:=x; exact ⟨z,y,vs,r,ob,es,ep,k _ _ (.inl rfl) e,c⟩
  | dT kvs =>
    obtain ⟨z,y,xs,r,ob,es,ep,e,c⟩:=x
    exact ⟨z,y,xs,Paired.mapP r fun p q z=>⟨z.1,ht _ _ z.2.1,z.2.2⟩,ob,es,ep,k _ _ (.inl rfl) e,c⟩
  | set S n=>obtain ⟨ob,es,ep,t,e,c⟩:=x; exact ⟨ob,es,ep,t,k _ _ (.inl rfl) e,c⟩
  | ins C dx fs =>
    obtain ⟨d,z,ne,e,mA,⟨od,es,ep,e2,c⟩,r⟩:=x
    exact ⟨ho _ d,z,ne,k _ _ (.inl rfl) e,mA,⟨od,es,ep,k _ _ (.inr d) e2,c⟩,r⟩
  | own y=>obtain ⟨ob,e⟩:=x; exact ⟨ob,k _ _ (.inl rfl) e⟩
  | xd fs=>obtain ⟨mA,⟨od,es,ep,e,c⟩,r⟩:=x; exact ⟨mA,⟨od,es,ep,k _ _ (.inl rfl) e,c⟩,r⟩
  | rng lo hi=>obtain ⟨t,u,v,e⟩:=x; exact ⟨t,u,v,k _ _ (.inl rfl) e⟩
  | frz ob u ih=>obtain ⟨e,q⟩:=x; exact ⟨k _ _ (.inl rfl) e,ih q⟩
  | tbl ps =>
    have e:h.get? a=some { cls:=.none,data:=.fields ps }:=x
    show h'.get? a=some { cls:=.none,data:=.fields ps }
    exact k a _ (.inl rfl) e
  | met f y =>
    have e:h.get? a=some (PySem.W.methodObj (.ref f) (.ref y)):=x
    show h'.get? a=some (PySem.W.methodObj (.ref f) (.ref y))
    exact k a _ (.inl rfl) e
  | ext φ=>obtain ⟨p,⟨o,e⟩,st⟩:=x; exact ⟨st _ _ p fun o q=>k _ _ (.inl rfl) q,⟨o,k _ _ (.inl rfl) e⟩,st⟩
theorem HOk.lt (x:HOk P w H h) (e:H a=some o):a < h.objs.size:=(x a o e).lt
theorem HOk.fresh (x:HOk P w H h) (e:h.objs.size≤a):H a=none:=by
  cases q:H a with
  | none=>rfl
  | some u=>exact absurd (Nat.lt_of_lt_of_le (x.lt q) e) (Nat.lt_irrefl _)
theorem HOk.kept (x:HOk P w H h) (k:∀ b u,h.get? b=some u→h'.get? b=some u):HOk P w H h':=fun a o e =>
  (x a o e).stay (fun b u _ q=>k b u q) (fun _ q=>q) fun _ _ q=>q
theorem HOk.laid (x:HOk P w H h) (k:∀ b u,h.get? b=some u→h'.get? b=some u) (hp:h.objs.size≤a) (new:za P w (upd H a o) h' a o):HOk P w (upd H a o) h':=fun b u e=>by
  have hn:=x.fresh hp
  by_cases hb:b=a
  · subst hb; rw [jh] at e; cases e; exact new
  · rw [fc hb] at e
    exact (x b u e).stay (fun c v _ q=>k c v q) (fun c q=>by rw [fc (jz q hn)]; exact q) fun c xs q=>by rw [fc (jz q hn)]; exact q
end
noncomputable def Rd (H:Hp) (a:Addr) (u:HO):Prop:=H a=some u∨∃ o,H a=some (.frz o u)
theorem Rd.of {H:Hp} {a:Addr} {u:HO} (h:H a=some u):Rd H a u:=.inl h
theorem Rd.ok {P:Program} {w:World} {H:Hp} {h:Heap} {a:Addr} {u:HO} (r:Rd H a u) (x:HOk P w H h):za P w H h a u:=by
  rcases r with r | ⟨o,r⟩
  · exact x a u r
  · obtain ⟨_,q⟩:=x a _ r
    exact q
noncomputable def Mut:Option HO→Prop
  | some (.lst _)=>True
  | some (.dK _)=>True
  | some (.dT _)=>True
  | some (.set _ _)=>True
  | some (.ins _ _ _)=>True
  | some (.ext _)=>True
  | _=>False
section
variable {P:Program} {w:World} {H:Hp} {h h':Heap} {x e:Addr} {o':HO}
theorem HOk.write (ok:HOk P w H h) (mu:Mut (H x)) (he:e=x∨H e=some (.own x)) (k:∀ b u,b≠e→h.get? b=some u→h'.get? b=some u) (heo:∃ u,h'.get? e=some u)
    (new:za P w (upd H x o') h' x o'):HOk P w (upd H x o') h':=fun b u q=>by
  have nown:∀ c y,H c=some (.own y)→c≠x:=fun c y r z=>by subst z; rw [r] at mu; exact mu
  have ntup:∀ c xs,H c=some (.tup xs)→c≠x:=fun c xs r z=>by subst z; rw [r] at mu; exact mu
  by_cases hb:b=x
  · subst hb; rw [jh] at q; cases q; exact new
  · rw [fc hb] at q
    by_cases hbe:b=e
    · have q':H b=some (.own x):=by
        rcases he with z | z
        · exact absurd (hbe.trans z) hb
        · rw [hbe]; exact z
      rw [q] at q'; cases q'
      obtain ⟨v,hv⟩:=heo
      exact ⟨v,by rw [hbe]; exact hv⟩
    · refine (ok b u q).stay (fun c v hc r=>k c v ?_ r) (fun c r=>by rw [fc (nown c b r)]; exact r) fun c xs r=>by rw [fc (ntup c xs r)]; exact r
      rcases hc with rfl | hc
      · exact hbe
      · rintro rfl
        rcases he with z | z
        · exact nown c b hc z
        · rw [hc] at z; cases z; exact hb rfl
end
structure Un (fs ex:List Addr) (H H':Hp) (h h':Heap):Prop where
  keep:∀ b o,h.get? b=some o→H b=none→b∉fs→b∉ex→h'.get? b=some o
  slot:∀ b o,h.get? b=some o→H b=none→b∈fs→b∉ex→∃ sl,h'.get? b=some { o with slots:=sl }
  free:∀ b o,h.get? b=some o→H b=none→b∉ex→H' b=none
  there:∀ b o,h.get? b=some o→b∉ex→∃ o',h'.get? b=some o'
  tups:∀ b xs,H b=some (.tup xs)→H' b=some (.tup xs)
  frzs:∀ b o u,H b=some (.frz o u)→H' b=some (.frz o u)
  tbls:∀ b ps,H b=some (.tbl ps)→∃ more,H' b=some (.tbl (ps++more))
section
variable {fs fs' ex ex':List Addr} {H H1 H2:Hp} {h h1 h2 h':Heap} {a x e:Addr} {o:HO}
theorem Un.any (u:Un fs ex H H1 h h1) {b:Addr} {ob:Obj} (q:h.get? b=some ob) (n:H b=none) (hx:b∉ex):∃ sl,h1.get? b=some { ob with slots:=sl }:=by
  by_cases hb:b∈fs
  · exact u.slot b ob q n hb hx
  · exact ⟨ob.slots,u.keep b ob q n hb hx⟩
theorem Un.trans (a:Un fs ex H H1 h h1) (b:Un fs ex H1 H2 h1 h2):Un fs ex H H2 h h2 where
  keep:=fun c ob q n hc hx=>b.keep c ob (a.keep c ob q n hc hx) (a.free c ob q n hx) hc hx
  slot:=fun c ob q n hc hx=>by
    obtain ⟨sl,e1⟩:=a.slot c ob q n hc hx
    obtain ⟨sl',e2⟩:=b.slot c _ e1 (a.free c ob q n hx) hc hx
    exact ⟨sl',e2⟩
  free:=fun c ob q n hx=>by
    obtain ⟨o',e1⟩:=a.there c ob q hx
    exact b.free c o' e1 (a.free c ob q n hx) hx
  there:=fun c ob q hx=>by
    obtain ⟨o',e1⟩:=a.there c ob q hx
    exact b.there c o' e1 hx
  tups:=fun c xs q=>b.tups c xs (a.tups c xs q)
  frzs:=fun c ob xs q=>b.frzs c ob xs (a.frzs c ob xs q)
  tbls:=fun c ps q=>by
    obtain ⟨m1,e1⟩:=a.tbls c ps q
    obtain ⟨m2,e2⟩:=b.tbls c _ e1
    exact ⟨m1++m2,by rw [e2,Array.append_assoc]⟩
theorem Un.kept (k:∀ b u,h.get? b=some u→h'.get? b=some u):Un fs ex H H h h' :=
  ⟨fun b ob q _ _ _=>k b ob q,fun b ob q _ _ _=>⟨ob.slots,k b ob q⟩,fun _ _ _ n _=>n,fun b ob q _=>⟨ob,k b ob q⟩,fun _ _ q=>q,fun _ _ _ q=>q,fun _ ps q=>⟨#[],by rw [q]; simp⟩⟩
theorem Un.refl:Un fs ex H H h h:=Un.kept fun _ _ q=>q
theorem Un.laid (k:∀ b u,h.get? b=some u→h'.get? b=some u) (hp:h.objs.size≤a) (hn:H a=none):Un fs ex H (upd H a o) h h' where
  keep:=fun b u q _ _ _=>k b u q
  slot:=fun b u q _ _ _=>⟨u.slots,k b u q⟩
  free:=fun b u q n _=>by rw [fc (Nat.ne_of_lt (Nat.lt_of_lt_of_le (Heap.lt_size q) hp))]; exact n
  there:=fun b u q _=>⟨u,k b u q⟩
  tups:=fun b xs q=>by rw [fc (jz q hn)]; exact q
  frzs:=fun b u xs q=>by rw [fc (jz q hn)]; exact q
  tbls:=fun b ps q=>⟨#[],by rw [fc (jz q hn),q]; simp⟩
theorem Un.write (mu:Mut (H x)) (he:e=x∨H e=some (.own x)) (k:∀ b u,b≠e→h.get? b=some u→h'.get? b=some u) (heo:∃ u,h'.get? e=some u):Un fs ex H (upd H x o) h h':=by
  have hx:∀ b,H b=none→b≠x:=fun b n z=>by subst z; rw [n] at mu; exact mu
  have hb:∀ b,H b=none→b≠e:=fun b n z=>by
    subst z
    rcases he with r | r
    · exact hx b n r
    · rw [n] at r; cases r
  have hm:∀ b u,H b=some u→¬Mut (some u)→b≠x:=fun b u q nm z=>by subst z; rw [q] at mu; exact nm mu
  refine ⟨fun b u q n _ _=>k b u (hb b n) q,fun b u q n _ _=>⟨u.slots,k b u (hb b n) q⟩,fun b u q n _=>by rw [fc (hx b n)]; exact n,fun b u q _ => ?_,
    fun b xs q=>by rw [fc (hm b _ q fun z=>z)]; exact q,fun b u xs q=>by rw [fc (hm b _ q fun z=>z)]; exact q,fun b ps q=>⟨#[],by rw [fc (hm b _ q fun z=>z),q]; simp⟩⟩
  by_cases hbe:b=e
  · subst hbe; exact heo
  · exact ⟨u,k b u hbe q⟩
theorem Un.mono (u:Un fs ex H H1 h h1) (hs:∀ b∈fs,b∈fs') (hx:∀ b∈ex,b∈ex'):Un fs' ex' H H1 h h1 :=
  ⟨fun b ob q n hb he=>u.keep b ob q n (fun z=>hb (hs b z)) fun z=>he (hx b z),fun _ _ q n _ he=>u.any q n fun z=>he (hx _ z),fun b ob q n he=>u.free b ob q n fun z=>he (hx b z),fun b ob q he=>u.there b ob q fun z=>he (hx b z),u.tups,u.frzs,u.tbls⟩
end
noncomputable def trk (h:Heap) (H:Hp):List Addr:=(List.range h.objs.size).filter fun a=>(H a).isSome
noncomputable def hidT (h:Heap) (H:Hp):Heap:=PySem.W.hideAll h (trk h H)
theorem ao9 (h:Heap) (H:Hp):(hidT h H).objs.size=h.objs.size:=PySem.W.hideAll_size _ _
theorem ar4 {h:Heap} {H:Hp} {b:Addr} {o:Obj} (e:h.get? b=some o) (n:H b=none):(hidT h H).get? b=some o :=
  PySem.W.hideAll_get _ e fun hm=>by
    have q:(H b).isSome=true:=(List.mem_filter.mp hm).2
    rw [n] at q; simp at q
theorem auy {h:Heap} {H:Hp} {b:Addr} {o:Obj} (e:(hidT h H).get? b=some o):h.get? b=some o∧H b=none:=by
  have e':h.get? b=some o:=PySem.W.of_hideAll (trk h H) e
  refine ⟨e',?_⟩
  cases q:H b with
  | none=>rfl
  | some x =>
    have hm:b∈trk h H:=List.mem_filter.mpr ⟨List.mem_range.mpr (Heap.lt_size e'),by simp [q]⟩
    have z:(hidT h H).get? b=none:=PySem.W.hideAll_none (trk h H) hm
    rw [z] at e; cases e
noncomputable def awg (g h:Heap) (L:Addr):List (Addr×Obj):=(List.range h.objs.size).filterMap fun a=>if a=L∨(g.get? a).isSome=true then none else (h.get? a).map fun o=>(a,o)
noncomputable def rest (g h:Heap) (L d:Addr):List (Addr×Obj):=(awg g h L).filter fun p=>decide (p.1≠d)
end L2
namespace L2
open PySem PySem.Spec PyProof.Rows
structure Mod (K:PySem.W.Frag) (mg:Str→Option Value) (base:Heap):Prop where
  kin:K.In base
  glob:base.Ns mainGlobals mg
  blt:∃ mb,base.Ns builtinsNs mb∧∀ x:Str,x ≠ "__name__" → mb x=bootBuiltins x
  nolimit:base.NoLimit
structure Cx where
  prog:Program
  w:World
  K:PySem.W.Frag
  mg:Str→Option Value
  base:Heap
  A:Around
  N:List Str
  s₀:Shared
  H₀:Hp
  env:Env
  outer:List Env
  stack:List Env
  ex:List Addr
  fn:Str→Bool
  calm:Bool
  pn:List (Addr×Obj)
  xe:Value→Shared→Prop
noncomputable def frs (l:List Env):List Addr:=l.filterMap (·.frame)
noncomputable abbrev Cx.fs (X:Cx):List Addr:=frs X.outer
noncomputable def Vis (sc:Scope) (x:Str):Prop:=sc.names.lookup x=some .local∨sc.names.lookup x=some .cell∨sc.names.lookup x=some .free
noncomputable def Loc (sc:Scope) (x:Str):Prop:=sc.names.lookup x=some .local∨sc.names.lookup x=some .cell
noncomputable def Look (env:Env) (h:Heap) (m:Str→Option Value) (x:Str) (u:Value):Prop :=
  (env.kindOf x=some .local∧m x=some u)∨((env.kindOf x=some .cell∨env.kindOf x=some .free)∧∃ c,env.cells.lookup x=some c∧h.IsCell c (some u))
structure Cx.Ok (X:Cx):Prop where
  mod:Mod X.K X.mg X.base
  kind:X.env.scope.kind=.function
  glob:X.env.globals=mainGlobals
  blt:X.env.builtins=builtinsNs
  above:X.s₀.heap.objs.size≤X.env.locals
  inj:∀ x y c,X.env.cells.lookup x=some c→X.env.cells.lookup y=some c→x=y
  has:∀ x,(X.env.kindOf x=some .cell∨X.env.kindOf x=some .free)→∃ c,X.env.cells.lookup x=some c
  cab:∀ x c,X.fn x=true→X.env.cells.lookup x=some c→X.s₀.heap.objs.size≤c
  hd:X.calm=true→X.A.handled=none
  frames:X.A.frames=some X.stack
  stk:X.stack=X.outer∨(X.stack=X.env::X.outer∧X.env.frame=some X.env.locals)
  exf:∀ b∈X.ex,b≠X.env.locals∧∀ x c,X.env.cells.lookup x=some c→c≠b
  bs:∀ b o,X.base.get? b=some o→X.s₀.heap.get? b=some o∧X.H₀ b=none
  bsz:X.base.objs.size≤X.s₀.heap.objs.size
  noex:∀ b o,X.base.get? b=some o→b∉X.ex
  exfs:∀ b∈X.ex,b∉X.fs
  funs:X.s₀.heap.FunFrames X.base X.outer
  frf:∀ b∈X.fs,X.H₀ b=none
structure Inv (X:Cx) (pins:List (Addr×Obj)) (σ:List (Option V)) (H:Hp) (s:Shared):Prop where
  ok:X.Ok
  os:s.os=X.s₀.os
  bare:AllBare s.gens
  base:Un X.fs X.ex X.H₀ H X.s₀.heap s.heap
  loc:∃ m,s.heap.Ns X.env.locals m∧∀ (i:Nat) (x:Str) (v:V),X.N[i]? = some x→σ[i]? = some (some v)→Vis X.env.scope x→∃ u,RelV v u∧Look X.env s.heap m x u
  cell:∀ x c,X.env.cells.lookup x=some c→∃ v,s.heap.IsCell c v
  free:H X.env.locals=none
  freeC:∀ x c,X.env.cells.lookup x=some c→H c=none
  pin:∀ p∈X.pn++pins,s.heap.get? p.1=some p.2∧H p.1=none∧p.1≠X.env.locals∧p.1∉X.fs∧∀ v,p.2.data≠.cell v
  hok:HOk X.prog X.w H s.heap
  len:σ.length=X.N.length
section
variable {X:Cx} {pins:List (Addr×Obj)} {σ:List (Option V)} {H H':Hp} {s:Shared} {h':Heap}
theorem Cx.Ok.nofr (ok:X.Ok) {b:Addr} {o:Obj} (e:X.base.get? b=some o):b∉X.fs:=fun hb=>by
  have:=(ok.funs.mem hb).1
  rw [e] at this; cases this
theorem Inv.bs (I:Inv X pins σ H s):∀ b o,X.base.get? b=some o→s.heap.get? b=some o∧H b=none:=fun b o e =>
  ⟨I.base.keep b o (I.ok.bs b o e).1 (I.ok.bs b o e).2 (I.ok.nofr e) (I.ok.noex b o e),I.base.free b o (I.ok.bs b o e).1 (I.ok.bs b o e).2 (I.ok.noex b o e)⟩
theorem Inv.bk (I:Inv X pins σ H s):∀ b o,X.base.get? b=some o→s.heap.get? b=some o:=fun b o e=>(I.bs b o e).1
theorem Inv.mod (I:Inv X pins σ H s):Mod X.K X.mg X.base:=I.ok.mod
theorem Inv.kIn (I:Inv X pins σ H s):X.K.In s.heap:=I.ok.mod.kin.keeps I.bk
theorem Inv.nolimit (I:Inv X pins σ H s):s.heap.NoLimit:=I.ok.mod.nolimit.keeps I.bk
theorem Inv.fr (I:Inv X pins σ H s):∃ m,Fr X.base X.env.locals s.heap m :=
  let ⟨m,hn,_⟩:=I.loc
  ⟨m,hn,I.bk,Nat.le_trans I.ok.bsz I.ok.above⟩
theorem Inv.lt (I:Inv X pins σ H s):X.env.locals < s.heap.objs.size:=let ⟨_,hn,_⟩:=I.loc; hn.lt
theorem Inv.sz (I:Inv X pins σ H s):X.s₀.heap.objs.size≤s.heap.objs.size:=Nat.le_trans I.ok.above (Nat.le_of_lt I.lt)
theorem Inv.nofs (I:Inv X pins σ H s) {a:Addr} (h:s.heap.objs.size≤a):a∉X.fs:=fun hb=>by
  obtain ⟨_,o,ho,_⟩:=I.ok.funs.mem hb
  exact absurd (Nat.lt_of_lt_of_le (Heap.lt_size ho) (Nat.le_trans I.sz h)) (Nat.lt_irrefl _)
theorem Inv.cne (I:Inv X pins σ H s):∀ x c,X.env.cells.lookup x=some c→c≠X.env.locals:=fun x c e z=>by
  obtain ⟨v,o,ho,hd⟩:=I.cell x c e
  obtain ⟨m,⟨o',es,ep,ho',hd',_⟩,_⟩:=I.loc
  rw [z,ho'] at ho; cases ho; rw [hd'] at hd; cases hd
theorem Inv.funs (I:Inv X pins σ H s):s.heap.FunFrames X.base X.outer:=by
  have all:∀ (l:List Env),(∀ b∈frs l,b∈X.fs)→X.s₀.heap.FunFrames X.base l→s.heap.FunFrames X.base l:=by
    intro l
    induction l with
    | nil=>intro _ _; trivial
    | cons env r ih =>
      intro hs hl
      obtain ⟨hk,⟨L,o,hf,hn,ho,hd⟩,hr⟩:=hl
      have hL:L∈X.fs:=hs L (by unfold frs; rw [List.filterMap_cons,hf]; exact List.mem_cons_self)
      obtain ⟨sl,e⟩:=I.base.slot L o ho (I.ok.frf L hL) hL fun z=>I.ok.exfs L z hL
      exact ⟨hk,⟨L,_,hf,hn,e,hd⟩,ih (fun b hb=>hs b (by unfold frs; rw [List.filterMap_cons,hf]; exact List.mem_cons_of_mem _ hb)) hr⟩
  exact all X.outer (fun _ hb=>hb) I.ok.funs
theorem Inv.stack (I:Inv X pins σ H s):s.heap.FunFrames X.base X.stack:=by
  rcases I.ok.stk with e | ⟨e,hf⟩
  · rw [e]; exact I.funs
  · rw [e]
    obtain ⟨m,hn,_⟩:=I.loc
    refine .cons (by rw [I.ok.kind]; decide) hf hn ?_ I.funs
    exact Heap.get?_none_of_le (Nat.le_trans I.ok.bsz I.ok.above)
theorem Inv.stkSub (I:Inv X pins σ H s):∀ b∈frs X.stack,b∈X.env.locals::X.fs:=fun b hb=>by
  rcases I.ok.stk with e | ⟨e,hf⟩
  · rw [e] at hb; exact List.mem_cons_of_mem _ hb
  · rw [e] at hb
    unfold frs at hb
    rw [List.filterMap_cons,hf] at hb
    exact hb
theorem Inv.stkFree (I:Inv X pins σ H s):∀ b∈frs X.stack,H b=none:=fun b hb=>by
  rcases List.mem_cons.mp (I.stkSub b hb) with e | hb
  · rw [e]; exact I.free
  · obtain ⟨_,o,ho,_⟩:=I.ok.funs.mem hb
    exact I.base.free b o ho (I.ok.frf b hb) fun z=>I.ok.exfs b z hb
theorem Inv.step {g':Array GenState} {t':Nat} {d':Drawn} {ch:List Addr} (I:Inv X pins σ H s)
    (hch:∀ b∈ch,(b∈X.ex∨X.s₀.heap.objs.size≤b)∧b≠X.env.locals∧(∀ x c,X.env.cells.lookup x=some c→c≠b)∧∀ p∈X.pn++pins,p.1≠b)
    (keep:∀ b o,b≠X.env.locals→b∉X.fs→b∉ch→s.heap.get? b=some o→H b=none→h'.get? b=some o)
    (slot:∀ b o,b≠X.env.locals→b∈X.fs→b∉ch→s.heap.get? b=some o→H b=none→∃ sl,h'.get? b=some { o with slots:=sl }) (free:∀ b o,b∉ch→s.heap.get? b=some o→H b=none→H' b=none)
    (there:∀ b o,b∉ch→s.heap.get? b=some o→∃ o',h'.get? b=some o')
    (tups:∀ b xs,H b=some (.tup xs)→H' b=some (.tup xs)) (frzs:∀ b o u,H b=some (.frz o u)→H' b=some (.frz o u)) (tbls:∀ b ps,H b=some (.tbl ps)→∃ more,H' b=some (.tbl (ps++more)))
    (ns:∀ m,s.heap.Ns X.env.locals m→h'.Ns X.env.locals m) (hok:HOk X.prog X.w H' h') (hg:AllBare g') :
    Inv X pins σ H' { s with heap:=h',gens:=g',drawn:=d',toks:=t' }:=by
  have neL:∀ b o,X.s₀.heap.get? b=some o→b≠X.env.locals:=fun b o e=>Nat.ne_of_lt (Nat.lt_of_lt_of_le (Heap.lt_size e) I.ok.above)
  have neC:∀ b o,X.s₀.heap.get? b=some o→b∉X.ex→b∉ch:=fun b o e hx hb=>by
    rcases (hch b hb).1 with z | z
    · exact hx z
    · exact absurd (Nat.lt_of_lt_of_le (Heap.lt_size e) z) (Nat.lt_irrefl _)
  have cellK:∀ x c,X.env.cells.lookup x=some c→∀ v,s.heap.IsCell c v→h'.IsCell c v:=fun x c e v hq0=>by
    obtain ⟨o,ho,hd⟩:=hq0
    have nch:c∉ch:=fun z=>(hch c z).2.2.1 x c e rfl
    by_cases hc:c∈X.fs
    · obtain ⟨sl,q⟩:=slot c o (I.cne x c e) hc nch ho (I.freeC x c e)
      exact ⟨_,q,hd⟩
    · exact ⟨o,keep c o (I.cne x c e) hc nch ho (I.freeC x c e),hd⟩
  refine ⟨I.ok,I.os,hg,⟨fun b o e n hb hx => ?_,fun b o e n hb hx => ?_,fun b o e n hx => ?_,fun b o e hx => ?_,fun b xs e=>tups b xs (I.base.tups b xs e),fun b o xs e=>frzs b o xs (I.base.frzs b o xs e),fun b ps e => ?_⟩,?_,fun x c e => ?_,?_,fun x c e => ?_,fun p hp => ?_,hok,I.len⟩
  · exact keep b o (neL b o e) hb (neC b o e hx) (I.base.keep b o e n hb hx) (I.base.free b o e n hx)
  · obtain ⟨sl,e1⟩:=I.base.slot b o e n hb hx
    obtain ⟨sl',e2⟩:=slot b _ (neL b o e) hb (neC b o e hx) e1 (I.base.free b o e n hx)
    exact ⟨sl',e2⟩
  · obtain ⟨o',e1⟩:=I.base.there b o e hx
    exact free b o' (neC b o e hx) e1 (I.base.free b o e n hx)
  · obtain ⟨o',e1⟩:=I.base.there b o e hx
    exact there b o' (neC b o e hx) e1
  · obtain ⟨m1,e1⟩:=I.base.tbls b ps e
    obtain ⟨m2,e2⟩:=tbls b _ e1
    exact ⟨m1++m2,by rw [e2,Array.append_assoc]⟩
  · obtain ⟨m,hn,hl⟩:=I.loc
    refine ⟨m,ns m hn,fun i x v e1 e2 e3 => ?_⟩
    obtain ⟨u,r,l⟩:=hl i x v e1 e2 e3
    refine ⟨u,r,?_⟩
    rcases l with l | ⟨k,c,e,z⟩
    · exact .inl l
    · exact .inr ⟨k,c,e,cellK x c e _ z⟩
  · obtain ⟨v,z⟩:=I.cell x c e
    exact ⟨v,cellK x c e v z⟩
  · obtain ⟨m,⟨o,_,_,ho,_⟩,_⟩:=I.loc
    exact free _ o (fun z=>(hch _ z).2.1 rfl) ho I.free
  · obtain ⟨v,o,ho,hd⟩:=I.cell x c e
    exact free c o (fun z=>(hch c z).2.2.1 x c e rfl) ho (I.freeC x c e)
  · obtain ⟨e,n,ne,nf,d⟩:=I.pin p hp
    have nch:p.1∉ch:=fun z=>(hch p.1 z).2.2.2 p hp rfl
    exact ⟨keep p.1 p.2 ne nf nch e n,free p.1 p.2 nch e n,ne,nf,d⟩
theorem Inv.un {t':Nat} (I:Inv X pins σ H s) (u:Un X.fs [] H H' s.heap h') (hok:HOk X.prog X.w H' h'):Inv X pins σ H' { s with heap:=h',toks:=t' }:=by
  obtain ⟨m,⟨o,es,ep,ho,r⟩,_⟩:=id I.loc
  obtain ⟨sl,hL⟩:=u.any ho I.free (by simp)
  exact I.step (g':=s.gens) (d':=s.drawn) (ch:=[]) (fun _ z=>nomatch z) (fun b o _ hb _ e n=>u.keep b o e n hb (by simp)) (fun b o _ hb _ e n=>u.slot b o e n hb (by simp)) (fun b o _ e n=>u.free b o e n (by simp)) (fun b o _ e=>u.there b o e (by simp)) u.tups u.frzs u.tbls (fun m' hm=>by
    obtain ⟨o',es',ep',ho',r'⟩:=hm
    rw [ho] at ho'; cases ho'
    exact ⟨_,es',ep',hL,r'⟩) hok I.bare
theorem Inv.call {g':Array GenState} {t':Nat} {d':Drawn} {ch:List Addr} (I:Inv X pins σ H s) (u:Un (frs X.stack) ch H H' s.heap h') (hok:HOk X.prog X.w H' h') (hg:AllBare g')
    (hch:∀ b∈ch,(b∈X.ex∨X.s₀.heap.objs.size≤b)∧b≠X.env.locals∧(∀ x c,X.env.cells.lookup x=some c→c≠b)∧∀ p∈X.pn++pins,p.1≠b) :
    Inv X pins σ H' { s with heap:=h',gens:=g',drawn:=d',toks:=t' }:=by
  obtain ⟨m,⟨o,es,ep,ho,r⟩,_⟩:=id I.loc
  obtain ⟨sl,hL⟩:=u.any ho I.free fun z=>(hch _ z).2.1 rfl
  exact I.step (ch:=ch) hch (fun b o hL hb hc e n=>u.keep b o e n (fun z=>(List.mem_cons.mp (I.stkSub b z)).elim hL hb) hc) (fun b o _ _ hc e n=>u.any e n hc) (fun b o hc e n=>u.free b o e n hc) (fun b o hc e=>u.there b o e hc) u.tups u.frzs u.tbls (fun m' hm=>by
    obtain ⟨o',es',ep',ho',r'⟩:=hm
    rw [ho] at ho'; cases ho'
    exact ⟨_,es',ep',hL,r'⟩) hok hg
theorem Inv.turned {t':Nat} {it:Addr} (I:Inv X pins σ H s) (k:∀ b o,b≠it→s.heap.get? b=some o→h'.get? b=some o) (hn:H it=none) (hL:it≠X.env.locals)
    (h1:it∈X.ex∨X.s₀.heap.objs.size≤it) (h2:∀ x c,X.env.cells.lookup x=some c→c≠it) (h3:∀ p∈X.pn++pins,p.1≠it):Inv X pins σ H { s with heap:=h',toks:=t' }:=by
  have nit:∀ b u,H b=some u→b≠it:=fun b u e z=>by rw [z,hn] at e; cases e
  refine I.step (g':=s.gens) (d':=s.drawn) (ch:=[it]) (fun b hb => ?_) (fun b o _ _ hc e _=>k b o (fun z=>hc (by simp [z])) e) (fun b o _ _ hc e _=>⟨o.slots,k b o (fun z=>hc (by simp [z])) e⟩) (fun _ _ _ _ n=>n)
    (fun b o hc e=>⟨o,k b o (fun z=>hc (by simp [z])) e⟩) (fun _ _ e=>e) (fun _ _ _ e=>e) (fun b ps e=>⟨#[],by rw [e]; simp⟩) (fun m hm => ?_) (fun b u e => ?_) I.bare
  · have e:b=it:=by simpa using hb
    subst e
    exact ⟨h1,hL,h2,h3⟩
  · obtain ⟨o,es,ep,ho,r⟩:=hm
    exact ⟨o,es,ep,k _ o (Ne.symm hL) ho,r⟩
  · refine (I.hok b u e).stay (fun c v hc q=>k c v ?_ q) (fun _ q=>q) fun _ _ q=>q
    rcases hc with z | z
    · rw [z]; exact nit b u e
    · exact nit c _ z
theorem Inv.tok (I:Inv X pins σ H s) (t:Nat):Inv X pins σ H { s with toks:=t }:=I.un (h':=s.heap) (t':=t) Un.refl I.hok
theorem Inv.kept {t':Nat} (I:Inv X pins σ H s) (k:∀ b u,s.heap.get? b=some u→h'.get? b=some u):Inv X pins σ H { s with heap:=h',toks:=t' }:=I.un (Un.kept k) (I.hok.kept k)
theorem Inv.laid {a:Addr} {o:HO} {t':Nat} (I:Inv X pins σ H s) (k:∀ b u,s.heap.get? b=some u→h'.get? b=some u) (hp:s.heap.objs.size≤a) (new:za X.prog X.w (upd H a o) h' a o) :
    Inv X pins σ (upd H a o) { s with heap:=h',toks:=t' }:=I.un (Un.laid k hp (I.hok.fresh hp)) (I.hok.laid k hp new)
theorem Inv.write {x e:Addr} {o:HO} {t':Nat} (I:Inv X pins σ H s) (mu:Mut (H x)) (he:e=x∨H e=some (.own x)) (k:∀ b u,b≠e→s.heap.get? b=some u→h'.get? b=some u) (heo:∃ u,h'.get? e=some u)
    (new:za X.prog X.w (upd H x o) h' x o):Inv X pins σ (upd H x o) { s with heap:=h',toks:=t' }:=I.un (Un.write mu he k heo) (I.hok.write mu he k heo new)
theorem Inv.pins_of {pins':List (Addr×Obj)} (I:Inv X pins σ H s) (h:∀ p∈pins',s.heap.get? p.1=some p.2∧H p.1=none∧p.1≠X.env.locals∧p.1∉X.fs∧∀ v,p.2.data≠.cell v):Inv X pins' σ H s :=
  ⟨I.ok,I.os,I.bare,I.base,I.loc,I.cell,I.free,I.freeC,fun p hp=>(List.mem_append.mp hp).elim (fun z=>I.pin p (List.mem_append_left _ z)) (h p),I.hok,I.len⟩
theorem aly {N:List Str} (hN:N.Nodup) {i j:Nat} {x:Str} (a:N[i]? = some x) (b:N[j]? = some x):i=j:=by
  obtain ⟨h1,e1⟩:=List.getElem?_eq_some_iff.mp a
  obtain ⟨h2,e2⟩:=List.getElem?_eq_some_iff.mp b
  exact (List.getElem_inj hN).mp (e1.trans e2.symm)
theorem aih {M:Model} {A:Around} {E:Value→Shared→Prop} {i:Nat} {x:Str} {v:V} {u:Value} {Q:Unit→Shared→Prop} (I:Inv X pins σ H s) (hN:X.N.Nodup) (hi:X.N[i]? = some x) (hx:Loc X.env.scope x) (r:RelV v u)
    (h:∀ s',Inv X pins (σ.set i (some v)) H s'→(∃ a,Heap.SameBut a s.heap s'.heap∧(a=X.env.locals∨X.env.cells.lookup x=some a))→Q () s') (hf:X.fn x=true∨X.env.scope.names.lookup x=some .local:=by first | exact .inl rfl | exact .inr rfl | assumption):wpAny M A (storeName X.env x u) Q E s:=by
  obtain ⟨m,hn,hl⟩:=id I.loc
  have hcls:(X.env.scope.kind==.class||(X.env.scope.kind==.module&&X.env.locals != X.env.globals))=false:=by rw [I.ok.kind]; rfl
  have hiσ:i < σ.length:=by rw [I.len]; exact (List.getElem?_eq_some_iff.mp hi).1
  have cne:=I.cne
  have tracked:∀ {a:Addr} {h':Heap},(∃ o,s.heap.get? a=some o∧H a=none)→Heap.SameBut a s.heap h'→HOk X.prog X.w H h':=fun {a h'} ha hs b ob e=>by
    obtain ⟨_,_,hfree⟩:=ha
    refine (I.hok b ob e).stay (fun c w' hc q=>(hs.2 c ?_).trans q) (fun _ q=>q) fun _ _ q=>q
    rintro rfl
    rcases hc with rfl | hc
    · rw [hfree] at e; cases e
    · rw [hfree] at hc; cases hc
  rcases hx with hk | hk
  · refine wpAny_storeName_local hk hn (fun h' hn' hs => ?_) hcls
    obtain ⟨oL,_,_,hoL,_⟩:=id hn
    refine h _ ⟨I.ok,I.os,I.bare,⟨fun b o e n hb hx => ?_,fun b o e n hb hx => ?_,I.base.free,fun b o e hx => ?_,I.base.tups,I.base.frzs,I.base.tbls⟩,⟨_,hn',fun j y v' e1 e2 e3 => ?_⟩,fun y c e => ?_,I.free,I.freeC,fun p hp => ?_,tracked ⟨oL,hoL,I.free⟩ hs,by simpa using I.len⟩ ⟨_,hs,.inl rfl⟩
    · exact (hs.2 b (Nat.ne_of_lt (Nat.lt_of_lt_of_le (Heap.lt_size e) I.ok.above))).trans (I.base.keep b o e n hb hx)
    · obtain ⟨sl,e1⟩:=I.base.slot b o e n hb hx
      exact ⟨sl,(hs.2 b (Nat.ne_of_lt (Nat.lt_of_lt_of_le (Heap.lt_size e) I.ok.above))).trans e1⟩
    · obtain ⟨o',e1⟩:=I.base.there b o e hx
      exact ⟨o',(hs.2 b (Nat.ne_of_lt (Nat.lt_of_lt_of_le (Heap.lt_size e) I.ok.above))).trans e1⟩
    · by_cases hj:j=i
      · subst hj
        rw [hi] at e1; cases e1
        rw [List.getElem?_set_self hiσ] at e2
        cases e2
        exact ⟨u,r,.inl ⟨hk,by simp⟩⟩
      · rw [List.getElem?_set_ne (Ne.symm hj)] at e2
        obtain ⟨u',r',q⟩:=hl j y v' e1 e2 e3
        refine ⟨u',r',?_⟩
        rcases q with ⟨k,e⟩ | ⟨k,c,e,z⟩
        · refine .inl ⟨k,?_⟩
          have:y≠x:=fun e=>hj (aly hN e1 (e▸hi))
          simp [this,e]
        · exact .inr ⟨k,c,e,z.sameBut hs (cne y c e)⟩
    · obtain ⟨w',z⟩:=I.cell y c e
      exact ⟨w',z.sameBut hs (cne y c e)⟩
    · obtain ⟨e,n,ne,nf,d⟩:=I.pin p hp
      exact ⟨(hs.2 p.1 ne).trans e,n,ne,nf,d⟩
  · have hfn:X.fn x=true:=by
      rcases hf with z | z
      · exact z
      · rw [z] at hk; cases hk
    obtain ⟨c,hc⟩:=I.ok.has x (.inl hk)
    obtain ⟨w',z⟩:=I.cell x c hc
    refine wpAny_storeName_cell I.ok.kind hk hc z (fun h' hc' hs => ?_)
    obtain ⟨oc,hoc,hocd⟩:=id z
    refine h { s with heap:=h' } ⟨I.ok,I.os,I.bare,⟨fun b o e n hb hx => ?_,fun b o e n hb hx => ?_,I.base.free,fun b o e hx => ?_,I.base.tups,I.base.frzs,I.base.tbls⟩,⟨m,hn.sameBut hs (Ne.symm (cne x c hc)),fun j y v' e1 e2 e3 => ?_⟩,fun y c' e => ?_,I.free,I.freeC,fun p hp => ?_,tracked ⟨oc,hoc,I.freeC x c hc⟩ hs,by simpa using I.len⟩ ⟨c,hs,.inr hc⟩
    · exact (hs.2 b (Nat.ne_of_lt (Nat.lt_of_lt_of_le (Heap.lt_size e) (I.ok.cab x c hfn hc)))).trans (I.base.keep b o e n hb hx)
    · obtain ⟨sl,e1⟩:=I.base.slot b o e n hb hx
      exact ⟨sl,(hs.2 b (Nat.ne_of_lt (Nat.lt_of_lt_of_le (Heap.lt_size e) (I.ok.cab x c hfn hc)))).trans e1⟩
    · obtain ⟨o',e1⟩:=I.base.there b o e hx
      exact ⟨o',(hs.2 b (Nat.ne_of_lt (Nat.lt_of_lt_of_le (Heap.lt_size e) (I.ok.cab x c hfn hc)))).trans e1⟩
    · by_cases hj:j=i
      · subst hj
        rw [hi] at e1; cases e1
        rw [List.getElem?_set_self hiσ] at e2
        cases e2
        exact ⟨u,r,.inr ⟨.inl hk,c,hc,hc'⟩⟩
      · rw [List.getElem?_set_ne (Ne.symm hj)] at e2
        obtain ⟨u',r',q⟩:=hl j y v' e1 e2 e3
        refine ⟨u',r',?_⟩
        rcases q with q | ⟨k,c',e,z'⟩
        · exact .inl q
        · refine .inr ⟨k,c',e,z'.sameBut hs ?_⟩
          rintro rfl
          exact hj (aly hN e1 (I.ok.inj _ _ _ e hc▸hi))
    · by_cases hcc:c'=c
      · subst hcc; exact ⟨_,hc'⟩
      · obtain ⟨w2,z2⟩:=I.cell y c' e
        exact ⟨w2,z2.sameBut hs hcc⟩
    · obtain ⟨e,n,ne,nf,d⟩:=I.pin p hp
      refine ⟨(hs.2 p.1 ?_).trans e,n,ne,nf,d⟩
      intro q
      rw [q,hoc] at e
      have q':oc=p.2:=Option.some.inj e
      exact d w' (by rw [←q']; exact hocd)
theorem alm {M:Model} {A:Around} {E:Value→Shared→Prop} {i:Nat} {x:Str} {v:V} {u:Value} {Q:Unit→Shared→Prop} (I:Inv X pins σ H s) (hN:X.N.Nodup) (hi:X.N[i]? = some x) (hx:Loc X.env.scope x) (r:RelV v u)
    (h:∀ s',Inv X pins (σ.set i (some v)) H s'→Q () s') (hf:X.fn x=true∨X.env.scope.names.lookup x=some .local:=by first | exact .inl rfl | exact .inr rfl | assumption):wpAny M A (storeName X.env x u) Q E s :=
  aih I hN hi hx r (fun s' I' _=>h s' I') hf
theorem Inv.call' {s':Shared} {ch:List Addr} (I:Inv X pins σ H s) (ho:s'.os=s.os) (u:Un (frs X.stack) ch H H' s.heap s'.heap) (hok:HOk X.prog X.w H' s'.heap) (hg:AllBare s'.gens)
    (hch:∀ b∈ch,(b∈X.ex∨X.s₀.heap.objs.size≤b)∧b≠X.env.locals∧(∀ x c,X.env.cells.lookup x=some c→c≠b)∧∀ p∈X.pn++pins,p.1≠b):Inv X pins σ H' s':=by
  obtain ⟨h',g',d',t',o'⟩:=s'
  have e:o'=s.os:=ho
  subst e
  exact I.call (g':=g') (t':=t') (d':=d') u hok hg hch
end
noncomputable abbrev XK:=Value→Option Addr→Hp→Prop
noncomputable abbrev St:=List (Option V)
noncomputable abbrev VK:=V→Hp→Prop
noncomputable abbrev TE:=St→Hp→VK→Prop
noncomputable abbrev TT:=St→Hp→(Bool→Hp→Prop)→Prop
noncomputable abbrev TA:=St→Hp→(List V→Hp→Prop)→Prop
structure Ends where
  nx:St→Hp→Prop
  rt:VK
  bk:St→Hp→Prop:=fun _ _=>False
  ct:St→Hp→Prop:=fun _ _=>False
noncomputable abbrev TS:=Ends→St→Hp→Prop
noncomputable def EP (X:Cx) (pins:List (Addr×Obj)) (σ:St) (Q:VK) (u:Value) (s':Shared):Prop:=∃ v H',Inv X pins σ H' s'∧RelV v u∧Q v H'
noncomputable def TP (X:Cx) (pins:List (Addr×Obj)) (σ:St) (Q:Bool→Hp→Prop) (b:Bool) (s':Shared):Prop:=∃ H',Inv X pins σ H' s'∧Q b H'
noncomputable def AP (X:Cx) (pins:List (Addr×Obj)) (σ:St) (Q:List V→Hp→Prop) (us:List Value) (s':Shared):Prop:=∃ vs H',Inv X pins σ H' s'∧Vals vs us∧Q vs H'
noncomputable def SP (X:Cx) (pins:List (Addr×Obj)) (D:Ends) (f:Flow) (s':Shared):Prop :=
  match f with
  | .next=>∃ σ' H',Inv X pins σ' H' s'∧D.nx σ' H'
  | .brk=>∃ σ' H',Inv X pins σ' H' s'∧D.bk σ' H'
  | .cont=>∃ σ' H',Inv X pins σ' H' s'∧D.ct σ' H'
  | .ret u=>∃ v σ' H',Inv X pins σ' H' s'∧RelV v u∧D.rt v H'
noncomputable def PE (X:Cx) (e:Expr) (t:TE):Prop :=
  ∀ (pins:List (Addr×Obj)) (s:Shared) (σ:St) (H:Hp) (Q:VK),Inv X pins σ H s→t σ H Q→wpAny (model X.prog X.w) X.A (eval e X.env) (EP X pins σ Q) X.xe s
noncomputable def PT (X:Cx) (e:Expr) (t:TT):Prop :=
  ∀ (pins:List (Addr×Obj)) (s:Shared) (σ:St) (H:Hp) (Q:Bool→Hp→Prop),Inv X pins σ H s→t σ H Q→wpAny (model X.prog X.w) X.A (isTrue e X.env (eval e X.env)) (TP X pins σ Q) X.xe s
noncomputable def PW (X:Cx) (e:Expr) (t:TT):Prop :=
  ∀ (whole:Sem Value) (pins:List (Addr×Obj)) (s:Shared) (σ:St) (H:Hp) (Q:Bool→Hp→Prop),Inv X pins σ H s→t σ H Q→wpAny (model X.prog X.w) X.A (isTrue e X.env whole) (TP X pins σ Q) X.xe s
theorem PW.pt {X:Cx} {e:Expr} {t:TT} (h:PW X e t):PT X e t:=h _
noncomputable def PA (X:Cx) (es:List Expr) (t:TA):Prop :=
  ∀ (pos:Pos) (pins:List (Addr×Obj)) (s:Shared) (σ:St) (H:Hp) (Q:List V→Hp→Prop),Inv X pins σ H s→t σ H Q→wpAny (model X.prog X.w) X.A (spliced (backTo pos (starEach es X.env))) (AP X pins σ Q) X.xe s
noncomputable def PS (X:Cx) (st:Stmt) (t:TS):Prop :=
  ∀ (pins:List (Addr×Obj)) (s:Shared) (σ:St) (H:Hp) (D:Ends),Inv X pins σ H s→t D σ H→wpAny (model X.prog X.w) X.A (exec st X.env) (SP X pins D) X.xe s
noncomputable def PSs (X:Cx) (st:List Stmt) (t:TS):Prop :=
  ∀ (pins:List (Addr×Obj)) (s:Shared) (σ:St) (H:Hp) (D:Ends),Inv X pins σ H s→t D σ H→wpAny (model X.prog X.w) X.A (execs st X.env) (SP X pins D) X.xe s
theorem thn {α:Type} {t:Sem α} {Q Q':α→Shared→Prop} {M:Model} {A:Around} {E:Value→Shared→Prop} {s:Shared} (h:wpAny M A t Q E s) (hQ:∀ a s,Q a s→Q' a s):wpAny M A t Q' E s:=wpAny_mono h hQ fun _ _ x=>x
end L2
namespace L2
open PySem PySem.Spec PyProof.Rows
section
variable {X:Cx}
noncomputable def tVar (i:Nat):TE:=fun σ H Q=>∃ v,σ[i]? = some (some v)∧Q v H
noncomputable def tC (v:V):TE:=fun _ H Q=>Q v H
theorem axf {i:Nat} {x:Str} {pos:Pos} (hN:X.N[i]? = some x) (hv:Vis X.env.scope x) (hd:(x==("__debug__" : Str))=false:=by decide) (hcd:(x==("__classdict__" : Str))=false:=by decide):PE X (.Name x pos) (tVar i):=by
  intro pins s σ H Q I h
  obtain ⟨v,e,h⟩:=h
  obtain ⟨m,hn,hl⟩:=I.loc
  obtain ⟨u,r,l⟩:=hl i x v hN e hv
  have fin:EP X pins σ Q u s:=⟨v,H,I,r,h⟩
  rcases l with ⟨hk,hm⟩ | ⟨hk,c,hc,hcell⟩
  · exact wpAny_Name (wpAny_loadName_local I.ok.kind hk hn hm fin) hd
  · rcases hk with hk | hk
    · exact wpAny_Name (wpAny_loadName_cell I.ok.kind hk hc hcell fin) hd
    · exact wpAny_Name (wpAny_loadName_free I.ok.kind hk hc hcell fin hcd) hd
theorem axm {i j pos}:PE X (.Constant (.int i) j pos) (tC (.int i)):=fun _ _ _ H _ I h=>wpAny_Constant_int ⟨.int i,H,I.tok _,⟨_,rfl⟩,h⟩
theorem a1o {b j pos}:PE X (.Constant (.bool b) j pos) (tC (.bl b)):=fun _ _ _ H _ I h=>Constant_bool ⟨.bl b,H,I,rfl,h⟩
theorem axk {j pos}:PE X (.Constant .none j pos) (tC .non):=fun _ _ _ H _ I h=>Constant_none ⟨.non,H,I,rfl,h⟩
noncomputable def Gl (X:Cx) (x:Str):Prop:=X.env.kindOf x=some .globalImplicit
theorem ao0 {E:Value→Shared→Prop} {pins:List (Addr×Obj)} {s:Shared} {σ:St} {H:Hp} {x:Str} {u:Value} {pos:Pos} {Q:Value→Shared→Prop} (I:Inv X pins σ H s) (hg:Gl X x) (hm:X.mg x=some u) (h:Q u s)
    (hd:(x==("__debug__" : Str))=false:=by decide):wpAny (model X.prog X.w) X.A (eval (.Name x pos) X.env) Q E s :=
  Calls.Name_function_global I.ok.kind hg (Calls.loadGlobal_global (by rw [I.ok.glob]; exact I.mod.glob.keeps I.bk) hm h) hd
theorem agu {E:Value→Shared→Prop} {pins:List (Addr×Obj)} {s:Shared} {σ:St} {H:Hp} {x:Str} {u:Value} {pos:Pos} {Q:Value→Shared→Prop} (I:Inv X pins σ H s) (hg:Gl X x) (hm:X.mg x=none) (hv:bootBuiltins x=some u) (h:Q u s)
    (hn:x ≠ "__name__" := by decide) (hd:(x==("__debug__" : Str))=false:=by decide):wpAny (model X.prog X.w) X.A (eval (.Name x pos) X.env) Q E s:=by
  obtain ⟨mb,h1,h2⟩:=I.mod.blt
  exact Calls.Name_function_global I.ok.kind hg (Calls.loadGlobal_builtin (by rw [I.ok.glob]; exact I.mod.glob.keeps I.bk) hm (by rw [I.ok.blt]; exact h1.keeps I.bk) ((h2 x hn).trans hv) h) hd
theorem aum {x:Str} {v:V} {u:Value} {pos:Pos} (hg:Gl X x) (hm:X.mg x=some u) (r:RelV v u) (hd:(x==("__debug__" : Str))=false:=by decide):PE X (.Name x pos) (tC v) :=
  fun _ _ _ H _ I h=>ao0 I hg hm ⟨v,H,I,r,h⟩ hd
theorem auq {x:Str} {v:V} {u:Value} {pos:Pos} (hg:Gl X x) (hm:X.mg x=none) (hv:bootBuiltins x=some u) (r:RelV v u) (hn:x ≠ "__name__" := by decide) (hd:(x==("__debug__" : Str))=false:=by decide):PE X (.Name x pos) (tC v) :=
  fun _ _ _ H _ I h=>agu I hg hm hv ⟨v,H,I,r,h⟩ hn hd
variable {a b:Expr} {ta tb:TE} {pos:Pos}
noncomputable def tB (t:TE):TT:=fun σ H Q=>t σ H fun x H1=>∃ c,x=.bl c∧Q c H1
theorem aw7 {e:Expr} {t:TE} (h:PE X e t) (he:∀ whole,isTrue e X.env whole=(do let v ←whole; standAt e.pos; holding [v] (truthy v)):=by intro _; rfl):PT X e (tB t):=by
  intro pins s σ H Q I hw
  refine isTrue_plain (thn (h pins s σ H _ I hw) fun v s1 ⟨x,H1,I1,r1,q1⟩ => ?_) (he _)
  obtain ⟨d,rfl,q⟩:=q1
  cases r1
  exact wpAny_truthy_bool ⟨H1,I1,q⟩
variable {tA tB':TT} {rest:List Expr}
noncomputable def tAnd (t u:TT):TT:=fun σ H Q=>t σ H fun c H1=>if c=true then u σ H1 Q else Q false H1
noncomputable def tOr (t u:TT):TT:=fun σ H Q=>t σ H fun c H1=>if c=true then Q true H1 else u σ H1 Q
noncomputable def tNot (t:TT):TT:=fun σ H Q=>t σ H fun c H1=>Q (!c) H1
theorem at5 (ha:PT X a tA):PW X (.BoolOp .And [a] pos) tA:=by
  intro wh pins s σ H Q I h
  refine isTrue_and (thn (ha pins s σ H Q I h) fun c s1 e => ?_)
  cases c with
  | true=>exact isTrue_and_nil e
  | false=>exact e
theorem aw3 (ha:PT X a tA):PW X (.BoolOp .Or [a] pos) tA:=by
  intro wh pins s σ H Q I h
  refine isTrue_or (thn (ha pins s σ H Q I h) fun c s1 e => ?_)
  cases c with
  | false=>exact isTrue_or_nil e
  | true=>exact e
theorem aw4 (ha:PT X a tA) (hb:PW X (.BoolOp .And (b::rest) pos) tB'):PW X (.BoolOp .And (a::b::rest) pos) (tAnd tA tB'):=by
  intro wh pins s σ H Q I h
  refine isTrue_and (thn (ha pins s σ H _ I h) fun c s1 ⟨H1,I1,q1⟩ => ?_)
  cases c with
  | true=>exact hb wh pins s1 σ H1 Q I1 q1
  | false=>exact ⟨H1,I1,q1⟩
theorem a1d (ha:PT X a tA) (hb:PW X (.BoolOp .Or (b::rest) pos) tB'):PW X (.BoolOp .Or (a::b::rest) pos) (tOr tA tB'):=by
  intro wh pins s σ H Q I h
  refine isTrue_or (thn (ha pins s σ H _ I h) fun c s1 ⟨H1,I1,q1⟩ => ?_)
  cases c with
  | true=>exact ⟨H1,I1,q1⟩
  | false=>exact hb wh pins s1 σ H1 Q I1 q1
theorem aw8 (ha:PT X a tA):PT X (.UnaryOp .Not a pos) (tNot tA):=by
  intro pins s σ H Q I h
  exact isTrue_not (ha pins s σ H (fun c H1=>Q (!c) H1) I h)
noncomputable def a08 (ta tb:TE):TE:=fun σ H Q=>ta σ H fun x H1=>∃ c,x=.bl c∧if c=true then tb σ H1 Q else Q (.bl false) H1
noncomputable def a03 (ta:TE):TE:=fun σ H Q=>ta σ H fun x H1=>∃ c,x=.bl c∧Q (.bl (!c)) H1
theorem axi {op} {t:TE} (h:PE X a t):PE X (.BoolOp op [a] pos) t:=fun pins s σ H Q I hw=>BoolOp_one (h pins s σ H Q I hw)
theorem axo (ha:PE X a ta) (hb:PE X (.BoolOp .And (b::rest) pos) tb):PE X (.BoolOp .And (a::b::rest) pos) (a08 ta tb):=by
  intro pins s σ H Q I h
  refine BoolOp_and (thn (ha pins s σ H _ I h) fun v s1 ⟨x,H1,I1,r1,q1⟩ => ?_)
  obtain ⟨c,rfl,q1⟩:=q1
  cases r1
  refine wpAny_truthy_bool ?_
  cases c with
  | true=>exact hb pins s1 σ H1 Q I1 q1
  | false=>exact ⟨.bl false,H1,I1,rfl,q1⟩
theorem axj (ha:PE X a ta):PE X (.UnaryOp .Not a pos) (a03 ta):=by
  intro pins s σ H Q I h
  refine UnaryOp_ (thn (ha pins s σ H _ I h) fun v s1 ⟨x,H1,I1,r1,q1⟩ => ?_)
  obtain ⟨c,rfl,q1⟩:=q1
  cases r1
  exact not_of (wpAny_truthy_bool ⟨.bl (!c),H1,I1,rfl,q1⟩)
noncomputable def tIf (t:TT) (ta tb:TE):TE:=fun σ H Q=>t σ H fun c H1=>if c=true then ta σ H1 Q else tb σ H1 Q
theorem arc {c:Expr} (hc:PT X c tA) (ha:PE X a ta) (hb:PE X b tb):PE X (.IfExp c a b pos) (tIf tA ta tb):=by
  intro pins s σ H Q I h
  refine wpAny_IfExp (thn (hc pins s σ H _ I h) fun d s1 ⟨H1,I1,q1⟩ => ?_)
  cases d with
  | true=>exact ha pins s1 σ H1 Q I1 q1
  | false=>exact hb pins s1 σ H1 Q I1 q1
end
end L2
namespace L2
open PySem PySem.Spec PyProof.Rows
noncomputable def SqL (K:PySem.W.Frag) (H:Hp) (a:Addr) (xs:List V):Prop :=
  Rd H a (.lst xs) ∨
    ∃ (o:Obj) (its:Array Value) (n:Nat),K.lookup a=some o∧o.cls=.type "list" ∧ o.dict=none∧o.data=.seq its n∧its.size≤sizeLine∧Vals xs its.toList
noncomputable def SqT (K:PySem.W.Frag) (H:Hp) (a:Addr) (xs:List V):Prop :=
  Rd H a (.tup xs) ∨
    ∃ (o:Obj) (its:Array Value) (n:Nat),K.lookup a=some o∧o.cls=.type "tuple" ∧ o.data=.seq its n∧its.size≤sizeLine∧Vals xs its.toList
noncomputable def absV:Value→Option V
  | .none=>some .non
  | .bool b=>some (.bl b)
  | .int i _=>some (.int i)
  | .str x _=>some (.str x)
  | .bytes b _=>some (.byt b)
  | .float b _=>some (.flt b)
  | .ref a=>some (.ref a)
  | .type n=>some (.ty n)
  | _=>none
theorem RelV.abs {x:V} {u:Value} (r:RelV x u):absV u=some x:=by
  cases x with
  | non=>cases r; rfl
  | bl _=>cases r; rfl
  | int _=>obtain ⟨t,rfl⟩:=r; rfl
  | str _=>obtain ⟨t,rfl⟩:=r; rfl
  | byt _=>obtain ⟨t,rfl⟩:=r; rfl
  | flt _=>obtain ⟨t,rfl⟩:=r; rfl
  | ref _=>cases r; rfl
  | ty _=>cases r; rfl
theorem RelV.inj {x y:V} {u:Value} (r:RelV x u) (q:RelV y u):x=y:=Option.some.inj (r.abs.symm.trans q.abs)
theorem Vals.inj:∀ {xs ys:List V} {us:List Value},Vals xs us→Vals ys us→xs=ys
  | _,_,_,.nil,.nil=>rfl
  | _,_,_,.cons r t,.cons r' t'=>by rw [r.inj r',Vals.inj t t']
section
variable {X:Cx} {pins:List (Addr×Obj)} {σ:St} {H:Hp} {s:Shared} {a:Addr} {xs ys:List V}
theorem SqL.of {K:PySem.W.Frag} (h:H a=some (.lst xs)):SqL K H a xs:=.inl (.inl h)
theorem SqT.of {K:PySem.W.Frag} (h:H a=some (.tup xs)):SqT K H a xs:=.inl (.inl h)
theorem Inv.list (I:Inv X pins σ H s) (h:SqL X.K H a xs):∃ its:List Value,Vals xs its∧PlainL s.heap a its.toArray∧xs.length≤sizeLine:=by
  rcases h with h | ⟨o,its,n,hk,hc,hd,hs,hz,r⟩
  · obtain ⟨z,its,n,r,e⟩:=h.ok I.hok
    exact ⟨its,r,⟨_,n,e,rfl,rfl,rfl⟩,z⟩
  · refine ⟨its.toList,r,⟨o,n,I.kIn a o hk,hc,hd,by simpa using hs⟩,?_⟩
    have e:=r.length
    simp only [Array.length_toList] at e
    omega
theorem Inv.tuple (I:Inv X pins σ H s) (h:SqT X.K H a xs):∃ its:List Value,Vals xs its∧IsTup s.heap a its.toArray∧xs.length≤sizeLine:=by
  rcases h with h | ⟨o,its,n,hk,hc,hs,hz,r⟩
  · obtain ⟨z,its,r,p⟩:=h.ok I.hok
    exact ⟨its,r,p.tup,z⟩
  · refine ⟨its.toList,r,⟨o,I.kIn a o hk,hc,n,by simpa using hs⟩,?_⟩
    have e:=r.length
    simp only [Array.length_toList] at e
    omega
theorem Inv.list_inj (I:Inv X pins σ H s) (h:SqL X.K H a xs) (h':SqL X.K H a ys):xs=ys:=by
  obtain ⟨its,r,⟨o,n,e,_,_,d⟩,_⟩:=I.list h
  obtain ⟨its',r',⟨o',n',e',_,_,d'⟩,_⟩:=I.list h'
  rw [e] at e'; cases e'
  rw [d] at d'
  injection d' with d1 _
  have:its=its':=by simpa using congrArg Array.toList d1
  subst this
  exact r.inj r'
theorem Inv.tuple_inj (I:Inv X pins σ H s) (h:SqT X.K H a xs) (h':SqT X.K H a ys):xs=ys:=by
  obtain ⟨its,r,⟨o,e,_,n,d⟩,_⟩:=I.tuple h
  obtain ⟨its',r',⟨o',e',_,n',d'⟩,_⟩:=I.tuple h'
  rw [e] at e'; cases e'
  rw [d] at d'
  injection d' with d1 _
  have:its=its':=by simpa using congrArg Array.toList d1
  subst this
  exact r.inj r'
end
noncomputable abbrev Cx.wish (X:Cx) (E:Value→Shared→Prop):Cx:={ X with xe:=E }
noncomputable abbrev Cx.nox (X:Cx):Cx:=X.wish fun _ _=>False
theorem Cx.Ok.wish {X:Cx} (ok:X.Ok) (E:Value→Shared→Prop):(X.wish E).Ok :=
  ⟨ok.mod,ok.kind,ok.glob,ok.blt,ok.above,ok.inj,ok.has,ok.cab,ok.hd,ok.frames,ok.stk,ok.exf,ok.bs,ok.bsz,ok.noex,ok.exfs,ok.funs,ok.frf⟩
theorem Cx.Ok.unwish {X:Cx} {E:Value→Shared→Prop} (ok:(X.wish E).Ok):X.Ok :=
  ⟨ok.mod,ok.kind,ok.glob,ok.blt,ok.above,ok.inj,ok.has,ok.cab,ok.hd,ok.frames,ok.stk,ok.exf,ok.bs,ok.bsz,ok.noex,ok.exfs,ok.funs,ok.frf⟩
section
variable {X:Cx} {pins:List (Addr×Obj)} {σ:St} {H:Hp} {s:Shared} {E:Value→Shared→Prop}
theorem Inv.wish (I:Inv X pins σ H s) (E:Value→Shared→Prop):Inv (X.wish E) pins σ H s:=⟨I.ok.wish E,I.os,I.bare,I.base,I.loc,I.cell,I.free,I.freeC,I.pin,I.hok,I.len⟩
theorem Inv.unwish (I:Inv (X.wish E) pins σ H s):Inv X pins σ H s:=⟨I.ok.unwish,I.os,I.bare,I.base,I.loc,I.cell,I.free,I.freeC,I.pin,I.hok,I.len⟩
theorem SP.unwish {D:Ends} {f:Flow} {s':Shared} (h:SP (X.wish E) pins D f s'):SP X pins D f s':=by
  cases f with
  | next=>obtain ⟨σ',H',I,q⟩:=h; exact ⟨σ',H',I.unwish,q⟩
  | brk=>obtain ⟨σ',H',I,q⟩:=h; exact ⟨σ',H',I.unwish,q⟩
  | cont=>obtain ⟨σ',H',I,q⟩:=h; exact ⟨σ',H',I.unwish,q⟩
  | ret u=>obtain ⟨v,σ',H',I,r,q⟩:=h; exact ⟨v,σ',H',I.unwish,r,q⟩
theorem PE.nox {e:Expr} {t:TE} (h:PE X.nox e t):PE X e t:=fun pins s σ H Q I hw =>
  wpAny_mono (h pins s σ H Q (I.wish _) hw) (fun _ _ ⟨v,H',I',r,q⟩=>⟨v,H',I'.unwish,r,q⟩) fun _ _ z=>False.elim z
theorem PT.nox {e:Expr} {t:TT} (h:PT X.nox e t):PT X e t:=fun pins s σ H Q I hw =>
  wpAny_mono (h pins s σ H Q (I.wish _) hw) (fun _ _ ⟨H',I',q⟩=>⟨H',I'.unwish,q⟩) fun _ _ z=>False.elim z
theorem PSs.nox {st:List Stmt} {t:TS} (h:PSs X.nox st t):PSs X st t:=fun pins s σ H D I hw =>
  wpAny_mono (h pins s σ H D (I.wish _) hw) (fun _ _ q=>q.unwish) fun _ _ z=>False.elim z
end
section
variable {X:Cx} {st:Stmt} {rest:List Stmt} {t u:TS} {e:Expr} {te:TE} {pos:Pos}
noncomputable def a04:TS:=fun D σ H=>D.nx σ H
noncomputable def tSeq (t u:TS):TS:=fun D σ H=>t { D with nx:=u D } σ H
theorem at8:PSs X [] a04:=fun _ _ σ H _ I h=>wpAny_execs_nil ⟨σ,H,I,h⟩
theorem aq4 (h1:PS X st t) (h2:PSs X rest u):PSs X (st::rest) (tSeq t u):=by
  intro pins s σ H D I h
  refine wpAny_execs_cons (thn (h1 pins s σ H { D with nx:=u D } I h) fun f s1 q => ?_)
  cases f with
  | next =>
    obtain ⟨σ',H',I',q⟩:=q
    exact h2 pins s1 σ' H' D I' q
  | ret v=>exact q
  | brk=>exact q
  | cont=>exact q
theorem at7 (h1:PS X st t):PSs X [st] t:=by
  intro pins s σ H D I h
  refine wpAny_execs_cons (thn (h1 pins s σ H D I h) fun f s1 q => ?_)
  cases f with
  | next=>exact wpAny_execs_nil q
  | ret v=>exact q
  | brk=>exact q
  | cont=>exact q
theorem Inv.quiet {pins:List (Addr×Obj)} {σ:St} {H:Hp} {s:Shared} (I:Inv X pins σ H s):interactive X.env=false:=by simp [interactive,I.ok.kind]
noncomputable def a05 (te:TE):TS:=fun D σ H=>te σ H fun _ H1=>D.nx σ H1
theorem aua (he:PE X e te) (hs:swapsWith e none pos.line X.env=pure false:=by rfl):PS X (.Expr e pos) (a05 te):=by
  intro pins s σ H D I h
  exact wpAny_Expr_any (thn (he pins s σ H _ I h) fun v s1 ⟨x,H1,I1,r1,q1⟩=>⟨σ,H1,I1,q1⟩) I.quiet hs
noncomputable def tRet (te:TE):TS:=fun D σ H=>te σ H D.rt
theorem axa (he:PE X e te):PS X (.Return (some e) pos) (tRet te):=by
  intro pins s σ H D I h
  exact wpAny_Return_some (thn (he pins s σ H _ I h) fun v s1 ⟨x,H1,I1,r1,q1⟩=>⟨x,σ,H1,I1,r1,q1⟩)
noncomputable def tIfS (c:TT) (t u:TS):TS:=fun D σ H=>c σ H fun b H1=>if b=true then t D σ H1 else u D σ H1
theorem a1g {c:Expr} {a b:List Stmt} {tc:TT} (hc:PT X c tc) (ha:PSs X a t) (hb:PSs X b u):PS X (.If c a b pos) (tIfS tc t u):=by
  intro pins s σ H D I h
  refine wpAny_If (thn (hc pins s σ H _ I h) fun d s1 ⟨H1,I1,q1⟩ => ?_)
  cases d with
  | true=>exact ha pins s1 σ H1 D I1 q1
  | false=>exact hb pins s1 σ H1 D I1 q1
noncomputable def awu:TS:=fun _ _ _=>False
theorem aq6:PS X st awu:=fun _ _ _ _ _ _ h=>h.elim
end
noncomputable abbrev TG:=V→St→Hp→(St→Hp→Prop)→Prop
noncomputable abbrev TGs:=List V→St→Hp→(St→Hp→Prop)→Prop
noncomputable def PG (X:Cx) (target:Expr) (t:TG):Prop :=
  ∀ (pins:List (Addr×Obj)) (s:Shared) (σ:St) (H:Hp) (v:V) (u:Value) (Q:St→Hp→Prop),Inv X pins σ H s→RelV v u→t v σ H Q →
    wpAny (model X.prog X.w) X.A (assign target X.env u) (fun _ s'=>∃ σ' H',Inv X pins σ' H' s'∧Q σ' H') X.xe s
noncomputable def PGs (X:Cx) (ts:List Expr) (t:TGs):Prop :=
  ∀ (pins:List (Addr×Obj)) (s:Shared) (σ:St) (H:Hp) (vs:List V) (us:List Value) (Q:St→Hp→Prop),Inv X pins σ H s→Vals vs us→t vs σ H Q →
    wpAny (model X.prog X.w) X.A (assignInOrder ((assignEach ts X.env).map (·.2)) us) (fun _ s'=>∃ σ' H',Inv X pins σ' H' s'∧Q σ' H') X.xe s
noncomputable abbrev TSet:=V→V→V→Hp→(Hp→Prop)→Prop
noncomputable def PSet (X:Cx) (t:TSet):Prop :=
  ∀ (pins:List (Addr×Obj)) (s:Shared) (σ:St) (H:Hp) (o i v:V) (ov iv u:Value) (Q:Hp→Prop),Inv X pins σ H s→RelV o ov→RelV i iv→RelV v u→t o i v H Q →
    wpAny (model X.prog X.w) X.A (setItem ov iv u) (fun _ s'=>∃ H',Inv X pins σ H' s'∧Q H') X.xe s
noncomputable abbrev TIp:=V→V→Hp→VK→Prop
noncomputable def PIp (X:Cx) (op:Operator) (t:TIp):Prop :=
  ∀ (pins:List (Addr×Obj)) (s:Shared) (σ:St) (H:Hp) (x y:V) (v u:Value) (Q:VK),Inv X pins σ H s→RelV x v→RelV y u→t x y H Q →
    wpAny (model X.prog X.w) X.A (inplaceOp op v u) (EP X pins σ Q) X.xe s
section
variable {X:Cx} {pos:Pos}
noncomputable def avl (i:Nat):TG:=fun v σ H Q=>Q (σ.set i (some v)) H
theorem auk {i:Nat} {x:Str} (hN:X.N.Nodup) (hi:X.N[i]? = some x) (hx:Loc X.env.scope x) (hf:X.fn x=true∨X.env.scope.names.lookup x=some .local:=by first | exact .inl rfl | exact .inr rfl | assumption):PG X (.Name x pos) (avl i):=by
  intro pins s σ H v u Q I r h
  exact wpAny_assign_Name (alm I hN hi hx r (fun s' I'=>⟨_,H,I',h⟩) hf)
noncomputable def gNil:TGs:=fun vs σ H Q=>vs=[]∧Q σ H
noncomputable def a3c (t:TG) (u:TGs):TGs:=fun vs σ H Q=>∃ v r,vs=v::r∧t v σ H fun σ' H'=>u r σ' H' Q
theorem auj:PGs X [] gNil:=by
  intro pins s σ H vs us Q I r h
  obtain ⟨e,h⟩:=h
  subst e
  cases r
  exact assignInOrder_nil ⟨σ,H,I,h⟩
theorem ara {e:Expr} {es:List Expr} {t:TG} {u:TGs} (h1:PG X e t) (h2:PGs X es u)
    (hs:(assignEach (e::es) X.env).map (·.2)=assign e X.env::(assignEach es X.env).map (·.2):=by rfl):PGs X (e::es) (a3c t u):=by
  intro pins s σ H vs us Q I r h
  obtain ⟨v,vr,e1,h⟩:=h
  subst e1
  cases r with
  | cons r rr =>
    rw [hs]
    refine assignInOrder_cons (thn (h1 pins s σ H _ _ _ I r h) fun _ s1 ⟨σ1,H1,I1,q1⟩ => ?_)
    exact h2 pins s1 σ1 H1 _ _ Q I1 rr q1
noncomputable def gTup (K:PySem.W.Frag) (n:Nat) (t:TGs):TG:=fun v σ H Q=>∃ a xs,v=.ref a∧SqT K H a xs∧xs.length=n∧t xs σ H Q
theorem axd {es:List Expr} {k:Nat} {t:TGs} {n:Nat} (hc:X.calm=true) (h:PGs X es t)
    (hn:(assignEach es X.env).length=n:=by rfl) (hst:(assignEach es X.env).findIdx? (·.1)=none:=by rfl):PG X (.Tuple es k pos) (gTup X.K n t):=by
  intro pins s σ H v u Q I r hw
  obtain ⟨a,xs,e1,hq,hl,hw⟩:=hw
  subst e1
  cases r
  obtain ⟨its,rv,ht,hz⟩:=I.tuple hq
  refine assign_Tuple_tuple (I.ok.hd hc) ht (by simp [hn,←hl,rv.length]) hst fun h' hx => ?_
  have I1:Inv X pins σ H { s with heap:=h' }:=I.kept (t':=s.toks) fun b o e=>hx b o (Nat.ne_of_lt (Heap.lt_size e)) e
  exact h pins _ σ H xs _ Q I1 (by simpa using rv) hw
noncomputable def gSub (to ti:TE) (t:TSet):TG:=fun v σ H Q=>to σ H fun o H1=>ti σ H1 fun i H2=>t o i v H2 fun H3=>Q σ H3
theorem axe {o i:Expr} {to ti:TE} {t:TSet} (ho:PE X o to) (hi:PE X i ti) (hs:PSet X t)
    (ha:∀ v,assign (.Subscript o i pos) X.env v=(do
      let ov ←holding [v] (eval o X.env)
      let iv ←holding [v,ov] (eval i X.env)
      standAt pos
      holding [v,ov,iv] (setItem ov iv v)
      release [v,ov,iv] []):=by intro _; rfl):PG X (.Subscript o i pos) (gSub to ti t):=by
  intro pins s σ H v u Q I r h
  rw [ha]
  refine wpAny_bind (wpAny_holding (thn (ho pins s σ H _ I h) fun ov s1 ⟨x,H1,I1,r1,q1⟩ => ?_))
  refine wpAny_bind (wpAny_holding (thn (hi pins s1 σ H1 _ I1 q1) fun iv s2 ⟨y,H2,I2,r2,q2⟩ => ?_))
  refine wpAny_bind (wpAny_standAt (wpAny_bind (wpAny_holding (thn (hs pins s2 σ H2 x y v ov iv u _ I2 r1 r2 r q2) fun _ s3 ⟨H3,I3,q3⟩ => ?_))))
  exact wpAny_release ⟨σ,H3,I3,q3⟩
noncomputable def tAsg (te:TE) (g:TG):TS:=fun D σ H=>te σ H fun x H1=>g x σ H1 D.nx
theorem as6 {tg e:Expr} {te:TE} {g:TG} (he:PE X e te) (hg:PG X tg g) (hs:swapsWithSole [tg] e pos.line X.env=pure false:=by rfl) (hw:swappedStores [tg] e X.env=pure none:=by rfl)
    (h1:(assignEach [tg] X.env).map (·.2)=[assign tg X.env]:=by rfl):PS X (.Assign [tg] e pos) (tAsg te g):=by
  intro pins s σ H D I h
  refine wpAny_Assign_stores (thn (he pins s σ H _ I h) fun v s1 ⟨x,H1,I1,r1,q1⟩ => ?_) hs hw
  rw [h1]
  exact thn (hg pins s1 σ H1 x v _ I1 r1 q1) fun _ s2 q=>q
theorem aw9 {i:Nat} {x:Str} {e:Expr} {te:TE} {pos':Pos} (hN:X.N.Nodup) (hi:X.N[i]? = some x) (hx:Loc X.env.scope x) (he:PE X e te) (hs:swapsWith e (some (.Name x pos')) pos.line X.env=pure false:=by rfl) (hf:X.fn x=true∨X.env.scope.names.lookup x=some .local:=by first | exact .inl rfl | exact .inr rfl | assumption) :
    PS X (.Assign [.Name x pos'] e pos) (tAsg te (avl i)):=by
  intro pins s σ H D I h
  refine wpAny_Assign_Name (thn (he pins s σ H _ I h) fun v s1 ⟨y,H1,I1,r1,q1⟩ => ?_) hs
  exact alm I1 hN hi hx r1 (fun s2 I2=>⟨_,H1,I2,q1⟩) hf
noncomputable def a07 (to ti te:TE) (tget:V→V→Hp→VK→Prop) (tip:TIp) (tset:TSet):TS:=fun D σ H=>to σ H fun o H1=>ti σ H1 fun i H2=>tget o i H2 fun x H3=>te σ H3 fun y H4=>tip x y H4 fun z H5=>tset o i z H5 fun H6=>D.nx σ H6
noncomputable def PGet (X:Cx) (t:V→V→Hp→VK→Prop):Prop :=
  ∀ (pins:List (Addr×Obj)) (s:Shared) (σ:St) (H:Hp) (o i:V) (ov iv:Value) (Q:VK),Inv X pins σ H s→RelV o ov→RelV i iv→t o i H Q →
    wpAny (model X.prog X.w) X.A (getItem ov iv) (EP X pins σ Q) X.xe s
theorem aub {o i e:Expr} {to ti te:TE} {tget:V→V→Hp→VK→Prop} {tip:TIp} {tset:TSet} {op:Operator} {tpos:Pos} (ho:PE X o to) (hi:PE X i ti) (hg:PGet X tget) (he:PE X e te) (hp:PIp X op tip) (hs:PSet X tset)
    (ha:∀ ov iv new,augStore i ov iv new=(do holding [new,ov,iv] (setItem ov iv new); release [new,ov,iv] []; pure .next):=by intros; rfl):PS X (.AugAssign (.Subscript o i tpos) op e pos) (a07 to ti te tget tip tset):=by
  intro pins s σ H D I h
  refine wpAny_AugAssign_SubscriptAny (thn (ho pins s σ H _ I h) fun ov s1 ⟨x1,H1,I1,r1,q1⟩ => ?_) ha
  refine thn (hi pins s1 σ H1 _ I1 q1) fun iv s2 ⟨x2,H2,I2,r2,q2⟩ => ?_
  refine thn (hg pins s2 σ H2 x1 x2 ov iv _ I2 r1 r2 q2) fun old s3 ⟨x3,H3,I3,r3,q3⟩ => ?_
  refine thn (he pins s3 σ H3 _ I3 q3) fun v s4 ⟨x4,H4,I4,r4,q4⟩ => ?_
  refine thn (hp pins s4 σ H4 x3 x4 old v _ I4 r3 r4 q4) fun new s5 ⟨x5,H5,I5,r5,q5⟩ => ?_
  exact thn (hs pins s5 σ H5 x1 x2 x5 ov iv new _ I5 r1 r2 r5 q5) fun _ s6 ⟨H6,I6,q6⟩=>⟨σ,H6,I6,q6⟩
noncomputable def ipI (f:Int→Int→Int):TIp:=fun x y H Q=>∃ i j,x=.int i∧y=.int j∧Q (.int (f i j)) H
theorem ate:PIp X .Add (ipI fun i j=>i+j):=by
  intro pins s σ H x y v u Q I r1 r2 h
  obtain ⟨i,j,e1,e2,q⟩:=h
  subst e1; subst e2
  obtain ⟨t,rfl⟩:=r1
  obtain ⟨t',rfl⟩:=r2
  exact iadd_int ⟨.int _,H,I.tok _,⟨_,rfl⟩,q⟩
end
section
variable {X:Cx} {pos:Pos}
noncomputable def awt (c:TT) (tb:TS):TS:=fun D σ H=>∃ W:Nat→St→Hp→Prop,(∃ m,W m σ H)∧∀ m σ H,W m σ H →
  c σ H fun b H1=>if b=true then ∃ N:St→Hp→Prop,(∀ σ' H',N σ' H'→∃ m',m' < m∧W m' σ' H')∧tb { D with nx:=N,ct:=N,bk:=D.nx } σ H1 else D.nx σ H1
theorem aq5 {c:Expr} {body:List Stmt} {tc:TT} {tb:TS} (hp:PassesOwn (model X.prog X.w) X.A X.env X.xe) (hc:PT X c tc) (hb:PSs X body tb):PS X (.While c body [] pos) (awt tc tb):=by
  intro pins s σ H D I h
  obtain ⟨W,⟨m0,w0⟩,turn⟩:=h
  refine wpAny_While (codeAny_whileLoop (fun n s'=>∃ σ' H',Inv X pins σ' H' s'∧W n σ' H') ?_ m0 ⟨σ,H,I,w0⟩)
  rintro n s1 ⟨σ1,H1,I1,w1⟩
  refine wpAny_passesOwn hp (thn (hc pins s1 σ1 H1 _ I1 (turn n σ1 H1 w1)) fun b s2 ⟨H2,I2,q2⟩ => ?_)
  cases b with
  | true =>
    obtain ⟨N,hN,q2⟩:=q2
    rw [if_pos rfl]
    refine wpAny_passesOwn hp (thn (hb pins s2 σ1 H2 _ I2 q2) fun f s3 q3 => ?_)
    cases f with
    | next =>
      obtain ⟨σ3,H3,I3,n3⟩:=q3
      obtain ⟨m',hm,w3⟩:=hN σ3 H3 n3
      exact ⟨m',hm,σ3,H3,I3,w3⟩
    | cont =>
      obtain ⟨σ3,H3,I3,n3⟩:=q3
      obtain ⟨m',hm,w3⟩:=hN σ3 H3 n3
      exact ⟨m',hm,σ3,H3,I3,w3⟩
    | brk=>exact q3
    | ret v=>exact q3
  | false =>
    rw [if_neg Bool.false_ne_true]
    exact wpAny_execs_nil ⟨σ1,H2,I2,q2⟩
end
structure It where
  go:Nat→Hp→Prop
  yld:Nat→Hp→V→Hp→Prop
  stop:Nat→Hp→Prop
noncomputable def FpOk (X:Cx) (pins:List (Addr×Obj)) (H:Hp) (b:Addr):Prop :=
  H b=none∧b≠X.env.locals∧b∉X.fs∧(b∈X.ex∨X.s₀.heap.objs.size≤b)∧(∀ x c,X.env.cells.lookup x=some c→c≠b)∧∀ p∈X.pn++pins,p.1≠b
theorem Inv.fpOk {X:Cx} {pins:List (Addr×Obj)} {σ:St} {H H':Hp} {s:Shared} {b:Addr} (I:Inv X pins σ H s) (hb:s.heap.objs.size≤b) (hn:H' b=none):FpOk X pins H' b:=by
  refine ⟨hn,Nat.ne_of_gt (Nat.lt_of_lt_of_le I.lt hb),I.nofs hb,.inr (Nat.le_trans I.sz hb),fun x c e z => ?_,fun p hp z => ?_⟩
  · obtain ⟨v,q⟩:=I.cell x c e
    exact absurd (Nat.lt_of_lt_of_le q.lt (by rw [z]; exact hb)) (Nat.lt_irrefl _)
  · exact absurd (Nat.lt_of_lt_of_le (Heap.lt_size (I.pin p hp).1) (by rw [z]; exact hb)) (Nat.lt_irrefl _)
structure Turn (P:Program) (w:World) (K:PySem.W.Frag) (tg:Expr) (J:It) (fp:List Addr) (it:Addr) (tn:Nat→Heap→Prop):Prop where
  mem:it∈fp
  obj:∀ i h,tn i h→∀ b∈fp,∃ o,h.get? b=some o∧∀ v,o.data≠.cell v
  keep:∀ i h h',tn i h→(∀ b∈fp,∀ o,h.get? b=some o→h'.get? b=some o)→tn i h'
  item:∀ (X:Cx),X.prog=P→X.w=w→X.K=K→X.calm=true→∀ (i:Nat) (pins:List (Addr×Obj)) (s:Shared) (σ:St) (H:Hp) (E:Value→Shared→Prop),Inv X pins σ H s→(∀ b∈fp,FpOk X pins H b)→tn i s.heap→J.go i H →
    wpAny (model P w) X.A (pyNext (.ref it)) (fun r s1=>∃ u,r=some u ∧
      wpAny (model P w) X.A (letOwnedTupleGo tg (.ref it) u) (fun _ s2=>∃ x H',Inv X pins σ H' s2∧RelV x u∧J.yld i H x H'∧tn (i+1) s2.heap∧∀ b∈fp,H' b=none) E s1) E s
  done:∀ (X:Cx),X.prog=P→X.w=w→X.K=K→X.calm=true→∀ (i:Nat) (pins:List (Addr×Obj)) (s:Shared) (σ:St) (H:Hp) (E:Value→Shared→Prop),Inv X pins σ H s→(∀ b∈fp,FpOk X pins H b)→tn i s.heap→J.stop i H →
    wpAny (model P w) X.A (pyNext (.ref it)) (fun r s1=>r=none∧Inv X pins σ H s1) E s
  self:∀ (A:Around) (i:Nat) (s:Shared) (Q:Value→Shared→Prop) (E:Value→Shared→Prop),tn i s.heap→Q (.ref it) s→wpAny (model P w) A (pyIter (.ref it)) Q E s
noncomputable abbrev TI:=St→Hp→(It→Hp→Prop)→Prop
noncomputable def PIE (X:Cx) (pins:List (Addr×Obj)) (σ:St) (tg:Expr) (R:It→Hp→Prop) (itv:Value) (s2:Shared):Prop :=
  ∃ (it:Addr) (fp:List Addr) (tn:Nat→Heap→Prop) (J:It) (H':Hp),itv=.ref it∧Inv X pins σ H' s2∧Turn X.prog X.w X.K tg J fp it tn∧tn 0 s2.heap∧(∀ b∈fp,FpOk X pins H' b)∧R J H'
noncomputable def PI (X:Cx) (tg iter:Expr) (wi:TI):Prop :=
  ∀ (pins:List (Addr×Obj)) (s:Shared) (σ:St) (H:Hp) (R:It→Hp→Prop),Inv X pins σ H s→wi σ H R →
    wpAny (model X.prog X.w) X.A (eval iter X.env) (fun v s1=>wpAny (model X.prog X.w) X.A (pyIter v) (PIE X pins σ tg R) X.xe s1) X.xe s
theorem avh {M:Model} {A:Around} {E:Value→Shared→Prop} {s:Shared} {tg:Expr} {it:Addr} {u:Value} {o:Obj} {n:String} {vs:Array Value} {Q:Unit→Shared→Prop} (ho:s.heap.get? it=some o) (hc:o.cls=.type n) (hd:o.data=.fields vs)
    (hn:["enumerate","zip","dict_itemiterator","dict_reverseitemiterator","odict_iterator","itertools.zip_longest","itertools.pairwise"].contains n=false) (hQ:Q () s):wpAny M A (letOwnedTupleGo tg (.ref it) u) Q E s:=by
  unfold letOwnedTupleGo
  cases tg <;> first
    | exact wpAny_pure hQ
    | (cases u <;> first
        | exact wpAny_pure hQ
        | (refine wpAny_bind (wpAny_load ho ?_)
           rw [hc,hd]
           show wpAny M A (if (["enumerate","zip","dict_itemiterator","dict_reverseitemiterator","odict_iterator","itertools.zip_longest","itertools.pairwise"].contains n&&vs[0]? == some (rawInt _))=true then _ else _) Q E s
           rw [if_neg (by intro h; rw [hn,Bool.false_and] at h; cases h)]
           exact wpAny_pure hQ))
noncomputable def Itl (K:PySem.W.Frag) (a:Addr):It :=
  ⟨fun i H=>∃ xs x,SqL K H a xs∧xs[i]? = some x,fun i H x H'=>H'=H∧∀ xs,SqL K H a xs→xs[i]? = some x,fun i H=>∃ xs,SqL K H a xs∧xs.length≤i⟩
noncomputable def Itt (K:PySem.W.Frag) (a:Addr):It :=
  ⟨fun i H=>∃ xs x,SqT K H a xs∧xs[i]? = some x,fun i H x H'=>H'=H∧∀ xs,SqT K H a xs→xs[i]? = some x,fun i H=>∃ xs,SqT K H a xs∧xs.length≤i⟩
noncomputable def Itr (lo:Int) (n:Nat):It:=⟨fun i _=>i < n,fun i H x H'=>H'=H∧x=.int (lo+i),fun i _=>n≤i⟩
theorem an1 {P:Program} {w:World} {K:PySem.W.Frag} {tg:Expr} (a it:Addr):Turn P w K tg (Itl K a) [it] it (fun i h=>h.IsListIter it a i) where
  mem:=by simp
  obj:=fun i h st b hb=>by
    have e:b=it:=by simpa using hb
    subst e
    obtain ⟨o,e,c,d⟩:=st
    exact ⟨o,e,fun v z=>by rw [d] at z; cases z⟩
  keep:=fun i h h' st k=>st.at fun o e=>k it (by simp) o e
  item:=by
    intro X hP hw hK hc i pins s σ H E I hf st hg
    subst hP hw hK
    obtain ⟨xs,x,hq,hx⟩:=hg
    obtain ⟨its,rv,p,hz⟩:=I.list hq
    obtain ⟨u,hu,ru⟩:=rv.get hx
    obtain ⟨f0,f1,f2,f3,f4,f5⟩:=hf it (by simp)
    refine wpAny_pyNext_list_item st p.isList (x:=u) (by simpa using hu) fun h' st' sb => ?_
    have I1:Inv X pins σ H { s with heap:=h' }:=I.turned (t':=s.toks) (fun b o hb e=>(sb.2 b hb).trans e) f0 f1 f3 f4 f5
    obtain ⟨o,e,c,d⟩:=id st'
    exact ⟨u,rfl,avh (s:={ s with heap:=h' }) e c d (by decide) ⟨x,H,I1,ru,⟨rfl,fun ys hy=>by rw [I.list_inj hy hq]; exact hx⟩,st',fun b hb=>(hf b hb).1⟩⟩
  done:=by
    intro X hP hw hK hc i pins s σ H E I hf st hg
    subst hP hw hK
    obtain ⟨xs,hq,hx⟩:=hg
    obtain ⟨its,rv,p,hz⟩:=I.list hq
    obtain ⟨f0,f1,f2,f3,f4,f5⟩:=hf it (by simp)
    have hl:=rv.length
    exact wpAny_pyNext_list_end (I.ok.hd hc) st p.isList (by simp; omega) fun h' eb=>⟨rfl,I.turned (t':=s.toks) (fun b o hb e=>eb b o hb e) f0 f1 f3 f4 f5⟩
  self:=fun _ _ _ _ _ st h=>wpAny_pyIter_listiter st h
theorem amq {P:Program} {w:World} {K:PySem.W.Frag} {tg:Expr} (a it:Addr):Turn P w K tg (Itt K a) [it] it (fun i h=>h.IsTupleIter it a i) where
  mem:=by simp
  obj:=fun i h st b hb=>by
    have e:b=it:=by simpa using hb
    subst e
    obtain ⟨o,e,c,d⟩:=st
    exact ⟨o,e,fun v z=>by rw [d] at z; cases z⟩
  keep:=fun i h h' st k=>st.at fun o e=>k it (by simp) o e
  item:=by
    intro X hP hw hK hc i pins s σ H E I hf st hg
    subst hP hw hK
    obtain ⟨xs,x,hq,hx⟩:=hg
    obtain ⟨its,rv,p,hz⟩:=I.tuple hq
    obtain ⟨u,hu,ru⟩:=rv.get hx
    obtain ⟨f0,f1,f2,f3,f4,f5⟩:=hf it (by simp)
    refine wpAny_pyNext_tuple_item st (show s.heap.IsTuple a its.toArray from p) (x:=u) (by simpa using hu) fun h' st' sb => ?_
    have I1:Inv X pins σ H { s with heap:=h' }:=I.turned (t':=s.toks) (fun b o hb e=>(sb.2 b hb).trans e) f0 f1 f3 f4 f5
    obtain ⟨o,e,c,d⟩:=id st'
    exact ⟨u,rfl,avh (s:={ s with heap:=h' }) e c d (by decide) ⟨x,H,I1,ru,⟨rfl,fun ys hy=>by rw [I.tuple_inj hy hq]; exact hx⟩,st',fun b hb=>(hf b hb).1⟩⟩
  done:=by
    intro X hP hw hK hc i pins s σ H E I hf st hg
    subst hP hw hK
    obtain ⟨xs,hq,hx⟩:=hg
    obtain ⟨its,rv,p,hz⟩:=I.tuple hq
    obtain ⟨f0,f1,f2,f3,f4,f5⟩:=hf it (by simp)
    have hl:=rv.length
    exact wpAny_pyNext_tuple_end (I.ok.hd hc) st (show s.heap.IsTuple a its.toArray from p) (by simp; omega) fun h' eb=>⟨rfl,I.turned (t':=s.toks) (fun b o hb e=>eb b o hb e) f0 f1 f3 f4 f5⟩
  self:=fun _ _ _ _ _ st h=>wpAny_pyIter_tupleiter st h
theorem amr {P:Program} {w:World} {K:PySem.W.Frag} {tg:Expr} (it:Addr) (lo:Int) (n:Nat):Turn P w K tg (Itr lo n) [it] it (fun i h=>IsRangeIter h it (lo+(i:Nat)*1) ((n:Int) - (i:Nat)) 1) where
  mem:=by simp
  obj:=fun i h st b hb=>by
    have e:b=it:=by simpa using hb
    subst e
    exact ⟨_,st,fun v z=>by
      have z':Data.fields _=Data.cell v:=z
      cases z'⟩
  keep:=fun i h h' st k=>k it (by simp) _ st
  item:=by
    intro X hP hw hK hc i pins s σ H E I hf st hg
    subst hP hw hK
    obtain ⟨f0,f1,f2,f3,f4,f5⟩:=hf it (by simp)
    have W:=Walks.range (prog:=X.prog) (w:=X.w) (I.ok.hd hc) it lo 1 n
    refine W.item i s _ _ hg st fun v h' tk hv st' kk => ?_
    obtain ⟨t,rfl⟩:=hv
    have I1:Inv X pins σ H { s with heap:=h',toks:=tk }:=I.turned (fun b o hb e=>kk b o (by simpa using hb) e) f0 f1 f3 f4 f5
    refine ⟨_,rfl,avh (s:={ s with heap:=h',toks:=tk }) (n := "range_iterator") st' rfl rfl (by decide) ⟨.int (lo+i),H,I1,⟨t,?_⟩,⟨rfl,rfl⟩,st',fun b hb=>(hf b hb).1⟩⟩
    rw [Int.mul_one]
  done:=by
    intro X hP hw hK hc i pins s σ H E I hf st hg
    subst hP hw hK
    obtain ⟨f0,f1,f2,f3,f4,f5⟩:=hf it (by simp)
    exact wpAny_pyNext_range_end (I.ok.hd hc) st (by have:n≤i:=hg; omega) fun h' eb=>⟨rfl,I.turned (t':=s.toks) (fun b o hb e=>eb b o hb e) f0 f1 f3 f4 f5⟩
  self:=fun _ _ _ _ _ st h=>wpAny_pyIter_rangeiter st h
end L2
namespace L2
open PySem PySem.Spec PyProof.Rows
section
variable {X:Cx} {tg:Expr}
noncomputable def a2t (K:PySem.W.Frag) (tl:TE):TI:=fun σ H R=>tl σ H fun x H1=>∃ a,x=.ref a∧(∃ xs,SqL K H1 a xs)∧R (Itl K a) H1
noncomputable def iTup (K:PySem.W.Frag) (tl:TE):TI:=fun σ H R=>tl σ H fun x H1=>∃ a,x=.ref a∧(∃ xs,SqT K H1 a xs)∧R (Itt K a) H1
theorem aon {l:Expr} {tl:TE} (hl:PE X l tl):PI X tg l (a2t X.K tl):=by
  intro pins s σ H R I h
  refine thn (hl pins s σ H _ I h) fun v s1 ⟨x,H1,I1,r1,q1⟩ => ?_
  obtain ⟨a,e,⟨xs,hq⟩,q⟩:=q1
  subst e
  cases r1
  obtain ⟨its,rv,p,hz⟩:=I1.list hq
  refine wpAny_pyIter_list p.isList ?_
  refine ⟨s1.heap.objs.size,[s1.heap.objs.size],_,_,H1,rfl,I1.kept (t':=s1.toks) fun b o e=>Heap.get?_push_of_some _ e,an1 a _,⟨_,Heap.get?_push_size _ rfl,rfl,rfl⟩,fun b hb => ?_,q⟩
  have e:b=s1.heap.objs.size:=by simpa using hb
  subst e
  exact I1.fpOk (Nat.le_refl _) (I1.hok.fresh (Nat.le_refl _))
theorem axc {l:Expr} {tl:TE} (hl:PE X l tl):PI X tg l (iTup X.K tl):=by
  intro pins s σ H R I h
  refine thn (hl pins s σ H _ I h) fun v s1 ⟨x,H1,I1,r1,q1⟩ => ?_
  obtain ⟨a,e,⟨xs,hq⟩,q⟩:=q1
  subst e
  cases r1
  obtain ⟨its,rv,p,hz⟩:=I1.tuple hq
  refine wpAny_pyIter_tuple (show s1.heap.IsTuple a its.toArray from p) ?_
  refine ⟨s1.heap.objs.size,[s1.heap.objs.size],_,_,H1,rfl,I1.kept (t':=s1.toks) fun b o e=>Heap.get?_push_of_some _ e,amq a _,⟨_,Heap.get?_push_size _ rfl,rfl,rfl⟩,fun b hb => ?_,q⟩
  have e:b=s1.heap.objs.size:=by simpa using hb
  subst e
  exact I1.fpOk (Nat.le_refl _) (I1.hok.fresh (Nat.le_refl _))
theorem aq3 {pins:List (Addr×Obj)} {σ:St} {H:Hp} {s:Shared} {R:It→Hp→Prop} {E:Value→Shared→Prop} {lo hi:Int} {t u v:Tok} {tk:Nat} (I:Inv X pins σ H s) (h1 : -(2 ^ 62)≤lo) (h2:lo < 2 ^ 62) (h3 : -(2 ^ 62)≤hi) (h4:hi < 2 ^ 62)
    (q:R (Itr lo (hi - lo).toNat) H):wpAny (model X.prog X.w) X.A (pyIter (.ref s.heap.objs.size)) (PIE X pins σ tg R) E { s with heap:=s.heap.push { cls:=.type "range", data:=.fields #[.int lo t,.int hi u,.int 1 v] },toks:=tk }:=by
  refine wpAny_pyIter_range (IsRange.new ..) (small_one h1 h2 h3 h4) ?_
  have I1:Inv X pins σ H { s with heap:=s.heap.push { cls:=.type "range", data:=.fields #[.int lo t,.int hi u,.int 1 v] },toks:=tk }:=I.kept fun b o e=>Heap.get?_push_of_some _ e
  refine ⟨(s.heap.push { cls:=.type "range", data:=.fields #[.int lo t,.int hi u,.int 1 v] }).objs.size,[(s.heap.push { cls:=.type "range", data:=.fields #[.int lo t,.int hi u,.int 1 v] }).objs.size],_,_,H,rfl,
    I1.kept (t':=tk) fun b o e=>Heap.get?_push_of_some _ e,amr _ lo (hi - lo).toNat,?_,fun b hb => ?_,q⟩
  · have e1:lo+((0:Nat):Int)*1=lo:=by simp
    have e2:(((hi - lo).toNat:Nat):Int) - ((0:Nat):Int)=Builtin.Range.rangeSize lo hi 1:=by rw [rangeSize_one]; split <;> omega
    show IsRangeIter _ _ (lo+((0:Nat):Int)*1) ((((hi - lo).toNat:Nat):Int) - ((0:Nat):Int)) 1
    rw [e1,e2]
    exact Heap.get?_push_size _ rfl
  · have e:b=(s.heap.push { cls:=.type "range", data:=.fields #[.int lo t,.int hi u,.int 1 v] }).objs.size:=by simpa using hb
    subst e
    exact I1.fpOk (Nat.le_refl _) (I1.hok.fresh (Nat.le_refl _))
noncomputable def a2s (ta:TA):TI:=fun σ H R=>ta σ H fun vs H1=>∃ j:Int,vs=[.int j] ∧ -(2 ^ 62)≤j∧j < 2 ^ 62∧R (Itr 0 j.toNat) H1
theorem aom {a:Expr} {ta:TA} {p pos:Pos} (hg:Gl X "range") (hm:X.mg "range" = none) (ha:PA X [a] ta) (hs:starEach [a] X.env=[(false,eval a X.env)]:=by rfl):PI X tg (.Call (.Name "range" p) [a] [] pos) (a2s ta):=by
  intro pins s σ H R I h
  refine Call_ (agu I hg hm boot_range (PyProof.Rows.callWith_type1 (thn (ha pos pins s σ H _ I h) fun us s1 ⟨vs,H1,I1,r1,q1⟩ => ?_) hs rfl))
  obtain ⟨j,e,q1,q2,q⟩:=q1
  subst e
  cases r1 with
  | cons r rr =>
    cases rr
    obtain ⟨t,rfl⟩:=r
    exact call_range_1 (aq3 I1 (by omega) (by omega) q1 q2 (by simpa using q))
noncomputable def tFor (wi:TI) (g:TG) (tb:TS):TS:=fun D σ H=>wi σ H fun J H1=>∃ W:Nat→Nat→St→Hp→Prop,(∃ m,W 0 m σ H1)∧∀ i m σ H,W i m σ H →
  (J.stop i H∧D.nx σ H)∨(J.go i H∧∃ N:St→Hp→Prop,(∀ σ' H',N σ' H'→∃ m',m' < m∧W (i+1) m' σ' H')∧∀ x H',J.yld i H x H'→g x σ H' fun σ2 H2=>tb { D with nx:=N,ct:=N,bk:=D.nx } σ2 H2)
noncomputable def air (fp:List Addr) (h:Heap):List (Addr×Obj):=fp.filterMap fun b=>(h.get? b).map fun o=>(b,o)
theorem abw {fp:List Addr} {h:Heap} {b:Addr} {o:Obj} (hb:b∈fp) (e:h.get? b=some o):(b,o)∈air fp h:=List.mem_filterMap.mpr ⟨b,hb,by rw [e]; rfl⟩
theorem aou {fp:List Addr} {h:Heap} {p:Addr×Obj} (hp:p∈air fp h):p.1∈fp∧h.get? p.1=some p.2:=by
  obtain ⟨b,hb,e⟩:=List.mem_filterMap.mp hp
  cases q:h.get? b with
  | none=>rw [q] at e; cases e
  | some o =>
    rw [q] at e
    have e':(b,o)=p:=Option.some.inj e
    subst e'
    exact ⟨hb,q⟩
theorem Inv.pinned {pins:List (Addr×Obj)} {σ:St} {H:Hp} {s:Shared} {fp:List Addr} (I:Inv X pins σ H s) (hf:∀ b∈fp,FpOk X pins H b) (ho:∀ b∈fp,∃ o,s.heap.get? b=some o∧∀ v,o.data≠.cell v):Inv X (pins++air fp s.heap) σ H s :=
  I.pins_of fun p hp=>(List.mem_append.mp hp).elim (fun z=>I.pin p (List.mem_append_right _ z)) fun z=>by
    obtain ⟨hb,e⟩:=aou z
    obtain ⟨f0,f1,f2,_⟩:=hf p.1 hb
    obtain ⟨o,e',d⟩:=ho p.1 hb
    rw [e] at e'; cases e'
    exact ⟨e,f0,f1,f2,d⟩
theorem Inv.unpinned {pins pl:List (Addr×Obj)} {σ:St} {H:Hp} {s:Shared} (I:Inv X (pins++pl) σ H s):Inv X pins σ H s:=I.pins_of fun p hp=>I.pin p (List.mem_append_right _ (List.mem_append_left _ hp))
theorem axb {iter:Expr} {body:List Stmt} {wi:TI} {g:TG} {tb:TS} {pos:Pos} (hp:PassesOwn (model X.prog X.w) X.A X.env X.xe) (hc:X.calm=true) (hi:PI X tg iter wi) (hg:PG X tg g) (hb:PSs X body tb)
    (hs:∀ x,foldedSetIterable iter X.env x=pure x:=by intro _; rfl):PS X (.For tg iter body [] pos) (tFor wi g tb):=by
  intro pins s σ H D I h
  refine wpAny_For (thn (hi pins s σ H _ I h) fun v s1 h1=>thn h1 fun itv s2 h2 => ?_) hs
  obtain ⟨it,fp,tn,J,H2,e,I2,T,st2,f2,W,⟨m0,w0⟩,turn⟩:=h2
  subst e
  have stat:∀ {H':Hp},(∀ b∈fp,H' b=none)→∀ b∈fp,FpOk X pins H' b:=fun hn b hb=>⟨hn b hb,(f2 b hb).2⟩
  refine codeAny_forLoop_any (fun n s'=>∃ i σ' H',Inv X pins σ' H' s'∧tn i s'.heap∧(∀ b∈fp,H' b=none)∧W i n σ' H') ?_ m0 ⟨0,σ,H2,I2,st2,fun b hb=>(f2 b hb).1,w0⟩
  rintro n s3 ⟨i,σ3,H3,I3,st3,fr3,w3⟩
  rcases turn i n σ3 H3 w3 with ⟨stop,qn⟩ | ⟨go,N,hN,step⟩
  · refine wpAny_passesOwn hp (thn (T.done X rfl rfl rfl hc i pins s3 σ3 H3 X.xe I3 (stat fr3) st3 stop) fun r s4 ⟨hr,I4⟩ => ?_)
    subst hr
    exact wpAny_execs_nil ⟨σ3,H3,I4,qn⟩
  · refine wpAny_passesOwn hp (thn (T.item X rfl rfl rfl hc i pins s3 σ3 H3 X.xe I3 (stat fr3) st3 go) fun r s4 ⟨u,hr,h4⟩ => ?_)
    subst hr
    refine wpAny_passesOwn hp (thn h4 fun _ s5 ⟨x,H5,I5,r5,y5,st5,fr5⟩ => ?_)
    have I5':=I5.pinned (stat fr5) (T.obj _ _ st5)
    refine wpAny_passesOwn hp (thn (hg _ s5 σ3 H5 x u _ I5' r5 (step x H5 y5)) fun _ s6 ⟨σ6,H6,I6,q6⟩ => ?_)
    refine wpAny_passesOwn hp (thn (hb _ s6 σ6 H6 _ I6 q6) fun f s7 q7 => ?_)
    have again:∀ {σ7:St} {H7:Hp},Inv X (pins++air fp s5.heap) σ7 H7 s7→N σ7 H7→∃ m,m < n∧∃ i σ' H',Inv X pins σ' H' s7∧tn i s7.heap∧(∀ b∈fp,H' b=none)∧W i m σ' H':=fun {σ7 H7} I7 n7=>by
      obtain ⟨m',hm,w7⟩:=hN σ7 H7 n7
      refine ⟨m',hm,i+1,σ7,H7,I7.unpinned,T.keep _ _ _ st5 fun b hb o e=>(I7.pin (b,o) (List.mem_append_right _ (List.mem_append_right _ (abw hb e)))).1,fun b hb => ?_,w7⟩
      obtain ⟨o,e,d⟩:=T.obj _ _ st5 b hb
      exact (I7.pin (b,o) (List.mem_append_right _ (List.mem_append_right _ (abw hb e)))).2.1
    cases f with
    | next=>obtain ⟨σ7,H7,I7,n7⟩:=q7; exact again I7 n7
    | cont=>obtain ⟨σ7,H7,I7,n7⟩:=q7; exact again I7 n7
    | brk=>obtain ⟨σ7,H7,I7,q7⟩:=q7; exact ⟨σ7,H7,I7.unpinned,q7⟩
    | ret v=>obtain ⟨x7,σ7,H7,I7,r7,q7⟩:=q7; exact ⟨x7,σ7,H7,I7.unpinned,r7,q7⟩
end
end L2
namespace L2
open PySem PySem.Spec PyProof.Rows
noncomputable abbrev R2:=V→V→Hp→VK→Prop
noncomputable def OpR (X:Cx) (f:Value→Value→Sem Value) (r:R2):Prop :=
  ∀ (pins:List (Addr×Obj)) (s:Shared) (σ:St) (H:Hp) (x y:V) (v u:Value) (Q:VK),Inv X pins σ H s→RelV x v→RelV y u→r x y H Q →
    wpAny (model X.prog X.w) X.A (f v u) (EP X pins σ Q) X.xe s
noncomputable def UnR (X:Cx) (f:Value→Sem Value) (r:V→Hp→VK→Prop):Prop :=
  ∀ (pins:List (Addr×Obj)) (s:Shared) (σ:St) (H:Hp) (x:V) (v:Value) (Q:VK),Inv X pins σ H s→RelV x v→r x H Q →
    wpAny (model X.prog X.w) X.A (f v) (EP X pins σ Q) X.xe s
noncomputable def aam (X:Cx) (f:Value) (r:List V→Hp→VK→Prop):Prop :=
  ∀ (pins:List (Addr×Obj)) (s:Shared) (σ:St) (H:Hp) (xs:List V) (us:List Value) (Q:VK),Inv X pins σ H s→Vals xs us→r xs H Q →
    wpAny (model X.prog X.w) X.A (call f us) (EP X pins σ Q) X.xe s
noncomputable def tOp (r:R2) (ta tb:TE):TE:=fun σ H Q=>ta σ H fun x H1=>tb σ H1 fun y H2=>r x y H2 Q
noncomputable def tUn (r:V→Hp→VK→Prop) (ta:TE):TE:=fun σ H Q=>ta σ H fun x H1=>r x H1 Q
noncomputable def rI (C:Int→Int→Prop) (g:Int→Int→V):R2:=fun x y H Q=>∃ i j,x=.int i∧y=.int j∧C i j∧Q (g i j) H
noncomputable def rI0 (g:Int→Int→V):R2:=fun x y H Q=>∃ i j,x=.int i∧y=.int j∧Q (g i j) H
noncomputable def rU (g:Int→V):V→Hp→VK→Prop:=fun x H Q=>∃ i,x=.int i∧Q (g i) H
section
variable {X:Cx} {a b c:Expr} {ta tb tc:TE} {pos:Pos}
theorem binT (ha:PE X a ta) (hb:PE X b tb) {pins:List (Addr×Obj)} {s:Shared} {σ:St} {H:Hp} {R:V→V→Hp→Prop} (I:Inv X pins σ H s)
    (h:ta σ H fun x H1=>tb σ H1 fun y H2=>R x y H2) {Q:Value→Shared→Prop} {f:Value→Value→Sem Value}
    (hf:∀ v u s2 x y H2,Inv X pins σ H2 s2→RelV x v→RelV y u→R x y H2→wpAny (model X.prog X.w) X.A (f v u) Q X.xe s2) :
    wpAny (model X.prog X.w) X.A (eval a X.env) (fun v s₁=>wpAny (model X.prog X.w) X.A (eval b X.env) (fun u s₂=>wpAny (model X.prog X.w) X.A (f v u) Q X.xe s₂) X.xe s₁) X.xe s:=by
  refine thn (ha pins s σ H _ I h) fun v s1 ⟨x,H1,I1,r1,q1⟩ => ?_
  refine thn (hb pins s1 σ H1 _ I1 q1) fun u s2 ⟨y,H2,I2,r2,q2⟩ => ?_
  exact hf v u s2 x y H2 I2 r1 r2 q2
theorem a1j {op:Operator} {r:R2} (ho:OpR X (binaryOp op) r) (ha:PE X a ta) (hb:PE X b tb):PE X (.BinOp a op b pos) (tOp r ta tb):=by
  intro pins s σ H Q I h
  exact wpAny_BinOp (binT ha hb I h fun v u s2 x y H2 I2 rx ry q=>ho pins s2 σ H2 x y v u Q I2 rx ry q)
theorem a1i {op:UnaryOp} {r:V→Hp→VK→Prop} (ho:UnR X (unaryOp op) r) (ha:PE X a ta):PE X (.UnaryOp op a pos) (tUn r ta):=by
  intro pins s σ H Q I h
  exact UnaryOp_ (thn (ha pins s σ H _ I h) fun v s1 ⟨x,H1,I1,r1,q1⟩=>ho pins s1 σ H1 x v Q I1 r1 q1)
theorem opI {f:Value→Value→Sem Value} {C:Int→Int→Prop} {g:Int→Int→Int}
    (rule:∀ (i j:Int) (t u:Tok) (s:Shared) (Q:Value→Shared→Prop) (E:Value→Shared→Prop),C i j→Q (.int (g i j) s.toks) { s with toks:=s.toks+1 }→wpAny (model X.prog X.w) X.A (f (.int i t) (.int j u)) Q E s) :
    OpR X f (rI C fun i j=>.int (g i j)):=by
  intro pins s σ H x y v u Q I rx ry h
  obtain ⟨i,j,rfl,rfl,hc,q⟩:=h
  obtain ⟨t,rfl⟩:=rx
  obtain ⟨t',rfl⟩:=ry
  exact rule i j t t' s _ _ hc ⟨.int (g i j),H,I.tok _,⟨_,rfl⟩,q⟩
theorem opI0 {f:Value→Value→Sem Value} {g:Int→Int→Int}
    (rule:∀ (i j:Int) (t u:Tok) (s:Shared) (Q:Value→Shared→Prop) (E:Value→Shared→Prop),Q (.int (g i j) s.toks) { s with toks:=s.toks+1 }→wpAny (model X.prog X.w) X.A (f (.int i t) (.int j u)) Q E s) :
    OpR X f (rI0 fun i j=>.int (g i j)):=by
  intro pins s σ H x y v u Q I rx ry h
  obtain ⟨i,j,rfl,rfl,q⟩:=h
  obtain ⟨t,rfl⟩:=rx
  obtain ⟨t',rfl⟩:=ry
  exact rule i j t t' s _ _ ⟨.int (g i j),H,I.tok _,⟨_,rfl⟩,q⟩
theorem opB0 {f:Value→Value→Sem Value} {g:Int→Int→Bool}
    (rule:∀ (i j:Int) (t u:Tok) (s:Shared) (Q:Value→Shared→Prop) (E:Value→Shared→Prop),Q (.bool (g i j)) s→wpAny (model X.prog X.w) X.A (f (.int i t) (.int j u)) Q E s) :
    OpR X f (rI0 fun i j=>.bl (g i j)):=by
  intro pins s σ H x y v u Q I rx ry h
  obtain ⟨i,j,rfl,rfl,q⟩:=h
  obtain ⟨t,rfl⟩:=rx
  obtain ⟨t',rfl⟩:=ry
  exact rule i j t t' s _ _ ⟨.bl (g i j),H,I,rfl,q⟩
noncomputable def CPow (i j:Int):Prop:=0≤j∧j≤1000000∧i.natAbs < 2 ^ 64
noncomputable def CMul (i j:Int):Prop:=(-(2 ^ 64) < i∧i < 2 ^ 64)∨(-(2 ^ 64) < j∧j < 2 ^ 64)
theorem CMul.ok {i j:Int} (h:CMul i j):IntMulOk i j:=by
  rcases h with ⟨h1,h2⟩ | ⟨h1,h2⟩
  · exact .of_left (intBits_le_64 h1 h2)
  · exact .of_right (intBits_le_64 h1 h2)
theorem axw:OpR X (binaryOp .Add) (rI0 fun i j=>.int (i+j)):=opI0 fun _ _ _ _ _ _ _ q=>add_int q
theorem axp:OpR X (binaryOp .Sub) (rI0 fun i j=>.int (i - j)):=opI0 fun _ _ _ _ _ _ _ q=>sub_int q
theorem axs:OpR X (binaryOp .Mult) (rI CMul fun i j=>.int (i*j)):=opI fun _ _ _ _ _ _ _ hc q=>mul_int q hc.ok
theorem axt:OpR X (binaryOp .Mod) (rI (fun _ j=>0 < j) fun i j=>.int (i % j)):=opI fun i j _ _ _ _ _ hc q=>by
  have h1:(0:Int) < j:=hc
  exact mod_int' (by omega) (by rw [Int.fmod_eq_emod_of_nonneg i (by omega)]; exact q)
theorem axr:OpR X (binaryOp .Pow) (rI CPow fun i j=>.int (i ^ j.toNat)):=opI fun _ _ _ _ _ _ _ hc q=>pow_int_small hc.1 hc.2.1 hc.2.2 q
theorem unI {f:Value→Sem Value} {g:Int→Int}
    (rule:∀ (i:Int) (t:Tok) (s:Shared) (Q:Value→Shared→Prop) (E:Value→Shared→Prop),Q (.int (g i) s.toks) { s with toks:=s.toks+1 }→wpAny (model X.prog X.w) X.A (f (.int i t)) Q E s) :
    UnR X f (rU fun i=>.int (g i)):=by
  intro pins s σ H x v Q I rx h
  obtain ⟨i,rfl,q⟩:=h
  obtain ⟨t,rfl⟩:=rx
  exact rule i t s _ _ ⟨.int (g i),H,I.tok _,⟨_,rfl⟩,q⟩
theorem awr:UnR X (unaryOp .USub) (rU fun i=>.int (-i)):=unI fun _ _ _ _ _ q=>neg_int q
end
section
variable {X:Cx} {a b c:Expr} {ta tb tc:TE} {pos:Pos}
theorem axu:OpR X (compareOp .Lt) (rI0 fun i j=>.bl (decide (i < j))):=opB0 fun _ _ _ _ _ _ _ q=>lt_int q
theorem aos:OpR X (compareOp .LtE) (rI0 fun i j=>.bl (decide (i≤j))):=opB0 fun _ _ _ _ _ _ _ q=>le_int q
theorem a1q:OpR X (compareOp .GtE) (rI0 fun i j=>.bl (decide (j≤i))):=opB0 fun _ _ _ _ _ _ _ q=>ge_int q
noncomputable def isObj:HO→Bool
  | .lst _=>true
  | .ins _ _ _=>true
  | _=>false
theorem obj_there {pins:List (Addr×Obj)} {s:Shared} {σ:St} {H:Hp} {a:Addr} {o:HO} (I:Inv X pins σ H s) (h:H a=some o) (p:isObj o=true):∃ ob,s.heap.get? a=some ob∧ob.cls≠.type "tuple" := by
  cases o with
  | lst xs =>
    obtain ⟨_,its,n,_,e⟩:xs.length≤sizeLine∧∃ (its:List Value) (n:Nat),Vals xs its∧s.heap.get? a=some { cls:=.type "list", data:=.seq its.toArray n }:=I.hok a _ h
    exact ⟨_,e,(by show Value.type "list" ≠ .type "tuple"; decide +kernel)⟩
  | ins C dx fs =>
    have x:=I.hok a _ h
    obtain ⟨_,_,_,e,_⟩:=x
    exact ⟨_,e,(by show Value.ref C≠.type "tuple"; exact fun z=>by cases z)⟩
  | _=>exact absurd (show false=true from p) Bool.false_ne_true
theorem OpR.or {f:Value→Value→Sem Value} {r r':R2} (h:OpR X f r) (h':OpR X f r'):OpR X f (fun x y H Q=>r x y H Q∨r' x y H Q):=by
  intro pins s σ H x y v u Q I rx ry q
  rcases q with q | q
  · exact h pins s σ H x y v u Q I rx ry q
  · exact h' pins s σ H x y v u Q I rx ry q
theorem lg (b:Expr) {op:CmpOp} (h:op≠.In:=by decide) (h2:op≠.NotIn:=by decide):behindInMarks op b=false:=by
  have e1:(op==CmpOp.In)=false:=by cases op <;> first | rfl | exact absurd rfl h
  have e2:(op==CmpOp.NotIn)=false:=by cases op <;> first | rfl | exact absurd rfl h2
  cases b <;> simp [behindInMarks,e1,e2]
theorem auo {op:CmpOp} {r:R2} (ho:OpR X (compareOp op) r) (ha:PE X a ta) (hb:PE X b tb) (hm:behindInMarks op b=false):PE X (.Compare a [op] [b] pos) (tOp r ta tb):=by
  intro pins s σ H Q I h
  exact wpAny_Compare1 (binT ha hb I h fun v u s2 x y H2 I2 rx ry q=>ho pins s2 σ H2 x y v u Q I2 rx ry q) hm
noncomputable def a00 (t:TE):TT:=fun σ H Q=>t σ H fun x H'=>∃ k,x=.bl k∧Q k H'
theorem at6 {op:CmpOp} {r:R2} (ho:OpR X (compareOp op) r) (ha:PE X a ta) (hb:PE X b tb) (hm:behindInMarks op b=false):PT X (.Compare a [op] [b] pos) (a00 (tOp r ta tb)):=by
  intro pins s σ H Q I h
  refine wpAny_isTrue_Compare1 (thn (ha pins s σ H _ I h) fun v s1 ⟨x,H1,I1,r1,q1⟩=>thn (hb pins s1 σ H1 _ I1 q1) fun u s2 ⟨y,H2,I2,r2,q2⟩ =>
    thn (ho pins s2 σ H2 x y v u _ I2 r1 r2 q2) fun c s3 ⟨z,H3,I3,r3,k,e,q3⟩ => ?_) hm
  subst e
  cases r3
  exact wpAny_truthy_bool ⟨H3,I3,q3⟩
noncomputable def as4 (r r':R2) (ta tb tc:TE):TE:=fun σ H Q=>ta σ H fun x H1=>tb σ H1 fun y H2=>r x y H2 fun z H3=>∃ k,z=.bl k ∧
  (if k=true then tc σ H3 fun w' H4=>r' y w' H4 Q else Q (.bl false) H3)
theorem ard {op op':CmpOp} {r r':R2} (ho:OpR X (compareOp op) r) (ho':OpR X (compareOp op') r') (ha:PE X a ta) (hb:PE X b tb) (hc:PE X c tc)
    (hm:lastMarks [op,op'] [b,c]=false:=by with_unfolding_all rfl):PE X (.Compare a [op,op'] [b,c] pos) (as4 r r' ta tb tc):=by
  intro pins s σ H Q I h
  refine Compare_chain (thn (ha pins s σ H _ I h) fun v s1 ⟨x,H1,I1,r1,q1⟩=>chain_link (thn (hb pins s1 σ H1 _ I1 q1) fun u s2 ⟨y,H2,I2,r2,q2⟩ =>
    thn (ho pins s2 σ H2 x y v u _ I2 r1 r2 q2) fun d s3 ⟨z,H3,I3,r3,k,e,q3⟩ => ?_)) hm
  subst e
  cases r3
  refine wpAny_truthy_bool ?_
  cases k with
  | false=>exact ite_ff ⟨.bl false,H3,I3,rfl,q3⟩
  | true=>exact ite_tt (chain_last (thn (hc pins s3 σ H3 _ I3 q3) fun w' s4 ⟨z',H4,I4,r4,q4⟩=>ho' pins s4 σ H4 y z' u w' Q I4 r2 r4 q4))
theorem ai7:(sizeLine:Nat) < 2 ^ 63:=by rw [sizeLine_eq]; decide
theorem am1:OpR X (binaryOp .Add) (fun x y H Q=>∃ i j,x=.str i∧y=.str j∧i.length+j.length≤sizeLine∧Q (.str (i++j)) H):=by
  intro pins s σ H x y v u Q I rx ry h
  obtain ⟨i,j,rfl,rfl,hz,q⟩:=h
  obtain ⟨t,rfl⟩:=rx
  obtain ⟨t',rfl⟩:=ry
  exact add_str (fun t' tk=>⟨.str (i++j),H,I.tok _,⟨_,rfl⟩,q⟩) hz
theorem vals1 {x:V} {us:List Value} (r:Vals [x] us):∃ u,us=[u]∧RelV x u:=by
  cases r with
  | cons r1 r2=>cases r2; exact ⟨_,rfl,r1⟩
theorem vals2 {x y:V} {us:List Value} (r:Vals [x,y] us):∃ u w',us=[u,w']∧RelV x u∧RelV y w':=by
  cases r with
  | cons r1 r2 =>
    cases r2 with
    | cons r3 r4=>cases r4; exact ⟨_,_,rfl,r1,r3⟩
theorem ap6 (hc:X.calm=true):aam X (.builtin "max") (fun xs H Q=>∃ i j,xs=[.int i,.int j]∧Q (.int (if j > i then j else i)) H):=by
  intro pins s σ H xs us Q I r h
  obtain ⟨i,j,rfl,q⟩:=h
  obtain ⟨u,w',rfl,⟨t,rfl⟩,⟨t',rfl⟩⟩:=vals2 r
  refine max_two_ints (I.ok.hd hc) fun h' tk k=>⟨_,H,I.kept k,?_,q⟩
  by_cases hj:j > i
  · rw [if_pos hj,if_pos hj]; exact ⟨_,rfl⟩
  · rw [if_neg hj,if_neg hj]; exact ⟨_,rfl⟩
theorem ajs:aam X (.type "int") (fun xs H Q=>(∃ i,xs=[.int i]∧Q (.int i) H)∨∃ k,xs=[.bl k]∧Q (.int (if k then 1 else 0)) H):=by
  intro pins s σ H xs us Q I r h
  rcases h with ⟨i,rfl,q⟩ | ⟨k,rfl,q⟩
  · obtain ⟨u,rfl,t,rfl⟩:=vals1 r
    exact call_int_int ⟨.int i,H,I,⟨_,rfl⟩,q⟩
  · obtain ⟨u,rfl,r1⟩:=vals1 r
    cases r1
    exact call_int_bool ⟨.int (if k then 1 else 0),H,I.tok _,⟨_,rfl⟩,q⟩
end
end L2
namespace L2
open PySem PySem.Spec PyProof.Rows
structure ObjM (h:Heap) (x dx C:Addr) (mA:Str→Option Value):Prop where
  obj:h.get? x=some (PySem.W.instObj C dx)
  ns:h.Ns1 dx mA
  ne:dx≠x
theorem aoy {h:Heap} {dx:Addr} {mA:Str→Option Value} (n:h.Ns1 dx mA):∃ od,h.get? dx=some od∧∀ name,PySem.W.lookIn name od=some (mA name):=by
  obtain ⟨o,es,ep,ho,hd,hk,_,hm⟩:=n
  refine ⟨o,ho,fun name => ?_⟩
  have e:=hm name
  unfold nsFind findBy at e
  rw [←Array.find?_toList] at e
  unfold PySem.W.lookIn
  rw [hd]
  dsimp only
  split
  · rename_i y q
    rw [q] at e
    exact congrArg some e
  · rename_i q
    rw [q] at e
    have a:es.toList.any (·.refKey)=false:=by
      rw [List.any_eq_false]
      intro y hy
      obtain ⟨z,t,hkey⟩:=hk y (Array.mem_toList_iff.mp hy)
      simp [DictEntry.refKey,hkey]
    have a':¬es.toList.any (·.refKey)=true:=by rw [a]; exact Bool.false_ne_true
    rw [if_neg a']
    exact congrArg some e
theorem ObjM.look {h:Heap} {x dx C:Addr} {mA:Str→Option Value} (I:ObjM h x dx C mA):∃ od,PySem.W.InstAt h x (PySem.W.instObj C dx) C (some od)∧∀ name,PySem.W.lookIn name od=some (mA name) :=
  let ⟨od,ho,hl⟩:=aoy I.ns
  ⟨od,⟨I.obj,rfl,rfl,ho⟩,hl⟩
section
variable {prog:Program} {w:World} {A:Around} {E:Value→Shared→Prop} {s:Shared} {K:PySem.W.Frag} {x dx C f:Addr} {mA:Str→Option Value} {name:Str} {v:Value}
end
theorem RelO.none_of {o:Option Value} (r:RelO none o):o=none:=by
  cases o with
  | none=>rfl
  | some u=>exact (show False from r).elim
section
variable {P:Program} {w:World} {H H':Hp} {h h':Heap} {a C dx:Addr} {fs fs':List (Str×V)}
theorem avd (hok:HOk P w H h) (e:H a=some (.ins C dx fs)):∃ mA,ObjM h a dx C mA∧(∀ f,RelO (fs.lookup f) (mA f))∧PySem.Within mA (fs.map (·.1))∧fs.length≤1000∧H dx=some (.own a):=by
  obtain ⟨d,z,ne,ob,mA,n,r,q⟩:=(show za P w H h a (.ins C dx fs) from hok a _ e)
  exact ⟨mA,⟨ob,n,ne⟩,r,q,z,d⟩
end
structure Cls (K:PySem.W.Frag) (C:Addr):Prop where
  pg:PySem.W.plainGet K C Str.empty=true
  hd:PySem.W.hasDictIn K C=true
  po:PySem.W.plainOver K C=true
  sa:PySem.W.findIn K (.ref C) "__setattr__" = some (some (.builtin "object.__setattr__"))
theorem Cls.get {K:PySem.W.Frag} {C:Addr} (c:Cls K C) (f:Str):PySem.W.plainGet K C f=true:=c.pg
structure Con (K:PySem.W.Frag) (C:Addr) (f:Str) (v:V) (u:Value):Prop where
  at_:PySem.W.findIn K (.ref C) f=some (some u)
  rel:RelV v u
  get:PySem.W.specialIn K u "__get__" = some none
  cp:PySem.W.copiedNames.contains f=false
structure Meth (K:PySem.W.Frag) (C:Addr) (m:Str) (f:Addr):Prop where
  at_:PySem.W.findIn K (.ref C) m=some (some (.ref f))
  fn:PySem.W.isFn K (.ref f)=true
  kp:PySem.W.keepIn K (.ref f)=true
section
variable {X:Cx} {pins:List (Addr×Obj)} {σ:St} {H:Hp} {s:Shared} {a C dx:Addr} {fs:List (Str×V)} {f:Str} {v:V} {A:Around} {E:Value→Shared→Prop}
theorem Inv.made (I:Inv X pins σ H s):Inv X pins σ (upd (upd H s.heap.objs.size (.own (s.heap.objs.size+1))) (s.heap.objs.size+1) (.ins C s.heap.objs.size []))
    { s with heap:=(s.heap.push PySem.W.emptyDict).push (PySem.W.instObj C s.heap.objs.size) }:=by
  have e1:(s.heap.push PySem.W.emptyDict).get? s.heap.objs.size=some PySem.W.emptyDict:=Heap.get?_push_size s.heap rfl
  have e2:((s.heap.push PySem.W.emptyDict).push (PySem.W.instObj C s.heap.objs.size)).get? (s.heap.objs.size+1)=some (PySem.W.instObj C s.heap.objs.size):=by
    have:=Heap.get?_push_size (s.heap.push PySem.W.emptyDict) (o:=PySem.W.instObj C s.heap.objs.size) rfl
    rwa [Heap.size_push] at this
  have e3:(s.heap.push PySem.W.emptyDict).Ns s.heap.objs.size (fun _=>none):=⟨PySem.W.emptyDict,#[],_,e1,rfl,(fun e he=>absurd he (by simp)),fun _=>rfl⟩
  have I1:=I.laid (a:=s.heap.objs.size) (o:=.own (s.heap.objs.size+1)) (h':=s.heap.push PySem.W.emptyDict) (t':=s.toks) (fun b u q=>Heap.get?_push_of_some _ q) (Nat.le_refl _) ⟨_,e1⟩
  refine I1.laid (a:=s.heap.objs.size+1) (o:=.ins C s.heap.objs.size []) (t':=s.toks) (fun b u q=>Heap.get?_push_of_some _ q) (Nat.le_of_eq (Heap.size_push _ _)) ?_
  have ne:s.heap.objs.size≠s.heap.objs.size+1:=Nat.ne_of_lt (Nat.lt_succ_self _)
  refine ⟨by rw [fc ne,jh],Nat.zero_le _,ne,e2,fun _=>none,(Heap.Ns1.of_empty e3).at fun o q=>Heap.get?_push_of_some _ q,fun _=>True.intro,fun y hy=>absurd rfl hy⟩
end
section
variable {X:Cx} {o e value:Expr} {f:Str} {pos pos' tpos:Pos} {ta tv:TE}
end
section
variable {X:Cx} {pins:List (Addr×Obj)} {σ:St} {H:Hp} {s:Shared} {A:Around} {E:Value→Shared→Prop} {Q:Value→Shared→Prop} {c:Value} {b:Bool}
inductive TyOf (K:PySem.W.Frag) (H:Hp):V→Value→Prop where
  | non:TyOf K H .non (.type "NoneType")
  | bl (x:Bool):TyOf K H (.bl x) (.type "bool")
  | int (i:Int):TyOf K H (.int i) (.type "int")
  | str (x:Str):TyOf K H (.str x) (.type "str")
  | flt (x:UInt64):TyOf K H (.flt x) (.type "float")
  | lst {a:Addr} {xs:List V} (e:H a=some (.lst xs)):TyOf K H (.ref a) (.type "list")
  | frz {a:Addr} {o:Obj} {xs:List V} (e:H a=some (.frz o (.lst xs))):TyOf K H (.ref a) (.type "list")
  | tup {a:Addr} {xs:List V} (e:H a=some (.tup xs)):TyOf K H (.ref a) (.type "tuple")
  | dK {a:Addr} {kvs:List (Key×V)} (e:H a=some (.dK kvs)):TyOf K H (.ref a) (.type "dict")
  | dT {a:Addr} {kvs:List (List Key×V)} (e:H a=some (.dT kvs)):TyOf K H (.ref a) (.type "dict")
  | ins {a C dx:Addr} {fs:List (Str×V)} (e:H a=some (.ins C dx fs)) (cl:Cls K C) (ha:PySem.W.findIn K (.ref C) "__class__" = some (some (.builtin "object.__class__")))
      (hn:PySem.W.specialIn K (.builtin "object.__class__") "__get__" = some (some (.builtin "getset_descriptor.__get__"))) (htk:PySem.W.takesIn K (.builtin "object.__class__")=some true)
      (hm:PySem.W.mroIn K C (.type "object")=some true):TyOf K H (.ref a) (.ref C)
theorem ao6 {x:V} {u t:Value} (I:Inv X pins σ H s) (rx:RelV x u) (ty:TyOf X.K H x t) (e:PySem.W.kitOne X.K t c=some b) (h:∀ tk,Q (.bool b) { s with toks:=tk }) :
    wpAny (model X.prog X.w) A (call (.builtin "isinstance") [u,c]) Q E s:=by
  cases ty with
  | non=>cases (show u=Value.none from rx); exact PySem.W.kia_one PySem.W.kitx_none I.kIn True.intro e (fun z=>nomatch z) h
  | bl y=>cases (show u=Value.bool y from rx); exact PySem.W.kia_one PySem.W.kitx_bool I.kIn True.intro e (fun z=>nomatch z) h
  | int i=>obtain ⟨t,q⟩:=(show ∃ t,u=Value.int i t from rx); cases q; exact PySem.W.kia_one PySem.W.kitx_int I.kIn True.intro e (fun z=>nomatch z) h
  | str y=>obtain ⟨t,q⟩:=(show ∃ t,u=Value.str y t from rx); cases q; exact PySem.W.kia_one PySem.W.kitx_str I.kIn True.intro e (fun z=>nomatch z) h
  | flt y=>obtain ⟨t,q⟩:=(show ∃ t,u=Value.float y t from rx); cases q; exact PySem.W.kia_one PySem.W.kitx_float I.kIn True.intro e (fun z=>nomatch z) h
  | @lst a xs ea =>
    cases (show u=Value.ref a from rx)
    obtain ⟨_,_,n,_,h1⟩:=(show za X.prog X.w H s.heap a (.lst xs) from I.hok a _ ea)
    exact PySem.W.kia_one PySem.W.kitx_list I.kIn ⟨_,h1,rfl⟩ e (fun z=>nomatch z) h
  | @frz a ob xs ea =>
    cases (show u=Value.ref a from rx)
    obtain ⟨_,_,_,n,_,h1⟩:=(show za X.prog X.w H s.heap a (.frz ob (.lst xs)) from I.hok a _ ea)
    exact PySem.W.kia_one PySem.W.kitx_list I.kIn ⟨_,h1,rfl⟩ e (fun z=>nomatch z) h
  | @tup a xs ea =>
    cases (show u=Value.ref a from rx)
    obtain ⟨_,_,_,p⟩:=(show za X.prog X.w H s.heap a (.tup xs) from I.hok a _ ea)
    obtain ⟨o,h1,h2,_⟩:=p
    exact PySem.W.kia_one PySem.W.kitx_tuple I.kIn ⟨o,h1,h2⟩ e (fun z=>nomatch z) h
  | @dK a kvs ea =>
    cases (show u=Value.ref a from rx)
    obtain ⟨_,_,vs,_,p⟩:=(show za X.prog X.w H s.heap a (.dK kvs) from I.hok a _ ea)
    obtain ⟨o,es,ep,h1,h2,_⟩:=p
    exact PySem.W.kia_one PySem.W.kitx_dict I.kIn ⟨o,h1,h2.1⟩ e (fun z=>nomatch z) h
  | @dT a kvs ea =>
    cases (show u=Value.ref a from rx)
    obtain ⟨_,_,xs,_,o,es,ep,h1,h2,_⟩:=(show za X.prog X.w H s.heap a (.dT kvs) from I.hok a _ ea)
    exact PySem.W.kia_one PySem.W.kitx_dict I.kIn ⟨o,h1,h2.1⟩ e (fun z=>nomatch z) h
  | @ins a C dx fs ea cl ha hn htk hm =>
    cases (show u=Value.ref a from rx)
    obtain ⟨mA,O,_⟩:=avd I.hok ea
    obtain ⟨od,J,_⟩:=O.look
    exact PySem.W.kia_one (PySem.W.kitx_own (cl.get _) cl.hd ha hn htk hm) I.kIn J e (fun z=>nomatch z) h
end
end L2
namespace L2
open PySem PySem.Spec PyProof.Rows
structure Room (k:Nat) (A:Around):Prop where
  hd:A.handled=none
  dp:A.depth+3*k+5 < recursionLimit
  un:A.units+16*k+200 < cLine
  gd:A.guards=some []
theorem Room.mono {j k:Nat} {A:Around} (r:Room k A) (h:j≤k):Room j A:=⟨r.hd,by have:=r.dp; omega,by have:=r.un; omega,r.gd⟩
theorem Room.deeper {k:Nat} {A:Around} (r:Room (k+1) A) (env:Env):Room k (A.deeper env) :=
  ⟨r.hd,by have:=r.dp; show A.depth+1+3*k+5 < _; omega,by have:=r.un; show A.units+3+16*k+200 < _; omega,r.gd⟩
theorem Room.in1 {k:Nat} {A:Around} (r:Room (k+1) A):Room k A.in1 :=
  ⟨r.hd,by have:=r.dp; show A.depth+3*k+5 < _; omega,by have:=r.un; show A.units+1+16*k+200 < _; omega,r.gd⟩
theorem am7 {A:Around} {C:Addr} {us:List Value} {kw:List (Str×Value)}:(A.under (.builtin "type.__call__" ⟨.ref C::us,kw⟩)).depth=A.depth+1:=by
  first | rfl | simp [Around.under,Code.weight,Code.isCreation,Code.isGuard,Code.isCaller,Code.frames,Code.isFrame,guardIds]
theorem am6 {A:Around} {C:Addr} {us:List Value} {kw:List (Str×Value)}:(A.under (.builtin "type.__call__" ⟨.ref C::us,kw⟩)).units=A.units+1:=by
  first | rfl | simp [Around.under,Code.cUnits,Code.frames,Code.isFrame]
theorem akp {A:Around} {C:Addr} {us:List Value} {kw:List (Str×Value)}:(A.under (.builtin "type.__call__" ⟨.ref C::us,kw⟩)).guards=A.guards:=by first | rfl | simp [Around.under,Code.weight,Code.isCreation,Code.isGuard,Code.isCaller,Code.frames,Code.isFrame,guardIds]
theorem Room.make {k:Nat} {A:Around} (r:Room (k+1) A) (C:Addr) (us:List Value) (kw:List (Str×Value)):Room k (A.under (.builtin "type.__call__" ⟨.ref C::us,kw⟩)) :=
  ⟨r.hd,by have:=r.dp; rw [am7]; omega,by have:=r.un; rw [am6]; omega,by rw [akp]; exact r.gd⟩
theorem Room.depth {k:Nat} {A:Around} (r:Room k A):A.depth < recursionLimit:=by have:=r.dp; omega
theorem Room.units {k:Nat} {A:Around} (r:Room k A):A.units+64 < cLine:=by have:=r.un; omega
noncomputable def tNil:TA:=fun _ H Q=>Q [] H
noncomputable def a06 (ta:TE) (tr:TA):TA:=fun σ H Q=>ta σ H fun x H1=>tr σ H1 fun xs H2=>Q (x::xs) H2
section
variable {X:Cx} {e:Expr} {es:List Expr} {te:TE} {t:TA} {pos:Pos}
theorem agp:PA X [] tNil:=fun _ _ _ _ H Q I h=>Calls.spliced_nil ⟨[],H,I,.nil,h⟩
theorem aap (ha:PE X e te) (hr:PA X es t) (hs:starEach (e::es) X.env=(false,eval e X.env)::starEach es X.env:=by rfl):PA X (e::es) (a06 te t):=by
  intro pos pins s σ H Q I h
  rw [hs]
  show wpAny _ _ (spliced ((false,eval e X.env)::backTo pos (starEach es X.env))) _ _ s
  refine Calls.spliced_cons (thn (ha pins s σ H _ I h) fun u s1 ⟨x,H1,I1,r1,q1⟩ => ?_)
  exact thn (hr pos pins s1 σ H1 _ I1 q1) fun us s2 ⟨xs,H2,I2,r2,q2⟩=>⟨x::xs,H2,I2,.cons r1 r2,q2⟩
noncomputable def tTup (t:TA):TE:=fun σ H Q=>t σ H fun xs H1=>xs.length≤sizeLine∧∀ p,H1 p=none→Q (.ref p) (upd H1 p (.tup xs))
noncomputable def tLst (t:TA):TE:=fun σ H Q=>t σ H fun xs H1=>xs.length≤sizeLine∧∀ p,H1 p=none→Q (.ref p) (upd H1 p (.lst xs))
theorem axg {x1} (h:PA X es t):PE X (.Tuple es x1 pos) (tTup t):=by
  intro pins s σ H Q I hq
  refine wpAny_Tuple_spliced (thn (h pos pins s σ H _ I hq) fun us s1 ⟨xs,H1,I1,r,z,q⟩=>⟨by rw [←r.length]; exact z,?_⟩)
  have hf:H1 s1.heap.objs.size=none:=I1.hok.fresh (Nat.le_refl _)
  refine ⟨.ref s1.heap.objs.size,upd H1 s1.heap.objs.size (.tup xs),I1.laid (t':=s1.toks) (fun b u e=>Heap.get?_push_of_some _ e) (Nat.le_refl _) ?_,rfl,q _ hf⟩
  exact ⟨z,us,r,⟨_,Heap.get?_push_size _ rfl,rfl,rfl,_,rfl⟩⟩
theorem axl (h:PA X es t):PE X (.List es pos) (tLst t):=by
  intro pins s σ H Q I hq
  refine wpAny_List_spliced (thn (h pos pins s σ H _ I hq) fun us s1 ⟨xs,H1,I1,r,z,q⟩=>⟨by rw [←r.length]; exact z,?_⟩)
  have hf:H1 s1.heap.objs.size=none:=I1.hok.fresh (Nat.le_refl _)
  refine ⟨.ref s1.heap.objs.size,upd H1 s1.heap.objs.size (.lst xs),I1.laid (t':=s1.toks) (fun b u e=>Heap.get?_push_of_some _ e) (Nat.le_refl _) ?_,rfl,q _ hf⟩
  exact ⟨z,us,0,r,Heap.get?_push_size _ rfl⟩
end
noncomputable abbrev Sp:=List V→Hp→VK→XK→Prop
noncomputable abbrev CXT:=List Env→Hp→Shared→XK→Value→Shared→Prop
structure Env0 (P:Program) (w:World) (K:PySem.W.Frag) (mg:Str→Option Value) (base:Heap) (A:Around) (outer:List Env) (s:Shared) (H:Hp):Prop where
  frames:A.frames=some outer
  mod:Mod K mg base
  bs:∀ b o,base.get? b=some o→s.heap.get? b=some o∧H b=none
  bsz:base.objs.size≤s.heap.objs.size
  funs:s.heap.FunFrames base outer
  frf:∀ b∈frs outer,H b=none
  hok:HOk P w H s.heap
  bare:AllBare s.gens
noncomputable def CE (outer:List Env) (P:Program) (w:World) (H:Hp) (s:Shared) (Q:VK) (u:Value) (s':Shared):Prop :=
  ∃ v H',s'.os=s.os∧AllBare s'.gens∧Un (frs outer) [] H H' s.heap s'.heap∧HOk P w H' s'.heap∧RelV v u∧Q v H'
noncomputable def CR (CX:CXT) (outer:List Env) (P:Program) (w:World) (H:Hp) (s:Shared) (Q:VK) (E:XK) (r:Result) (s':Shared):Prop :=
  match r with
  | .ok (.ret u)=>CE outer P w H s Q u s'
  | .ok _=>False
  | .error e=>CX outer H s E e s'
structure FnOk (P:Program) (w:World) (K:PySem.W.Frag) (mg:Str→Option Value) (base:Heap) (CX:CXT) (k:Nat) (f:Addr) (fd:FuncData) (ps:List Str) (sp:Sp):Prop where
  len:∀ vs H Q E,sp vs H Q E→vs.length=ps.length
  run:∀ (A:Around) (outer:List Env) (s:Shared) (H:Hp) (args:Args) (us:List Value) (vs:List V) (Q:VK) (E:XK),Room k A→Env0 P w K mg base A outer s H→BindsTo s fd args (ps.zip us)→Vals vs us→sp vs H Q E →
    codeAny (model P w) A (.call (.ref f) args) (CR CX outer P w H s Q E) s
theorem FnOk.mono {P:Program} {w:World} {K:PySem.W.Frag} {mg:Str→Option Value} {base:Heap} {CX:CXT} {j k:Nat} {f:Addr} {fd:FuncData} {ps:List Str} {sp:Sp} (F:FnOk P w K mg base CX j f fd ps sp) (h:j≤k) :
    FnOk P w K mg base CX k f fd ps sp:=⟨F.len,fun A outer s H args us vs Q E hr=>F.run A outer s H args us vs Q E (hr.mono h)⟩
theorem FnOk.imp {P:Program} {w:World} {K:PySem.W.Frag} {mg:Str→Option Value} {base:Heap} {CX:CXT} {k:Nat} {f:Addr} {fd:FuncData} {ps:List Str} {sp sp':Sp} (F:FnOk P w K mg base CX k f fd ps sp)
    (h:∀ vs H Q E,sp' vs H Q E→sp vs H Q E):FnOk P w K mg base CX k f fd ps sp' :=
  ⟨fun vs H Q E q=>F.len vs H Q E (h _ _ _ _ q),fun A outer s H args us vs Q E hr he hb hv hs=>F.run A outer s H args us vs Q E hr he hb hv (h _ _ _ _ hs)⟩
theorem Env0.make {P:Program} {w:World} {K:PySem.W.Frag} {mg:Str→Option Value} {base:Heap} {A:Around} {outer:List Env} {s:Shared} {H:Hp} (e:Env0 P w K mg base A outer s H) (C:Addr) (us:List Value) (kw:List (Str×Value)) :
    Env0 P w K mg base (A.under (.builtin "type.__call__" ⟨.ref C::us,kw⟩)) outer s H:=⟨by first | exact e.frames | (simpa [Around.under,Code.envs,Code.isFrame,pushEnvs] using e.frames),e.mod,e.bs,e.bsz,e.funs,e.frf,e.hok,e.bare⟩
theorem Env0.in1 {P:Program} {w:World} {K:PySem.W.Frag} {mg:Str→Option Value} {base:Heap} {A:Around} {outer:List Env} {s:Shared} {H:Hp} (e:Env0 P w K mg base A outer s H) :
    Env0 P w K mg base A.in1 outer s H:=⟨e.frames,e.mod,e.bs,e.bsz,e.funs,e.frf,e.hok,e.bare⟩
section
variable {X:Cx} {pins:List (Addr×Obj)} {σ:St} {H:Hp} {s s':Shared}
theorem Inv.env0 (I:Inv X pins σ H s):Env0 X.prog X.w X.K X.mg X.base X.A X.stack s H :=
  ⟨I.ok.frames,I.ok.mod,I.bs,Nat.le_trans I.ok.bsz I.sz,I.stack,I.stkFree,I.hok,I.bare⟩
theorem Inv.after {Q:VK} {u:Value} (I:Inv X pins σ H s) (h:CE X.stack X.prog X.w H s Q u s'):EP X pins σ Q u s':=by
  obtain ⟨v,H',os,bare,un,hok,r,q⟩:=h
  obtain ⟨hh,g,d,t,os'⟩:=s'
  obtain rfl:os'=s.os:=os
  exact ⟨v,H',I.call (h':=hh) (g':=g) (d':=d) (t':=t) (ch:=[]) un hok bare (fun b z=>absurd z (by simp)),r,q⟩
end
noncomputable def awv (sp:Sp) (dvs:List V) (E:XK) (t:TA):TE:=fun σ H Q=>t σ H fun vs H1=>sp (vs++dvs) H1 Q E
noncomputable def Binds (K:PySem.W.Frag) (fd:FuncData) (ps:List Str) (ds:List Value):Prop :=
  ∀ (s:Shared) (us:List Value),K.In s.heap→(us++ds).length=ps.length→BindsTo s fd ⟨us,[]⟩ (ps.zip (us++ds))
theorem Binds.all {K:PySem.W.Frag} {fd:FuncData} {ps:List Str} (h:∀ us:List Value,us.length=ps.length→bindArgs fd ⟨us,[]⟩=pure (ps.zip us)):Binds K fd ps []:=fun s us _ hl=>by
  rw [List.append_nil] at hl ⊢
  exact .of_eq (h us hl)
noncomputable def aql (CX:CXT) (X:Cx) (E:XK):Prop:=∀ (pins:List (Addr×Obj)) (σ:St) (H:Hp) (s:Shared) (e:Value) (s':Shared),Inv X pins σ H s→CX X.stack H s E e s'→X.xe e s'
section
variable {X:Cx} {CX:CXT} {k:Nat} {f C:Addr} {fd:FuncData} {ps:List Str} {sp:Sp} {dvs:List V} {ds:List Value} {E:XK} {x m:Str} {p pos apos:Pos} {e o:Expr} {es:List Expr} {ta:TE} {t:TA}
theorem aw1 {pins:List (Addr×Obj)} {σ:St} {H:Hp} {s:Shared} {Q:VK} {us:List Value} {vs:List V} (F:FnOk X.prog X.w X.K X.mg X.base CX k f fd ps sp) (hr:Room k X.A) (hb:Binds X.K fd ps ds) (hd:Vals dvs ds) (hx:aql CX X E)
    (I:Inv X pins σ H s) (r:Vals vs us) (h:sp (vs++dvs) H Q E):wpAny (model X.prog X.w) X.A (call (.ref f) us) (EP X pins σ Q) X.xe s:=by
  have r2:Vals (vs++dvs) (us++ds):=r.append hd
  have hl:(us++ds).length=ps.length:=by rw [←r2.length]; exact F.len _ _ _ _ h
  refine wpAny_call (codeAny_mono (F.run X.A X.stack s H ⟨us,[]⟩ (us++ds) (vs++dvs) Q E hr I.env0 (hb s us I.kIn hl) r2 h) fun r s' hq => ?_)
  cases r with
  | error e=>exact hx pins σ H s e s' I hq
  | ok fl =>
    cases fl with
    | ret u=>exact I.after hq
    | next=>exact False.elim hq
    | brk=>exact False.elim hq
    | cont=>exact False.elim hq
theorem aup (F:FnOk X.prog X.w X.K X.mg X.base CX k f fd ps sp) (hr:Room k X.A) (hg:Gl X x) (hm:X.mg x=some (.ref f)) (hk:PySem.W.keepIn X.K (.ref f)=true) (hb:Binds X.K fd ps ds) (hd:Vals dvs ds) (hx:aql CX X E)
    (ha:PA X (e::es) t) (hdb:(x==("__debug__" : Str))=false:=by decide) (he:starEach (e::es) X.env=(false,eval e X.env)::starEach es X.env:=by rfl) (hpl:(backTo pos (starEach es X.env)).any (·.1)=false:=by rfl) :
    PE X (.Call (.Name x p) (e::es) [] pos) (awv sp dvs E t):=by
  intro pins s σ H Q I h
  refine wpAny_Call_Name_kw (ao0 I hg hm ?_ hdb)
  refine PySem.W.callWith_K (h₀:=X.base) I.ok.mod.kin hk (thn (ha pos pins s σ H _ I h) fun us s1 ⟨vs,H1,I1,r,q⟩=>⟨I1.kIn,?_⟩) he hpl
  exact aw1 F hr hb hd hx I1 r q
structure Mk (K:PySem.W.Frag) (C f:Addr):Prop where
  makes:PySem.W.makesIn K C=true
  init:PySem.W.findIn K (.ref C) "__init__" = some (some (.ref f))
  fn:PySem.W.isFn K (.ref f)=true
  kp:PySem.W.keepIn K (.ref C)=true
end
section
variable {X:Cx} {CX:CXT} {k:Nat} {f C:Addr} {fd:FuncData} {ps ks:List Str} {sp:Sp} {E:XK} {x m:Str} {p pos apos kpos:Pos} {e o:Expr} {es:List Expr} {kws:List Keyword} {te ta:TE} {t tk:TA} {nm:Option Str}
structure KBinds (K:PySem.W.Frag) (fd:FuncData) (ps ks:List Str) (g:List Value→List Value→List Value) (gV:List V→List V→List V):Prop where
  to:∀ (s:Shared) (us ws:List Value),K.In s.heap→(g us ws).length=ps.length→BindsTo s fd ⟨us,ks.zip ws⟩ (ps.zip (g us ws))
  rel:∀ {vs:List V} {us:List Value} {zs:List V} {ws:List Value},Vals vs us→Vals zs ws→Vals (gV vs zs) (g us ws)
variable {g:List Value→List Value→List Value} {gV:List V→List V→List V}
end
structure FnScope (N P:List Str) (sc:Scope):Prop where
  kind:sc.kind=.function
  co:sc.isCoroutine=false
  gen:sc.isGenerator=false
  nd:N.Nodup
  pre:N.take P.length=P
  par:∀ x∈P,sc.names.lookup x=some .local∨sc.names.lookup x=some .cell
  nofree:∀ y∈sc.names,y.2≠.free
theorem ajx {kindOf:Str→Option NameKind} {x:Str}:∀ {binds:List (Str×Value)} {m:Str→Option Value},(∀ v,(x,v)∉binds)→bindL kindOf binds m x=m x
  | [],_,_=>rfl
  | (n,v)::r,m,h=>by
    unfold bindL
    rw [ajx fun w hw=>h w (List.mem_cons_of_mem _ hw)]
    split
    · have:x≠n:=by rintro rfl; exact h v List.mem_cons_self
      simp [this]
    · rfl
theorem ajz {kindOf:Str→Option NameKind} {x:Str}:∀ {binds:List (Str×Value)} {m:Str→Option Value},(∀ v,(x,v)∉binds)→bindC kindOf binds m x=m x
  | [],_,_=>rfl
  | (n,v)::r,m,h=>by
    unfold bindC
    rw [ajz fun w hw=>h w (List.mem_cons_of_mem _ hw)]
    split
    · rfl
    · have:x≠n:=by rintro rfl; exact h v List.mem_cons_self
      simp [this]
theorem ajy {kindOf:Str→Option NameKind} {x:Str} {v:Value}:∀ {P:List Str} {vs:List Value} {i:Nat} {m:Str→Option Value},P.Nodup→P[i]? = some x→vs[i]? = some v→kindOf x=some .local →
    bindL kindOf (P.zip vs) m x=some v
  | [],_,_,_,_,h,_,_=>by simp at h
  | _::_,[],_,_,_,_,h,_=>by simp at h
  | p::P,w::vs,0,m,nd,h1,h2,hk=>by
    simp at h1 h2; subst h1; subst h2
    show bindL kindOf ((p,w)::P.zip vs) m p=_
    unfold bindL
    rw [ajx fun v hv=>(List.nodup_cons.mp nd).1 (List.of_mem_zip hv).1,if_pos hk]
    simp
  | p::P,w::vs,i+1,m,nd,h1,h2,hk=>by
    show bindL kindOf ((p,w)::P.zip vs) m x=_
    unfold bindL
    exact ajy (i:=i) (List.nodup_cons.mp nd).2 (by simpa using h1) (by simpa using h2) hk
theorem aj0 {kindOf:Str→Option NameKind} {x:Str} {v:Value}:∀ {P:List Str} {vs:List Value} {i:Nat} {m:Str→Option Value},P.Nodup→P[i]? = some x→vs[i]? = some v→kindOf x≠some .local →
    bindC kindOf (P.zip vs) m x=some v
  | [],_,_,_,_,h,_,_=>by simp at h
  | _::_,[],_,_,_,_,h,_=>by simp at h
  | p::P,w::vs,0,m,nd,h1,h2,hk=>by
    simp at h1 h2; subst h1; subst h2
    show bindC kindOf ((p,w)::P.zip vs) m p=_
    unfold bindC
    rw [ajz fun v hv=>(List.nodup_cons.mp nd).1 (List.of_mem_zip hv).1,if_neg hk]
    simp
  | p::P,w::vs,i+1,m,nd,h1,h2,hk=>by
    show bindC kindOf ((p,w)::P.zip vs) m x=_
    unfold bindC
    exact aj0 (i:=i) (List.nodup_cons.mp nd).2 (by simpa using h1) (by simpa using h2) hk
noncomputable def start (N:List Str) (vs:List V):St:=vs.map some++List.replicate (N.length - vs.length) none
noncomputable def cxOf (CX:CXT) (P:Program) (w:World) (K:PySem.W.Frag) (mg:Str→Option Value) (base:Heap) (N:List Str) (qual:Str) (scope:Scope) (f:Addr) (cd:Value) (A:Around) (outer:List Env) (s:Shared) (H:Hp) (E:XK):Cx where
  prog:=P
  w:=w
  K:=K
  mg:=mg
  base:=base
  A:=A.deeper (envOfC qual scope s.heap.objs.size f cd)
  N:=N
  s₀:=s
  H₀:=H
  env:=envOfC qual scope s.heap.objs.size f cd
  outer:=outer
  stack:=envOfC qual scope s.heap.objs.size f cd::outer
  ex:=[]
  calm:=true
  fn:=fun _=>true
  pn:=[]
  xe:=fun e s'=>wpAny (model P w) (A.deeper (envOfC qual scope s.heap.objs.size f cd)) (leaving (envOfC qual scope s.heap.objs.size f cd) e) (fun _ s''=>CX outer H s E e s'') (fun e' s''=>CX outer H s E e' s'') s'
theorem amh {sc:Scope} {n:Nat} {x:Str} (h:sc.names.lookup x=some .cell):∃ c,(cellsFrom n sc.names []).lookup x=some c:=by
  have q:=PySem.W.cellsFrom_some sc.names n [] (.inl h)
  exact Option.isSome_iff_exists.mp q
theorem ao7 {CX:CXT} {P:Program} {w:World} {K:PySem.W.Frag} {mg:Str→Option Value} {base:Heap} {N ps:List Str} {qual:Str} {scope:Scope} {f:Addr} {cd:Value} {A:Around} {outer:List Env} {s s1:Shared} {H:Hp} {E:XK} {us:List Value} {vs:List V}
    (S:FnScope N ps scope) (hd:A.handled=none) (e0:Env0 P w K mg base A outer s H) (hl:vs.length=ps.length) (r:Vals vs us)
    (x:InCallC s s.heap.objs.size (bindL (envOfC qual scope s.heap.objs.size f cd).kindOf (ps.zip us) fun _=>none) (cellsFrom (s.heap.objs.size+1) scope.names []) (bindC (envOfC qual scope s.heap.objs.size f cd).kindOf (ps.zip us) fun _=>none) s1) :
    Inv (cxOf CX P w K mg base N qual scope f cd A outer s H E) [] (start N vs) H s1:=by
  have hpl:ps.length≤N.length:=by have:=congrArg List.length S.pre; rw [List.length_take] at this; omega
  obtain ⟨h1,tk,rfl,hk⟩:=x.done
  have noA:∀ b:Addr,b∉(cxOf CX P w K mg base N qual scope f cd A outer s H E).ex:=fun b z=>absurd (show b∈([]:List Addr) from z) (by simp)
  refine ⟨⟨e0.mod,S.kind,rfl,rfl,Nat.le_refl _,fun y z c h1 h2 => ?_,fun y hy => ?_,fun y c _ h => ?_,fun _=>hd,Around.frames_deeper e0.frames,.inr ⟨rfl,rfl⟩,fun b z=>absurd z (noA b),e0.bs,e0.bsz,fun b _ _=>noA b,fun b z=>absurd z (noA b),e0.funs,e0.frf⟩,
    rfl,e0.bare,Un.kept hk,⟨_,x.toInCall.ns,fun i y v h1 h2 h3 => ?_⟩,fun y c h=>⟨_,x.cell y c h⟩,e0.hok.fresh (Nat.le_refl _),fun y c h => ?_,fun p hp=>absurd (show p∈([]:List (Addr×Obj)) from hp) (by simp),e0.hok.kept hk,?_⟩
  · exact name_of_addr x.apart (PySem.mem_of_lookup h1) (PySem.mem_of_lookup h2)
  · have hy:scope.names.lookup y=some .cell∨scope.names.lookup y=some .free:=hy
    rcases hy with hy | hy
    · exact amh hy
    · exact absurd rfl (S.nofree _ (PySem.mem_of_lookup hy))
  · exact Nat.le_of_lt (x.above y c (PySem.mem_of_lookup h))
  · have hi:i < vs.length:=by
      unfold start at h2
      by_cases hi:i < vs.length
      · exact hi
      · rw [List.getElem?_append_right (by simpa using hi)] at h2
        rw [List.getElem?_replicate] at h2
        split at h2 <;> cases h2
    have ha:vs[i]? = some v:=by
      unfold start at h2
      rw [List.getElem?_append_left (by simpa using hi),List.getElem?_map] at h2
      cases e:vs[i]? with
      | none=>rw [e] at h2; cases h2
      | some a=>rw [e] at h2; cases h2; rfl
    obtain ⟨u,hu,rv⟩:=r.get ha
    have hp:ps[i]? = some y:=by
      rw [←S.pre,List.getElem?_take_of_lt (by omega)]; exact h1
    have ndP:ps.Nodup:=by rw [←S.pre]; exact S.nd.sublist (List.take_sublist _ _)
    refine ⟨u,rv,?_⟩
    rcases S.par y (List.mem_of_getElem? hp) with k | k
    · exact .inl ⟨k,ajy ndP hp hu k⟩
    · obtain ⟨c,e⟩:=amh (n:=s.heap.objs.size+1) k
      refine .inr ⟨.inl k,c,e,?_⟩
      have q:=x.cell y c e
      rw [aj0 ndP hp hu (by show scope.names.lookup y≠_; rw [k]; decide)] at q
      exact q
  · exact e0.hok.fresh (Nat.le_of_lt (x.above y c (PySem.mem_of_lookup h)))
  · unfold start
    show _=N.length
    rw [List.length_append,List.length_map,List.length_replicate]
    omega
theorem a3e {CX:CXT} {P:Program} {w:World} {K:PySem.W.Frag} {mg:Str→Option Value} {base:Heap} {k:Nat} {f:Addr} {name qual:Str} {params:Arguments} {body:List Stmt} {scope:Scope} {dV kV doc pm cdv ct oc:Value} {an od:Option Addr}
    {osl:Array (Option Value)} {N ps:List Str} {sp:Sp} (lk:K.lookup f=some ⟨oc,od,.func (PySem.W.fnOf name qual params body scope dV kV doc pm an cdv ct),osl⟩) (hcd:PySem.W.codeIn K cdv qual=true) (S:FnScope N ps scope)
    (len:∀ vs H Q E,sp vs H Q E→vs.length=ps.length)
    (hbody:∀ (A:Around) (outer:List Env) (s:Shared) (H:Hp) (vs:List V) (Q:VK) (E:XK),Room k (A.deeper (envOfC qual scope s.heap.objs.size f cdv))→sp vs H Q E →
      ∃ t,PSs (cxOf CX P w K mg base N qual scope f cdv A outer s H E) body t∧t { nx:=fun _ H'=>Q .non H',rt:=Q } (start N vs) H) :
    FnOk P w K mg base CX (k+1) f (PySem.W.fnOf name qual params body scope dV kV doc pm an cdv ct) ps sp:=by
  refine ⟨len,fun A outer s H args us vs Q E hr e0 hb r hsp => ?_⟩
  have hl:=len _ _ _ _ hsp
  have KX:K.In s.heap:=e0.mod.kin.keeps fun b o e=>(e0.bs b o e).1
  have lim:s.heap.NoLimit:=e0.mod.nolimit.keeps fun b o e=>(e0.bs b o e).1
  have hkind:∀ y∈ps.zip us,scope.names.lookup y.1=some .local∨(scope.names.lookup y.1=some .cell∧((cellsFrom (s.heap.objs.size+1) scope.names []).lookup y.1).isSome=true):=fun ⟨n,v⟩ hy=>by
    rcases S.par n (List.of_mem_zip hy).1 with q | q
    · exact .inl q
    · exact .inr ⟨q,PySem.W.cellsFrom_some _ _ _ (.inl q)⟩
  refine codeAny_call_function hr.depth (KX _ _ lk) rfl S.co S.gen rfl (PySem.W.codeRec_of KX hcd) (hb _ _ _ _ ?_)
  refine wpAny_newFunctionEnv_cells S.kind hkind fun env he s1 x => ?_
  subst he
  refine ⟨lim.keeps x.toInCall.keep,codeAny_func ?_⟩
  obtain ⟨t,ht,hq⟩:=hbody A outer s H vs Q E (hr.deeper _) hsp
  have I:Inv (cxOf CX P w K mg base N qual scope f cdv A outer s H E) [] (start N vs) H s1:=ao7 S hr.hd e0 hl r x
  refine wpAny_mono (ht [] s1 (start N vs) H _ I hq) (fun fl s' hs => ?_) fun e s' hs=>hs
  have fin:∀ {σ':St} {H':Hp} {v:V} {u:Value},Inv (cxOf CX P w K mg base N qual scope f cdv A outer s H E) [] σ' H' s'→RelV v u→Q v H'→CE outer P w H s Q u s' :=
    fun {σ' H' v u} J rv q=>⟨v,H',J.os,J.bare,J.base,J.hok,rv,q⟩
  cases fl with
  | ret u =>
    obtain ⟨v,σ',H',J,rv,q⟩:=hs
    exact fin J rv q
  | next =>
    obtain ⟨σ',H',J,q⟩:=hs
    exact fin (v:=V.non) (u:=Value.none) J rfl q
  | brk =>
    obtain ⟨_,_,_,q⟩:=hs
    exact False.elim q
  | cont =>
    obtain ⟨_,_,_,q⟩:=hs
    exact False.elim q
end L2
namespace L2
open PySem PySem.Spec PyProof.Rows
section
variable {X:Cx} {x:Str} {p pos:Pos} {e:Expr} {es:List Expr} {t:TA} {id T:String} {r:List V→Hp→VK→Prop}
noncomputable def tCB (r:List V→Hp→VK→Prop) (t:TA):TE:=fun σ H Q=>t σ H fun vs H1=>r vs H1 Q
theorem aho (hc:aam X (.builtin id) r) (hg:Gl X x) (hm:X.mg x=none) (hv:bootBuiltins x=some (.builtin id)) (ha:PA X (e::es) t) (hn:x ≠ "__name__" := by decide) (hdb:(x==("__debug__" : Str))=false:=by decide)
    (he:starEach (e::es) X.env=(false,eval e X.env)::starEach es X.env:=by rfl) (hpl:(backTo pos (starEach es X.env)).any (·.1)=false:=by rfl):PE X (.Call (.Name x p) (e::es) [] pos) (tCB r t):=by
  intro pins s σ H Q I h
  refine wpAny_Call_Name_kw (agu I hg hm hv ?_ hn hdb)
  exact PyProof.Rows.callWith_builtin1 (thn (ha pos pins s σ H _ I h) fun us s1 ⟨vs,H1,I1,r1,q1⟩=>hc pins s1 σ H1 vs us Q I1 r1 q1) he hpl
theorem acz (hc:aam X (.type T) r) (hg:Gl X x) (hm:X.mg x=none) (hv:bootBuiltins x=some (.type T)) (ha:PA X (e::es) t) (hn:x ≠ "__name__" := by decide) (hdb:(x==("__debug__" : Str))=false:=by decide)
    (he:starEach (e::es) X.env=(false,eval e X.env)::starEach es X.env:=by rfl) (hpl:(backTo pos (starEach es X.env)).any (·.1)=false:=by rfl):PE X (.Call (.Name x p) (e::es) [] pos) (tCB r t):=by
  intro pins s σ H Q I h
  refine wpAny_Call_Name_kw (agu I hg hm hv ?_ hn hdb)
  exact PyProof.Rows.callWith_type1 (thn (ha pos pins s σ H _ I h) fun us s1 ⟨vs,H1,I1,r1,q1⟩=>hc pins s1 σ H1 vs us Q I1 r1 q1) he hpl
end
end L2
namespace HT
open PySem PyProof.Rows
section
open PySem.SeqAt
open PySem.AutoSeq1 (wpAny_loadPart')
open PySem.MeetsSeq PySem.MeetsSeq2 PySem.MeetsSeq3
end
section
variable {prog:Program} {w:World} {A:Around} {E:Value→Shared→Prop} {s:Shared}
theorem av9 {t b:Addr} {vs ws:List Value} {Q:Value→Shared→Prop} (ht:IsTup s.heap t vs.toArray) (hb:IsTup s.heap b ws.toArray) (hv:vs≠[])
    (h1:ws=[]→Q (.ref t) s) (h2:ws≠[]→Q (.ref s.heap.objs.size) { s with heap:=s.heap.push { cls:=.type "tuple", data:=.seq (vs++ws).toArray } })
    (hsz:vs.length+ws.length≤sizeLine):wpAny (model prog w) A (binaryOp .Add (.ref t) (.ref b)) Q E s:=by
  obtain ⟨⟨cls,dd,data,sl⟩,ho,hc,n,hd⟩:=id ht
  obtain ⟨⟨cls2,dd2,data2,sl2⟩,ho2,hc2,n2,hd2⟩:=id hb
  simp only at hc hd hc2 hd2
  subst hc hd hc2 hd2
  have e:vs.toArray++ws.toArray=(vs++ws).toArray:=by simp
  by_cases hw:ws=[]
  · exact concat_meets ⟨_,ho,rfl⟩ ⟨_,ho2,rfl⟩ noFill_tuple_add seq_tuple_add PySem.F.slot_tuple_add PySem.F.entry_tuple_add (PySem.F.args_tuple_add_2 _ _)
      (tuple_addW1 t b vs.toArray ws.toArray n n2 dd dd2 sl sl2 (by simpa using hv) (by simp [hw])) ⟨ho,ho2,h1 hw⟩
  · refine concat_meets ⟨_,ho,rfl⟩ ⟨_,ho2,rfl⟩ noFill_tuple_add seq_tuple_add PySem.F.slot_tuple_add PySem.F.entry_tuple_add (PySem.F.args_tuple_add_2 _ _)
      (tuple_addW2 t b vs.toArray ws.toArray n n2 dd dd2 sl sl2 (by simpa using hv) (by simpa using hw) (by rw [List.size_toArray,List.size_toArray]; exact hsz)) ⟨ho,ho2,?_⟩
    rw [e]
    exact h2 hw
noncomputable def sIx (n d:Nat):Option Int→Nat
  | none=>d
  | some v=>if v < 0 then (v+(n:Int)).toNat else min v.toNat n
theorem aw0 (n d:Nat) (hd:d≤n) (o:Option Int):sIx n d o≤n:=by
  cases o with
  | none=>exact hd
  | some v =>
    show (if v < 0 then (v+(n:Int)).toNat else min v.toNat n)≤n
    by_cases hv:v < 0
    · rw [if_pos hv]; omega
    · rw [if_neg hv]; exact Nat.min_le_right _ _
theorem ap0 (v:Int) (n d:Nat):(if v < 0 then max (v+(n:Int)) 0 else min v (n:Int))=((sIx n d (some v):Nat):Int):=by
  show (if v < 0 then max (v+(n:Int)) 0 else min v (n:Int))=(((if v < 0 then (v+(n:Int)).toNat else min v.toNat n):Nat):Int)
  by_cases hv:v < 0
  · simp only [if_pos hv]; omega
  · simp only [if_neg hv]; omega
theorem ano (lo hi:Option Int) (n:Nat):Builtin.Slice.sliceAdjust lo hi 1 (n:Int)=(((sIx n 0 lo:Nat):Int),((sIx n n hi:Nat):Int)):=by
  have h1:¬((1:Int) < 0):=by omega
  unfold Builtin.Slice.sliceAdjust
  simp only [h1,if_false]
  refine Prod.ext ?_ ?_
  · cases lo with
    | none=>rfl
    | some v=>exact ap0 v n 0
  · cases hi with
    | none=>rfl
    | some v=>exact ap0 v n n
theorem am0 (i j:Nat):Builtin.Slice.slicePlaces (i:Int) (j:Int) 1=j - i:=by
  unfold Builtin.Slice.slicePlaces
  have h1:(1:Int) > 0:=by omega
  simp only [h1,if_true,Int.ediv_one]
  split <;> omega
theorem agl {v:Value} {o:Option Int} {Q:Option Int→Shared→Prop} (p:IsPart v o) (h:Q o s):wpAny (model prog w) A (Builtin.Slice.slicePartIndex v) Q E s:=by
  cases p with
  | none=>exact slicePart_none h
  | int i t=>exact slicePart_int h
theorem aa2 {sl:Addr} {vl vu:Value} {lo hi:Option Int} {n:Nat} {Q:Int×Int×Nat→Shared→Prop} (hs:s.heap.IsSliceOf sl vl vu .none) (pl:IsPart vl lo) (pu:IsPart vu hi)
    (h:Q (((sIx n 0 lo:Nat):Int),1,sIx n n hi - sIx n 0 lo) s):wpAny (model prog w) A (Builtin.Slice.sliceApplied (.ref sl) (pure (n:Int))) Q E s:=by
  obtain ⟨os,hos,hcs,hds⟩:=id hs
  unfold Builtin.Slice.sliceApplied Builtin.Slice.sliceFields
  refine wpAny_bind (wpAny_bind (wpAny_field hos hds (x:=vl) rfl (wpAny_bind (wpAny_field hos hds (x:=vu) rfl (wpAny_bind (wpAny_field hos hds (x:=.none) rfl (wpAny_pure ?_)))))))
  refine wpAny_bind (slicePart_none ?_)
  show wpAny _ _ (if ((1:Int)==0)=true then _ else _) _ _ s
  rw [if_neg (by decide)]
  refine wpAny_bind (agl pl (wpAny_bind (agl pu (wpAny_bind (wpAny_pure ?_)))))
  show wpAny _ _ (match Builtin.Slice.sliceAdjust lo hi 1 (n:Int) with | (lo,hi)=>pure (lo,(1:Int),Builtin.Slice.slicePlaces lo hi 1)) _ _ s
  rw [ano lo hi n]
  show wpAny _ _ (pure (((sIx n 0 lo:Nat):Int),(1:Int),Builtin.Slice.slicePlaces ((sIx n 0 lo:Nat):Int) ((sIx n n hi:Nat):Int) 1)) _ _ s
  rw [am0]
  exact wpAny_pure h
theorem aq9 (xs:Array Value) (i k:Nat):((List.range k).filterMap fun (m:Nat)=>xs[((i:Int)+(m:Int)*1).toNat]?).toArray=((xs.toList.drop i).take k).toArray:=by
  have e:(fun (m:Nat)=>xs[((i:Int)+(m:Int)*1).toNat]?)=fun m=>xs[i+m]? := by
    funext m
    have:((i:Int)+(m:Int)*1).toNat=i+m:=by omega
    rw [this]
  rw [e]
  have:=pick_run xs i k
  rw [List.filterMap_map] at this
  have e2:((fun x=>xs[x]?)∘fun x=>i+x)=fun m=>xs[i+m]? := rfl
  rw [e2] at this
  rw [this]
theorem ad0 {t sl:Addr} {items:Array Value} {vl vu:Value} {lo hi:Option Int} {Q:Value→Shared→Prop} (ht:IsTup s.heap t items) (hs:s.heap.IsSliceOf sl vl vu .none) (pl:IsPart vl lo) (pu:IsPart vu hi)
    (hw:¬(sIx items.size 0 lo=0∧sIx items.size items.size hi=items.size))
    (h:Q (.ref s.heap.objs.size) { s with heap:=s.heap.push { cls:=.type "tuple", data:=.seq ((items.toList.drop (sIx items.size 0 lo)).take (sIx items.size items.size hi - sIx items.size 0 lo)).toArray } })
    (hsz:items.size≤sizeLine):wpAny (model prog w) A (getItem (.ref t) (.ref sl)) Q E s:=by
  have htake:sizeOk (.seq ((items.toList.drop (sIx items.size 0 lo)).take (sIx items.size items.size hi - sIx items.size 0 lo)).toArray):=by
    show ((items.toList.drop (sIx items.size 0 lo)).take (sIx items.size items.size hi - sIx items.size 0 lo)).toArray.size≤sizeLine
    rw [List.size_toArray,List.length_take,List.length_drop,Array.length_toList]
    omega
  have hj:sIx items.size items.size hi≤items.size:=aw0 _ _ (Nat.le_refl _) hi
  obtain ⟨os,hos,hcs,hds⟩:=id hs
  have hTs:s.TypeIs (.ref sl) "slice" := ⟨os,hos,hcs⟩
  unfold getItem
  try with_reducible refine wpAny_holding ?_
  first | refine wpAny_bind (wpAny_pure ?_) | skip
  refine wpAny_bind (wpAny_sequenceKey ht.typeIs (by decide) ?_)
  refine wpAny_bind (wpAny_callSpecial?_slot (name:=Str.ofString "__getitem__") ht.typeIs PyProof.Rows.slot_tuple_getitem
    (wpAny_call_entry PyProof.Rows.slot_tuple_getitem ht.typeIs entry_tuple_getitem ?_ (args_tuple_getitem _ _)))
  show wpAny _ _ (Builtin.Tuple.tupleItemsOf (.ref t) >>= _) _ _ s
  refine wpAny_bind (tupleItemsOf_ ht ?_)
  refine wpAny_bind (wpAny_typeOf hTs ?_)
  rw [if_pos (by decide)]
  refine wpAny_bind (aa2 hs pl pu ?_)
  have hno:¬((((sIx items.size 0 lo:Nat):Int)==0&&(1:Int)==1&&(sIx items.size items.size hi - sIx items.size 0 lo)==items.size)=true):=by
    intro q
    rw [Bool.and_eq_true,Bool.and_eq_true] at q
    have q1:((sIx items.size 0 lo:Nat):Int)=0:=eq_of_beq q.1.1
    have q2:sIx items.size items.size hi - sIx items.size 0 lo=items.size:=eq_of_beq q.2
    exact hw ⟨by omega,by omega⟩
  show wpAny _ _ (if (((sIx items.size 0 lo:Nat):Int)==0&&(1:Int)==1&&(sIx items.size items.size hi - sIx items.size 0 lo)==items.size)=true then _ else _) _ _ s
  rw [if_neg hno,aq9]
  first
    | exact wpAny_bind (m:=Builtin.Tuple.tupleExact _) (wpAny_newObj_type (wpAny_pure ⟨_,rfl,wpAny_pure h⟩) htake)
    | exact wpAny_bind (m:=Builtin.Tuple.tupleExact _) (wpAny_newObj_type (wpAny_bind (wpAny_pure (wpAny_pure ⟨_,rfl,wpAny_pure h⟩))) htake)
    | exact wpAny_bind (wpAny_bind (m:=Builtin.Tuple.tupleExact _) (wpAny_newObj_type (wpAny_pure (wpAny_pure ⟨_,rfl,wpAny_pure h⟩)) htake))
    | exact wpAny_bind (wpAny_bind (m:=Builtin.Tuple.tupleExact _) (wpAny_newObj_type (wpAny_pure ⟨_,rfl,wpAny_pure h⟩) htake))
end
end HT
namespace L2
open PySem PySem.Spec PyProof.Rows
noncomputable abbrev TO:=St→Hp→(Option Int→Hp→Prop)→Prop
noncomputable def PO (X:Cx) (e:Option Expr) (t:TO):Prop :=
  ∀ (pins:List (Addr×Obj)) (s:Shared) (σ:St) (H:Hp) (Q:Option Int→Hp→Prop),Inv X pins σ H s→t σ H Q →
    wpAny (model X.prog X.w) X.A (evalPart e X.env) (fun u s'=>∃ o H',Inv X pins σ H' s'∧IsPart u o∧Q o H') X.xe s
noncomputable def aty:TO:=fun _ H Q=>Q none H
noncomputable def a02 (t:TE):TO:=fun σ H Q=>t σ H fun x H1=>∃ i,x=.int i∧Q (some i) H1
theorem intsAre_of {ns:List Int}:∀ {us:List Value},Vals (ns.map V.int) us→IntsAre us ns:=by
  induction ns with
  | nil=>intro us r; rw [List.map_nil] at r; cases r; exact .nil
  | cons n ns ih =>
    intro us r
    rw [List.map_cons] at r
    cases r with
    | cons r1 r2 =>
      obtain ⟨t,e⟩:=r1
      subst e
      exact .cons n t (ih r2)
section
variable {X:Cx} {e:Expr} {te:TE} {lo hi:Option Expr} {tl th:TO} {pos p2:Pos}
theorem aud:PO X none aty:=by
  intro pins s σ H Q I h
  rw [evalPart_none]
  exact wpAny_pure ⟨none,H,I,.none,h⟩
theorem auc (h:PE X e te):PO X (some e) (a02 te):=by
  intro pins s σ H Q I hw
  rw [evalPart_some]
  refine thn (h pins s σ H _ I hw) fun u s1 ⟨x,H1,I1,r1,q1⟩ => ?_
  obtain ⟨i,rfl,q⟩:=q1
  obtain ⟨t,rfl⟩:=r1
  exact ⟨some i,H1,I1,.int i t,q⟩
noncomputable def SlR (X:Cx) (r:V→Option Int→Option Int→Hp→VK→Prop):Prop :=
  ∀ (pins:List (Addr×Obj)) (s:Shared) (σ:St) (H:Hp) (x:V) (v vl vu:Value) (lo hi:Option Int) (sl:Addr) (Q:VK),Inv X pins σ H s→RelV x v→s.heap.IsSliceOf sl vl vu .none→IsPart vl lo→IsPart vu hi→r x lo hi H Q →
    ∃ T id,typeLookup (.type T) "__getitem__" = pure (some (.builtin id))∧s.TypeIs v T∧wpAny (model X.prog X.w) X.A (getItem v (.ref sl)) (EP X pins σ Q) X.xe s
theorem SlR.or {r r':V→Option Int→Option Int→Hp→VK→Prop} (h:SlR X r) (h':SlR X r'):SlR X (fun x lo hi H Q=>r x lo hi H Q∨r' x lo hi H Q):=by
  intro pins s σ H x v vl vu lo hi sl Q I rx hs pl pu q
  rcases q with q | q
  · exact h pins s σ H x v vl vu lo hi sl Q I rx hs pl pu q
  · exact h' pins s σ H x v vl vu lo hi sl Q I rx hs pl pu q
noncomputable def tSl (r:V→Option Int→Option Int→Hp→VK→Prop) (te:TE) (tl th:TO):TE:=fun σ H Q=>te σ H fun x H1=>tl σ H1 fun l H2=>th σ H2 fun u H3=>r x l u H3 Q
theorem alu {r:V→Option Int→Option Int→Hp→VK→Prop} (hr:SlR X r) (he:PE X e te) (hl:PO X lo tl) (hu:PO X hi th):PE X (.Subscript e (.Slice lo hi none p2) pos) (tSl r te tl th):=by
  intro pins s σ H Q I h
  refine Subscript_ (thn (he pins s σ H _ I h) fun v s1 ⟨x,H1,I1,r1,q1⟩ => ?_)
  refine wpAny_Slice (thn (hl pins s1 σ H1 _ I1 q1) fun vl s2 ⟨l,H2,I2,pl,q2⟩=>thn (hu pins s2 σ H2 _ I2 q2) fun vu s3 ⟨u,H3,I3,pu,q3⟩ => ?_)
  rw [evalPart_none]
  refine wpAny_pure ?_
  have I4:Inv X pins σ H3 { s3 with heap:=s3.heap.push { cls:=.type "slice", data:=.fields #[vl,vu,.none] } }:=I3.kept (t':=s3.toks) fun b ob q=>Heap.get?_push_of_some _ q
  obtain ⟨T,id,hT,ht,hg⟩:=hr pins { s3 with heap:=s3.heap.push { cls:=.type "slice", data:=.fields #[vl,vu,.none] } } σ H3 x v vl vu l u s3.heap.objs.size Q I4 r1 (Heap.IsSliceOf.new ..) pl pu q3
  show wpAny (model X.prog X.w) X.A (subscriptTail e (.Slice lo hi none p2) v (.ref s3.heap.objs.size)) (EP X pins σ Q) X.xe { s3 with heap:=s3.heap.push { cls:=.type "slice", data:=.fields #[vl,vu,.none] } }
  exact tail_any (ops:=[.ref s3.heap.objs.size,v]) ht hT hg (by with_unfolding_all rfl)
noncomputable def cutV (xs:List V) (lo hi:Option Int):List V:=(xs.drop (HT.sIx xs.length 0 lo)).take (HT.sIx xs.length xs.length hi - HT.sIx xs.length 0 lo)
theorem af6 (xs:List V) (lo hi:Option Int):(cutV xs lo hi).length≤xs.length:=by
  unfold cutV
  rw [List.length_take,List.length_drop]
  omega
noncomputable def rSlT (K:PySem.W.Frag):V→Option Int→Option Int→Hp→VK→Prop:=fun x lo hi H Q=>∃ a xs,x=.ref a∧SqT K H a xs ∧
  ¬(HT.sIx xs.length 0 lo=0∧HT.sIx xs.length xs.length hi=xs.length)∧∀ p,H p=none→Q (.ref p) (upd H p (.tup (cutV xs lo hi)))
theorem awy:SlR X (rSlT X.K):=by
  intro pins s σ H x v vl vu lo hi sl Q I rx hs pl pu h
  obtain ⟨a,xs,rfl,hx,hw,q⟩:=h
  cases rx
  obtain ⟨its,r,ht,hz⟩:=I.tuple hx
  have hlen:its.toArray.size=xs.length:=by rw [List.size_toArray]; exact r.length.symm
  refine ⟨"tuple", _,PyProof.Rows.slot_tuple_getitem.lookup,ht.typeIs,?_⟩
  refine HT.ad0 ht hs pl pu (by rw [hlen]; exact hw) ?_ (by rw [hlen]; exact hz)
  rw [hlen]
  refine ⟨.ref s.heap.objs.size,_,I.laid (t':=s.toks) (o:=.tup (cutV xs lo hi)) (fun b ob q=>Heap.get?_push_of_some _ q) (Nat.le_refl _) ?_,rfl,q _ (I.hok.fresh (Nat.le_refl _))⟩
  exact ⟨Nat.le_trans (af6 xs lo hi) hz,_,(r.drop (HT.sIx xs.length 0 lo)).take (HT.sIx xs.length xs.length hi - HT.sIx xs.length 0 lo),IsTp.new _ _⟩
noncomputable def a1c (K:PySem.W.Frag):R2:=fun x y H Q=>∃ a b xs ys,x=.ref a∧y=.ref b∧SqT K H a xs∧SqT K H b ys∧xs≠[]∧xs.length+ys.length≤sizeLine ∧
  (ys=[]→Q (.ref a) H)∧(ys≠[]→∀ p,H p=none→Q (.ref p) (upd H p (.tup (xs++ys))))
theorem Vals.nil_iff {xs:List V} {us:List Value} (r:Vals xs us):us=[]↔xs=[]:=by
  cases r with
  | nil=>simp
  | cons _ _=>simp
theorem auv:OpR X (binaryOp .Add) (a1c X.K):=by
  intro pins s σ H x y v u Q I rx ry h
  obtain ⟨a,b,xs,ys,rfl,rfl,ha,hb,hx,hz,q1,q2⟩:=h
  cases rx
  cases ry
  obtain ⟨its,r1,p1,_⟩:=I.tuple ha
  obtain ⟨its2,r2,p2,_⟩:=I.tuple hb
  refine HT.av9 p1 p2 (fun z=>hx (r1.nil_iff.mp z)) (fun z=>⟨.ref a,H,I,rfl,q1 (r2.nil_iff.mp z)⟩) (fun z => ?_) (by rw [←r1.length,←r2.length]; exact hz)
  refine ⟨.ref s.heap.objs.size,_,I.laid (t':=s.toks) (o:=.tup (xs++ys)) (fun b ob q=>Heap.get?_push_of_some _ q) (Nat.le_refl _) ?_,rfl,q2 (fun w=>z (r2.nil_iff.mpr w)) _ (I.hok.fresh (Nat.le_refl _))⟩
  exact ⟨by rw [List.length_append]; exact hz,_,r1.append r2,IsTp.new _ _⟩
end
end L2
namespace L2
open PySem PySem.Spec PyProof.Rows
noncomputable def ixN (n:Nat) (i:Int):Option Nat:=if 0≤i then (if i < n then some i.toNat else none) else if -(n:Int)≤i then some (i+n).toNat else none
noncomputable def atI {α:Type} (xs:List α) (i:Int):Option α:=(ixN xs.length i).bind fun j=>xs[j]?
theorem ao2 {n:Nat} {i:Int} {j:Nat} (h:ixN n i=some j):seqIndex? i n=some j∧j < n ∧ -(n:Int)≤i∧i < n:=by
  unfold ixN at h
  by_cases h0:0≤i
  · rw [if_pos h0] at h
    by_cases h1:i < n
    · rw [if_pos h1] at h
      have e:i.toNat=j:=Option.some.inj h
      exact ⟨by rw [seqIndex_of h0 h1,e],by omega,by omega,h1⟩
    · rw [if_neg h1] at h; cases h
  · rw [if_neg h0] at h
    by_cases h1 : -(n:Int)≤i
    · rw [if_pos h1] at h
      have e:(i+n).toNat=j:=Option.some.inj h
      exact ⟨by rw [seqIndex_neg (by omega) h1,e],by omega,h1,by omega⟩
    · rw [if_neg h1] at h; cases h
theorem alc {α:Type} {xs:List α} {i:Int} {v:α} (h:atI xs i=some v):∃ j,seqIndex? i xs.length=some j∧xs[j]? = some v∧j < xs.length ∧ -(xs.length:Int)≤i∧i < xs.length:=by
  unfold atI at h
  cases e:ixN xs.length i with
  | none=>rw [e] at h; cases h
  | some j =>
    rw [e] at h
    obtain ⟨h1,h2,h3,h4⟩:=ao2 e
    exact ⟨j,h1,h,h2,h3,h4⟩
theorem aic {α:Type} {xs:List α} {j:Nat} {v:α} (h:xs[j]? = some v):atI xs (j:Int)=some v:=by
  have hj:j < xs.length:=(List.getElem?_eq_some_iff.mp h).1
  have e:ixN xs.length (j:Int)=some j:=by
    unfold ixN
    rw [if_pos (by omega),if_pos (by omega)]; simp
  unfold atI; rw [e]; exact h
noncomputable def aqk (b:Expr):Prop:=∀ o i,subscripted b false o i=operate [o,i] (getItem o i)
noncomputable def IxR (X:Cx) (r:R2):Prop :=
  ∀ (value slice:Expr) (pins:List (Addr×Obj)) (s:Shared) (σ:St) (H:Hp) (x y:V) (v u:Value) (Q:VK),Inv X pins σ H s→RelV x v→RelV y u→r x y H Q →
    subscripted slice false v u=operate [v,u] (getItem v u)→wpAny (model X.prog X.w) X.A (subscriptTail value slice v u) (EP X pins σ Q) X.xe s
noncomputable def MtR (X:Cx) (id:String) (r:V→List V→Hp→VK→Prop):Prop :=
  ∀ (pins:List (Addr×Obj)) (s:Shared) (σ:St) (H:Hp) (x:V) (xs:List V) (v:Value) (us:List Value) (Q:VK),Inv X pins σ H s→RelV x v→Vals xs us→r x xs H Q →
    wpAny (model X.prog X.w) X.A (call (.builtin id) (v::us)) (EP X pins σ Q) X.xe s
section
variable {X:Cx} {a b:Expr} {ta tb:TE} {pos:Pos}
theorem IxR.or {r r':R2} (h:IxR X r) (h':IxR X r'):IxR X (fun x y H Q=>r x y H Q∨r' x y H Q):=by
  intro value slice pins s σ H x y v u Q I rx ry q hs
  rcases q with q | q
  · exact h value slice pins s σ H x y v u Q I rx ry q hs
  · exact h' value slice pins s σ H x y v u Q I rx ry q hs
theorem MtR.or {id:String} {r r':V→List V→Hp→VK→Prop} (h:MtR X id r) (h':MtR X id r'):MtR X id (fun x xs H Q=>r x xs H Q∨r' x xs H Q):=by
  intro pins s σ H x xs v us Q I rx rs q
  rcases q with q | q
  · exact h pins s σ H x xs v us Q I rx rs q
  · exact h' pins s σ H x xs v us Q I rx rs q
theorem a1k {r:R2} (hr:IxR X r) (ha:PE X a ta) (hb:PE X b tb) (hs:aqk b):PE X (.Subscript a b pos) (tOp r ta tb):=by
  intro pins s σ H Q I h
  exact Subscript_ (binT ha hb I h fun v u s2 x y H2 I2 rx ry q=>hr a b pins s2 σ H2 x y v u Q I2 rx ry q (hs _ _))
noncomputable def rIxL (K:PySem.W.Frag):R2:=fun x y H Q=>∃ p xs i v,x=.ref p∧y=.int i∧SqL K H p xs∧atI xs i=some v∧Q v H
noncomputable def rIxT (K:PySem.W.Frag):R2:=fun x y H Q=>∃ p xs i v,x=.ref p∧y=.int i∧SqT K H p xs∧atI xs i=some v∧Q v H
theorem avb:IxR X (rIxL X.K):=by
  intro value slice pins s σ H x y v u Q I rx ry h hs
  obtain ⟨p,xs,i,z,rfl,rfl,hq,he,q⟩:=h
  cases rx
  obtain ⟨t,rfl⟩:=ry
  obtain ⟨its,r,pl,hz⟩:=I.list hq
  obtain ⟨j,h1,h2,h3,h4,h5⟩:=alc he
  obtain ⟨w,ew,rw'⟩:=r.get h2
  have hl:=r.length
  have hn:=ai7
  have fin:EP X pins σ Q w s:=⟨z,H,I,rw',q⟩
  by_cases h0:0≤i
  · have hj:i.toNat=j:=by
      rw [seqIndex_of h0 h5] at h1
      exact Option.some.inj h1
    exact item_listR pl.isList h0 (by omega) (by rw [hj]; simpa using ew) fin hs
  · have hj:(i+(its.toArray.size:Int)).toNat=j:=by
      rw [seqIndex_neg (by omega) h4] at h1
      rw [List.size_toArray,←hl]
      exact Option.some.inj h1
    exact subscriptTail_builtinR (x:=w) pl.isList.typeIs slot_list_getitem.lookup
      (wpAny_getItem_list_neg (Q:=fun r s'=>r=w∧EP X pins σ Q r s') pl.isList (by omega) (by rw [List.size_toArray] <;> omega) (by omega) (by rw [hj]; simpa using ew) ⟨rfl,fin⟩) hs
theorem aym:IxR X (rIxT X.K):=by
  intro value slice pins s σ H x y v u Q I rx ry h hs
  obtain ⟨p,xs,i,z,rfl,rfl,hq,he,q⟩:=h
  cases rx
  obtain ⟨t,rfl⟩:=ry
  obtain ⟨its,r,pl,hz⟩:=I.tuple hq
  obtain ⟨j,h1,h2,h3,h4,h5⟩:=alc he
  obtain ⟨w,ew,rw'⟩:=r.get h2
  have hl:=r.length
  have hn:=ai7
  have fin:EP X pins σ Q w s:=⟨z,H,I,rw',q⟩
  exact subscriptTail_builtinR (x:=w) pl.typeIs slot_tuple_getitem.lookup
    (getItem_tuple (j:=j) (Q:=fun r s'=>r=w∧EP X pins σ Q r s') pl (by omega) (by omega) (by rw [List.size_toArray,←hl]; exact h1) (by simpa using ew) ⟨rfl,fin⟩) hs
theorem am5 (its:List Value) (n j:Nat) (u:Value):Obj.mapSeq (·.setIfInBounds j u) { cls:=.type "list", data:=.seq its.toArray n }={ cls:=.type "list", data:=.seq (its.set j u).toArray n }:=by
  simp [Obj.mapSeq]
theorem Inv.lst {pins:List (Addr×Obj)} {σ:St} {H:Hp} {s:Shared} {p:Addr} {xs:List V} (I:Inv X pins σ H s) (h:H p=some (.lst xs)) :
    ∃ (its:List Value) (n:Nat),Vals xs its∧s.heap.get? p=some { cls:=.type "list", data:=.seq its.toArray n }∧xs.length≤sizeLine:=by
  obtain ⟨z,its,n,r,e⟩:=I.hok p _ h
  exact ⟨its,n,r,e,z⟩
theorem Inv.lstUpd {pins:List (Addr×Obj)} {σ:St} {H:Hp} {s:Shared} {p:Addr} {xs ys:List V} {its its':List Value} {n n':Nat} {f:Obj→Obj} (I:Inv X pins σ H s) (h:H p=some (.lst xs))
    (ho:s.heap.get? p=some { cls:=.type "list", data:=.seq its.toArray n }) (hf:f { cls:=.type "list", data:=.seq its.toArray n }={ cls:=.type "list", data:=.seq its'.toArray n' }) (r:Vals ys its') (hz:ys.length≤sizeLine) (t:Nat) :
    Inv X pins σ (upd H p (.lst ys)) { s with heap:=s.heap.update p f,toks:=t }:=by
  have e:(s.heap.update p f).get? p=some { cls:=.type "list", data:=.seq its'.toArray n' }:=by
    rw [Heap.get?_update_self f ho (by rw [hf] <;> rfl),hf]
  refine I.write (x:=p) (e:=p) (by rw [h]; trivial) (.inl rfl) (fun b u hb q=>(Heap.get?_update_other _ _ (Ne.symm hb)).trans q) ⟨_,e⟩ ?_
  exact ⟨hz,its',n',r,e⟩
noncomputable def a1b:V→V→V→Hp→(Hp→Prop)→Prop:=fun o i v H Q=>∃ p xs k j,o=.ref p∧i=.int k∧H p=some (.lst xs)∧ixN xs.length k=some j∧Q (upd H p (.lst (xs.set j v)))
theorem set_list:PSet X a1b:=by
  intro pins s σ H o i v ov iv u Q I ro ri rv h
  obtain ⟨p,xs,k,j,rfl,rfl,hp,hj,q⟩:=h
  cases ro
  obtain ⟨t,rfl⟩:=ri
  obtain ⟨its,n,r,ho,hz⟩:=I.lst hp
  obtain ⟨h1,h2,h3,h4⟩:=ao2 hj
  have hl:=r.length
  have hn:=ai7
  have I':Inv X pins σ (upd H p (.lst (xs.set j v))) { s with heap:=s.heap.update p (Obj.mapSeq (·.setIfInBounds j u)) } :=
    I.lstUpd hp ho (am5 its n j u) (r.set rv j) (by rw [List.length_set]; exact hz) s.toks
  by_cases h0:0≤k
  · have hk:k.toNat=j:=by
      rw [seqIndex_of h0 h4] at h1
      exact Option.some.inj h1
    exact PySem.W.ki_setAt ho h0 (by omega) (by rw [List.size_toArray,←hl]; exact h4) (by rw [hk]; exact ⟨_,I',q⟩)
  · have hk:(k+(its.toArray.size:Int)).toNat=j:=by
      rw [seqIndex_neg (by omega) h3] at h1
      rw [List.size_toArray,←hl]
      exact Option.some.inj h1
    exact PySem.W.ki_setBack ho (by omega) (by rw [List.size_toArray,←hl]; exact h3) (by omega) (by rw [hk]; exact ⟨_,I',q⟩)
theorem aij (lo hi:Option Int) (n:Nat):(sliceBounds lo hi none n).1=((HT.sIx n 0 lo:Nat):Int)∧(sliceBounds lo hi none n).2.1=((HT.sIx n n hi:Nat):Int)∧(sliceBounds lo hi none n).2.2=1:=by
  refine ⟨?_,?_,rfl⟩
  · cases lo with
    | none=>simp [sliceBounds,HT.sIx]
    | some i =>
      simp only [sliceBounds,HT.sIx,Option.getD_none,show (1:Int) > 0 by decide,if_true]
      by_cases h:i < 0
      · simp only [h,if_true] <;> omega
      · simp only [h,if_false] <;> omega
  · cases hi with
    | none=>simp [sliceBounds,HT.sIx]
    | some i =>
      simp only [sliceBounds,HT.sIx,Option.getD_none,show (1:Int) > 0 by decide,if_true]
      by_cases h:i < 0
      · simp only [h,if_true] <;> omega
      · simp only [h,if_false] <;> omega
theorem ahc (its:List Value) (lo hi:Option Int):slicePick its.toArray lo hi none=((its.drop (HT.sIx its.length 0 lo)).take (HT.sIx its.length its.length hi - HT.sIx its.length 0 lo)).toArray:=by
  obtain ⟨h1,h2,h3⟩:=aij lo hi its.toArray.size
  unfold slicePick
  rw [h1,h2,h3]
  simp only [sliceRange_one,pick_run,List.size_toArray] <;> rfl
noncomputable def rSlL (K:PySem.W.Frag):V→Option Int→Option Int→Hp→VK→Prop:=fun x lo hi H Q=>∃ a xs,x=.ref a∧SqL K H a xs∧∀ p,H p=none→Q (.ref p) (upd H p (.lst (cutV xs lo hi)))
theorem an9:SlR X (rSlL X.K):=by
  intro pins s σ H x v vl vu lo hi sl Q I rx hs pl pu h
  obtain ⟨a,xs,rfl,hx,q⟩:=h
  cases rx
  obtain ⟨its,r,ht,hz⟩:=I.list hx
  have hlen:=r.length
  refine ⟨"list", _,slot_list_getitem.lookup,ht.isList.typeIs,?_⟩
  refine wpAny_getItem_list_slice ht.isList hs pl pu .none (by simp) ?_ (by rw [List.size_toArray] <;> omega)
  rw [ahc,←hlen]
  refine ⟨.ref s.heap.objs.size,_,I.laid (t':=s.toks) (o:=.lst (cutV xs lo hi)) (fun b ob q=>Heap.get?_push_of_some _ q) (Nat.le_refl _) ?_,rfl,q _ (I.hok.fresh (Nat.le_refl _))⟩
  exact ⟨Nat.le_trans (af6 xs lo hi) hz,_,0,(r.drop (HT.sIx xs.length 0 lo)).take (HT.sIx xs.length xs.length hi - HT.sIx xs.length 0 lo),Heap.get?_push_size _ rfl⟩
theorem ajr:aam X (.builtin "len") (fun xs H Q=>∃ p ys,xs=[.ref p]∧(SqL X.K H p ys∨SqT X.K H p ys)∧Q (.int ys.length) H):=by
  intro pins s σ H xs us Q I r h
  obtain ⟨p,ys,rfl,hq,q⟩:=h
  obtain ⟨u,rfl,rx⟩:=vals1 r
  cases rx
  have hn:=ai7
  rcases hq with hq | hq
  · obtain ⟨its,r',pl,hz⟩:=I.list hq
    have hlen:=r'.length
    exact Calls.call_len_list pl.isList (by simp only [List.size_toArray] <;> omega) ⟨.int ys.length,H,I.tok _,⟨s.toks+1,by rw [List.size_toArray,hlen]⟩,q⟩
  · obtain ⟨its,r',pl,hz⟩:=I.tuple hq
    have hlen:=r'.length
    exact len_tuple pl (by simp only [List.size_toArray] <;> omega) ⟨.int ys.length,H,I.tok _,⟨s.toks+1,by rw [List.size_toArray,hlen]⟩,q⟩
theorem aam.or {f:Value} {r r':List V→Hp→VK→Prop} (h:aam X f r) (h':aam X f r'):aam X f (fun xs H Q=>r xs H Q∨r' xs H Q):=by
  intro pins s σ H xs us Q I rs q
  rcases q with q | q
  · exact h pins s σ H xs us Q I rs q
  · exact h' pins s σ H xs us Q I rs q
theorem ajq:aam X (.type "list") (fun xs H Q=>∃ p ys,xs=[.ref p]∧(SqL X.K H p ys∨SqT X.K H p ys)∧∀ l,H l=none→Q (.ref l) (upd H l (.lst ys))):=by
  intro pins s σ H xs us Q I r h
  obtain ⟨p,ys,rfl,hq,q⟩:=h
  obtain ⟨u,rfl,rx⟩:=vals1 r
  cases rx
  have fin:∀ (its:List Value),Vals ys its→ys.length≤sizeLine→∀ (h':Heap) (c':Nat),(∀ b o',s.heap.get? b=some o'→h'.get? b=some o') →
      h'.get? s.heap.objs.size=some { cls:=.type "list", dict:=none,data:=.seq its.toArray c',slots := #[] }→EP X pins σ Q (.ref s.heap.objs.size) { s with heap:=h' }:=fun its r' hz h' c' kp e =>
    ⟨.ref s.heap.objs.size,_,I.laid (t':=s.toks) kp (Nat.le_refl _) (show za X.prog X.w _ h' _ (.lst ys) from ⟨hz,its,c',r',e⟩),rfl,q _ (I.hok.fresh (Nat.le_refl _))⟩
  rcases hq with hq | hq
  · obtain ⟨its,r',pl,hz⟩:=I.list hq
    have hlen:=r'.length
    obtain ⟨o,ho,hc,n,hd⟩:=pl.isList
    exact call_list_seq p (.inl rfl) ho hc hd (fun h' c' kp e=>fin its r' hz h' c' kp e) (by simp only [List.size_toArray] <;> omega)
  · obtain ⟨its,r',pl,hz⟩:=I.tuple hq
    have hlen:=r'.length
    obtain ⟨o,ho,hc,n,hd⟩:=pl
    exact call_list_seq p (.inr rfl) ho hc hd (fun h' c' kp e=>fin its r' hz h' c' kp e) (by simp only [List.size_toArray] <;> omega)
theorem aa0:aam X (.type "tuple") (fun xs H Q=>∃ p ys,xs=[.ref p]∧((SqL X.K H p ys∧∀ l,H l=none→Q (.ref l) (upd H l (.tup ys)))∨(SqT X.K H p ys∧Q (.ref p) H))):=by
  intro pins s σ H xs us Q I r h
  obtain ⟨p,ys,rfl,h⟩:=h
  obtain ⟨u,rfl,rx⟩:=vals1 r
  cases rx
  rcases h with ⟨hq,q⟩ | ⟨hq,q⟩
  · obtain ⟨its,r',pl,hz⟩:=I.list hq
    have hlen:=r'.length
    refine call_tuple_list pl.isList (fun h' kp => ?_) (by simp only [List.size_toArray] <;> omega)
    have I1:Inv X pins σ H { s with heap:=h' }:=I.kept (t':=s.toks) kp
    have I2:Inv X pins σ (upd H h'.objs.size (.tup ys)) { s with heap:=h'.push { cls:=.type "tuple", data:=.seq its.toArray } } :=
      I1.laid (t':=s.toks) (fun b o e=>Heap.get?_push_of_some _ e) (Nat.le_refl _) (show za X.prog X.w _ _ _ (.tup ys) from ⟨hz,its,r',IsTp.new _ _⟩)
    exact ⟨.ref h'.objs.size,_,I2,rfl,q _ (I1.hok.fresh (Nat.le_refl _))⟩
  · obtain ⟨its,r',pl,hz⟩:=I.tuple hq
    exact call_tuple_same pl ⟨.ref p,H,I,rfl,q⟩
noncomputable def tyV (K:PySem.W.Frag) (T:String) (x:V) (H:Hp):Prop:=match x with
  | .str _=>T = "str"
  | .int _=>T = "int"
  | .ref p=>(T = "list" ∧ ∃ xs,SqL K H p xs)∨(T = "tuple" ∧ ((∃ o,K.lookup p=some o∧o.cls=.type "tuple" ∧ o.dict=none)∨∃ xs,H p=some (.tup xs))) ∨
      (T = "dict" ∧ ((∃ kvs,H p=some (.dK kvs))∨∃ kvs,H p=some (.dT kvs)))∨(T = "set" ∧ ∃ S n,H p=some (.set S n))
  | _=>False
theorem as3 {pins:List (Addr×Obj)} {σ:St} {H:Hp} {s:Shared} {T:String} {x:V} {v:Value} (I:Inv X pins σ H s) (r:RelV x v) (ty:tyV X.K T x H) :
    s.TypeIs v T∧∀ a,v=.ref a→∃ ob,s.heap.get? a=some ob∧ob.dict=none:=by
  cases x with
  | str z =>
    obtain ⟨t,rfl⟩:=r
    cases (show T = "str" from ty)
    exact ⟨typeIs_str s z t,fun _ e=>nomatch e⟩
  | int i =>
    obtain ⟨t,rfl⟩:=r
    cases (show T = "int" from ty)
    exact ⟨typeIs_int s i t,fun _ e=>nomatch e⟩
  | ref p =>
    cases r
    rcases ty with ⟨rfl,xs,hq⟩ | ⟨rfl,⟨o,hk,hc,hd⟩ | ⟨xs,hk⟩⟩ | ⟨rfl,hk⟩ | ⟨rfl,S,n,hk⟩
    · obtain ⟨its,_,pl,_⟩:=I.list hq
      refine ⟨pl.isList.typeIs,fun a e => ?_⟩
      cases e
      obtain ⟨o,n,e,c,hd,_⟩:=pl
      exact ⟨o,e,hd⟩
    · refine ⟨⟨o,I.kIn p o hk,hc⟩,fun a e => ?_⟩
      cases e
      exact ⟨o,I.kIn _ o hk,hd⟩
    · obtain ⟨_,_,_,o,e,hc,hd,_⟩:=I.hok p _ hk
      refine ⟨⟨o,e,hc⟩,fun a e2 => ?_⟩
      cases e2
      exact ⟨o,e,hd⟩
    · have z:∃ o,s.heap.get? p=some o∧o.ExactDict:=by
        rcases hk with ⟨kvs,hk⟩ | ⟨kvs,hk⟩
        · obtain ⟨_,_,_,_,o,_,_,e,ex,_⟩:=I.hok p _ hk
          exact ⟨o,e,ex⟩
        · obtain ⟨_,_,_,_,o,_,_,e,ex,_⟩:=I.hok p _ hk
          exact ⟨o,e,ex⟩
      obtain ⟨o,e,ex⟩:=z
      refine ⟨⟨o,e,ex.1⟩,fun a e2 => ?_⟩
      cases e2
      exact ⟨o,e,ex.2.1⟩
    · obtain ⟨o,_,_,_,e,ex,_⟩:=I.hok p _ hk
      refine ⟨⟨o,e,ex.1⟩,fun a e2 => ?_⟩
      cases e2
      exact ⟨o,e,ex.2.1⟩
  | _=>exact False.elim ty
noncomputable def tBM0 (K:PySem.W.Frag) (T:String) (r:V→List V→Hp→VK→Prop) (to:TE):TE:=fun σ H Q=>to σ H fun x H1=>tyV K T x H1∧r x [] H1 Q
noncomputable def tBM (K:PySem.W.Frag) (T:String) (r:V→List V→Hp→VK→Prop) (to:TE) (t:TA):TE:=fun σ H Q=>to σ H fun x H1=>tyV K T x H1∧t σ H1 fun xs H2=>r x xs H2 Q
variable {o e:Expr} {es:List Expr} {to:TE} {t:TA} {name:Str} {apos cpos:Pos} {T id:String} {r:V→List V→Hp→VK→Prop}
theorem axn (pa:PlainAttrs T) (slot:Slot T name id) (hty:typeOf (.builtin id)=pure (.type "method_descriptor")) (hm:MtR X id r) (ho:PE X o to)
    (hbase:attributeBase o name X.env (eval o X.env)=eval o X.env:=by rfl) (hline:(apos.endLine==cpos.line)=true:=by rfl):PE X (.Call (.Attribute o name apos) [] [] cpos) (tBM0 X.K T r to):=by
  intro pins s σ H Q I h
  refine wpAny_Call_method0_late hbase hline (thn (ho pins s σ H _ I h) fun v s1 ⟨x,H1,I1,r1,ty,q1⟩ => ?_)
  obtain ⟨h1,h2⟩:=as3 I1 r1 ty
  exact ⟨T,id,pa,slot,hty,h1,h2,Calls.callWith_builtin rfl (PySem.evalArgs_none (hm pins s1 σ H1 x [] v [] Q I1 r1 .nil q1))⟩
theorem a1n (pa:PlainAttrs T) (slot:Slot T name id) (hty:typeOf (.builtin id)=pure (.type "method_descriptor")) (hm:MtR X id r) (ho:PE X o to) (ha:PA X (e::es) t)
    (hbase:attributeBase o name X.env (eval o X.env)=eval o X.env:=by rfl)
    (hfew:((backTo cpos (starEach (e::es) X.env)).all (fun x => !x.1)&&(backToKw cpos (keywordEach [] X.env)).all (fun x=>x.1.isSome)
      && decide ((e::es).length+([]:List Keyword).length+(if ([]:List Keyword).isEmpty then 0 else 1) < 30))=true:=by rfl)
    (hline:(apos.endLine==cpos.line)=true:=by rfl) (hs:starEach (e::es) X.env=(false,eval e X.env)::starEach es X.env:=by rfl) (hplain:(backTo cpos (starEach es X.env)).any (·.1)=false:=by rfl) :
    PE X (.Call (.Attribute o name apos) (e::es) [] cpos) (tBM X.K T r to t):=by
  intro pins s σ H Q I h
  refine wpAny_Call_method_late hbase hfew hline rfl (thn (ho pins s σ H _ I h) fun v s1 ⟨x,H1,I1,r1,ty,q1⟩ => ?_)
  obtain ⟨h1,h2⟩:=as3 I1 r1 ty
  refine ⟨T,id,pa,slot,hty,h1,h2,?_⟩
  have hA:=ha cpos pins s1 σ H1 _ I1 q1
  rw [hs] at hA ⊢
  refine Calls.callWith_builtin (by show (false||(backTo cpos (starEach es X.env)).any (·.1))=false; rw [hplain] <;> rfl) (Calls.evalArgs_plain ?_)
  exact thn hA fun us s2 ⟨vs,H2,I2,r2,q2⟩=>hm pins s2 σ H2 x vs v us Q I2 r1 r2 q2
end
end L2
namespace L2
open PySem PySem.Spec PyProof.Rows
noncomputable def MtM (X:Cx) (id:String) (r:V→List V→Hp→VK→Prop):Prop :=
  ∀ (pins:List (Addr×Obj)) (s:Shared) (σ:St) (H:Hp) (x:V) (xs:List V) (v:Value) (us:List Value) (Q:VK),Inv X pins σ H s→RelV x v→Vals xs us→r x xs H Q →
    wpAny (model X.prog X.w) X.A (call (.builtin id) (v::us)) (EP X pins σ Q) X.xe s
theorem Vals.one:∀ {x:V} {us:List Value},Vals [x] us→∃ u,us=[u]∧RelV x u
  | _,_,.cons r .nil=>⟨_,rfl,r⟩
theorem Vals.two:∀ {x y:V} {us:List Value},Vals [x,y] us→∃ u v,us=[u,v]∧RelV x u∧RelV y v
  | _,_,_,.cons r (.cons q .nil)=>⟨_,_,rfl,r,q⟩
theorem Vals.zero:∀ {us:List Value},Vals [] us→us=[]
  | _,.nil=>rfl
theorem Vals.eraseIdx:∀ {xs:List V} {us:List Value} (i:Nat),Vals xs us→Vals (xs.eraseIdx i) (us.eraseIdx i)
  | _,_,_,.nil=>.nil
  | _,_,0,.cons _ t=>t
  | _,_,i+1,.cons r t=>.cons r (Vals.eraseIdx i t)
theorem Vals.reverse {xs:List V} {us:List Value} (h:Vals xs us):Vals xs.reverse us.reverse:=by
  induction h with
  | nil=>exact .nil
  | cons r t ih=>rw [List.reverse_cons,List.reverse_cons]; exact Vals.append ih (.cons r .nil)
theorem Vals.rep {xs:List V} {us:List Value} (h:Vals xs us):∀ k:Nat,Vals (List.replicate k xs).flatten (List.replicate k us).flatten
  | 0=>.nil
  | k+1=>by
    rw [List.replicate_succ,List.replicate_succ,List.flatten_cons,List.flatten_cons]
    exact Vals.append h (Vals.rep h k)
theorem foldl_rep (its:List Value):∀ (k:Nat) (acc:List Value),
    List.foldl (fun x1 x2=>x1++x2) acc.toArray (List.replicate k its.toArray)=(acc++(List.replicate k its).flatten).toArray
  | 0,acc=>by simp
  | k+1,acc=>by
    have e:acc.toArray++its.toArray=(acc++its).toArray:=by simp
    have e2:(acc++its)++(List.replicate k its).flatten=acc++(List.replicate (k+1) its).flatten:=by
      rw [List.replicate_succ,List.flatten_cons,List.append_assoc]
    rw [←e2,←foldl_rep its k (acc++its),←e,List.replicate_succ,List.foldl_cons]
section
variable {X:Cx} {pins:List (Addr×Obj)} {σ:St} {H:Hp} {s:Shared} {l b:Addr} {xs ys zs:List V}
theorem Inv.lset {its its':List Value} {n:Nat} {f:Array Value→Array Value} {t':Nat} (I:Inv X pins σ H s) (hH:H l=some (.lst xs))
    (e:s.heap.get? l=some { cls:=.type "list", data:=.seq its.toArray n }) (hf:f its.toArray=its'.toArray) (hv:Vals ys its') (hz:ys.length≤sizeLine) :
    Inv X pins σ (upd H l (.lst ys)) { s with heap:=s.heap.update l (Obj.mapSeq f),toks:=t' }:=by
  have q:=PySem.IsL.update e f
  rw [hf] at q
  refine I.write (x:=l) (e:=l) (by rw [hH]; exact trivial) (.inl rfl) (fun b' u hb hu=>(Heap.get?_update_other s.heap (Obj.mapSeq f) (Ne.symm hb)).trans hu) ⟨_,q⟩ ?_
  exact ⟨hz,its',_,hv,q⟩
theorem Inv.lnew {its:List Value} {t':Nat} (I:Inv X pins σ H s) (hv:Vals ys its) (hz:ys.length≤sizeLine) :
    Inv X pins σ (upd H s.heap.objs.size (.lst ys)) { s with heap:=s.heap.push { cls:=.type "list", data:=.seq its.toArray },toks:=t' } :=
  I.laid (fun _ _ q=>Heap.get?_push_of_some _ q) (Nat.le_refl _) ⟨hz,its,0,hv,Heap.get?_push_size _ rfl⟩
theorem Inv.fresh (I:Inv X pins σ H s):H s.heap.objs.size=none:=I.hok.fresh (Nat.le_refl _)
theorem Inv.lstM (I:Inv X pins σ H s) (hH:H l=some (.lst xs)):xs.length≤sizeLine∧∃ (its:List Value) (n:Nat),Vals xs its∧xs.length=its.length∧s.heap.get? l=some { cls:=.type "list", data:=.seq its.toArray n }:=by
  obtain ⟨z,its,n,r,e⟩:=I.hok l _ hH
  exact ⟨z,its,n,r,r.length,e⟩
theorem ark {n:Nat} (h:n≤sizeLine):Builtin.List.listTooLong n=false:=by
  unfold Builtin.List.listTooLong
  exact decide_eq_false (by omega)
end
section
variable {X:Cx}
noncomputable def aoi:V→List V→Hp→VK→Prop:=fun x vs H Q=>∃ l xs y,x=.ref l∧vs=[y]∧H l=some (.lst xs)∧xs.length < sizeLine∧Q .non (upd H l (.lst (xs++[y])))
theorem abf:MtM X "list.append" aoi:=by
  intro pins s σ H x vs v us Q I rx rv h
  obtain ⟨l,xs,y,rfl,rfl,hH,hz,q⟩:=h
  cases rx
  obtain ⟨u,rfl,ru⟩:=rv.one
  obtain ⟨z,its,n,r,hl,e⟩:=I.lstM hH
  refine call_meets F.slot_list_append ⟨_,e,rfl⟩ F.entry_list_append (F.args_list_append_2 _ _) (PySem.list_append l its.toArray n u (by rw [List.size_toArray]; omega)) ⟨e,?_⟩
  refine ⟨.non,_,I.lset (its':=its++[u]) hH e (by simp) (r.append (.cons ru .nil)) ?_,rfl,q⟩
  rw [List.length_append,List.length_singleton]
  omega
noncomputable def rReverse:V→List V→Hp→VK→Prop:=fun x vs H Q=>∃ l xs,x=.ref l∧vs=[]∧H l=some (.lst xs)∧Q .non (upd H l (.lst xs.reverse))
theorem mt_reverse:MtM X "list.reverse" rReverse:=by
  intro pins s σ H x vs v us Q I rx rv h
  obtain ⟨l,xs,rfl,rfl,hH,q⟩:=h
  cases rx
  have hus:=rv.zero
  subst hus
  obtain ⟨z,its,n,r,hl,e⟩:=I.lstM hH
  refine call_meets F.slot_list_reverse ⟨_,e,rfl⟩ F.entry_list_reverse (F.args_list_reverse_1 _) (AutoSeq1.list_reverse_list_0 l its.toArray n (by rw [List.size_toArray]; omega)) ⟨e,?_⟩
  refine ⟨.non,_,I.lset (its':=its.reverse) hH e (by simp) r.reverse ?_,rfl,q⟩
  rw [List.length_reverse]
  omega
noncomputable def rCat:R2:=fun x y H Q=>∃ l b xs zs,x=.ref l∧y=.ref b∧H l=some (.lst xs)∧H b=some (.lst zs)∧xs.length+zs.length≤sizeLine∧∀ p,H p=none→Q (.ref p) (upd H p (.lst (xs++zs)))
theorem axv:OpR X (binaryOp .Add) rCat:=by
  intro pins s σ H x y v u Q I rx ry h
  obtain ⟨l,b,xs,zs,rfl,rfl,hH,hB,hz,q⟩:=h
  cases rx
  cases ry
  obtain ⟨z,its,n,r,hl,e⟩:=I.lstM hH
  obtain ⟨z2,its2,n2,r2,hl2,e2⟩:=I.lstM hB
  refine PySem.P.add_list e e2 ?_ (by rw [List.size_toArray,List.size_toArray]; omega)
  have ea:its.toArray++its2.toArray=(its++its2).toArray:=by simp
  rw [ea]
  exact ⟨.ref _,_,I.lnew (t':=s.toks) (r.append r2) (by rw [List.length_append]; omega),rfl,q _ I.fresh⟩
noncomputable def rRep:R2:=fun x y H Q=>∃ l k xs,x=.ref l∧y=.int k∧H l=some (.lst xs) ∧ -(2 ^ 63)≤k∧k < 2 ^ 63∧xs.length*k.toNat≤sizeLine ∧
  ∀ p,H p=none→Q (.ref p) (upd H p (.lst (List.replicate k.toNat xs).flatten))
theorem len_rep {α:Type} (xs:List α) (k:Nat):(List.replicate k xs).flatten.length=k*xs.length:=by
  induction k with
  | zero=>simp
  | succ k ih=>rw [List.replicate_succ,List.flatten_cons,List.length_append,ih,Nat.succ_mul,Nat.add_comm]
theorem axq:OpR X (binaryOp .Mult) rRep:=by
  intro pins s σ H x y v u Q I rx ry h
  obtain ⟨l,k,xs,rfl,rfl,hH,h1,h2,hz,q⟩:=h
  cases rx
  obtain ⟨t,rfl⟩:=ry
  obtain ⟨z,its,n,r,hl,e⟩:=I.lstM hH
  have hlen:its.toArray.size*k.toNat≤sizeLine:=by rw [List.size_toArray,←hl]; exact hz
  have hcap:¬its.toArray.size*k.toNat > (2 ^ 63 - 1) / 8:=by
    have:(sizeLine:Nat)≤(2 ^ 63 - 1) / 8:=by decide
    omega
  have hfit:¬(!Builtin.List.listFitsIndex k)=true:=by
    rw [fitsIndex_both h1 h2]
    exact Bool.false_ne_true
  have hlong:¬Builtin.List.listTooLong (its.toArray.size*k.toNat)=true:=by
    rw [ark hlen]
    exact Bool.false_ne_true
  have hnew:List.foldl (fun x1 x2=>x1++x2) #[] (List.replicate (if its.toArray.isEmpty=true then 0 else k.toNat) its.toArray)=(List.replicate k.toNat its).flatten.toArray:=by
    have f0:∀ m:Nat,List.foldl (fun x1 x2=>x1++x2) #[] (List.replicate m its.toArray)=(List.replicate m its).flatten.toArray:=fun m=>by
      have:=foldl_rep its m []
      rw [List.nil_append] at this
      exact this
    rw [f0]
    cases its with
    | nil=>simp
    | cons a r'=>rw [if_neg (by simp)]
  refine wpAny_binaryOp_repeat_ref (T := "list") (U := "int") (by decide) ⟨_,e,rfl⟩ (fun s'=>typeIs_int s' k t) noFill_list_mul F.fills_int_mul F.slot_int_rmul repeat_list F.slot_int_index.lookup
    (call_meets F.slot_int_rmul (typeIs_int s k t) F.entry_int_rmul (F.args_int_rmul_2 _ _) (int___rmul___int_list k t l its.toArray n)
      ⟨e,rfl,⟨_,e,rfl⟩,call_meets F.slot_list_mul ⟨_,e,rfl⟩ F.entry_list_mul (F.args_list_mul_2 _ _) (AutoListH.list___mul___list_int_3 l its.toArray n k t hfit hcap hlong) ⟨e,?_⟩⟩)
  rw [hnew]
  exact ⟨.ref _,_,I.lnew (t':=s.toks) (r.rep k.toNat) (by rw [len_rep,Nat.mul_comm]; exact hz),rfl,q _ I.fresh⟩
end
section
variable {prog:Program} {w:World} {A:Around} {E:Value→Shared→Prop} {s:Shared}
end
section
variable {X:Cx}
end
end L2
namespace Att
open PySem PySem.W PySem.Calls PyProof.Rows
theorem afr {P:Params} {h:Heap}:∀ (ns:List Int) (vs:List Value),WellAll P h vs (ns.map WData.int)→IntsAre vs ns:=by
  intro ns
  induction ns with
  | nil =>
    intro vs w
    rw [List.map_nil] at w
    cases w
    exact .nil
  | cons n ns ih =>
    intro vs w
    rw [List.map_cons] at w
    cases w with
    | cons a b =>
      cases a
      exact .cons _ _ (ih _ b)
theorem aod {l:OpenLaw} {n:Nat} (hn:l.most=some n) {P:Params} {h:Heap} {args:List WData} {vals:List Value}
    (hpre:l.row.toRowW.claim.pre args=true) (hwl:WellAll P h vals args) :
    ∃ a vs ns,vals=[Value.ref a]∧args=[WData.list (ns.map WData.int)]∧h.get? a=some { cls:=.type "list", data:=.seq vs.toArray }∧IntsAre vs ns∧ns.length≤n:=by
  have hsh:WShape.hasAll [] args [.list .int]=true:=(pre_splitW hpre).1
  have hc:l.pre.holds [] { args:=args }=true:=(pre_splitW hpre).2
  obtain ⟨d,r,rfl,h1,h2⟩:=hasAllW_cons hsh
  obtain rfl:=hasAllW_nil h2
  obtain ⟨xs,rfl,h3⟩:=hasW_list h1
  obtain ⟨ns,rfl⟩:=items_int h3
  have hlen:ns.length≤n:=by
    unfold OpenLaw.pre at hc
    have h4:(WTm.not (.lt (.lit (.int (n:Int))) (.len (.arg 0)))).holds [] { args:=[.list (ns.map .int)] }=true:=by
      have h4:=(holds_andW hc).1
      rw [hn] at h4
      exact h4
    have h5:=condW_of h4 (w_not (w_lt w_lit (w_len_list (w_arg rfl))))
    rw [List.length_map] at h5
    refine Nat.le_of_not_lt fun q => ?_
    have q':(n:Int) < ((ns.length:Nat):Int):=by omega
    first
      | (rw [decide_eq_true q'] at h5; exact absurd h5 (by decide))
      | (simp at h5; omega)
  cases hwl with
  | cons w1 w2 =>
    cases w2
    cases w1 with
    | list ho hall=>exact ⟨_,_,ns,rfl,rfl,ho,afr ns _ hall,hlen⟩
theorem aoj (l:OpenLaw) (args:List WData):l.row.toRowW.claim.post args (.bool true) args=true :=
  postW_of (r:=l.row.toRowW) (X:=(true==true))
    (show WShape.has [] (.bool true) .bool=true by first | rfl | decide | simp [WShape.has,WShape.arms,WShape.armsAll])
    (show (WTm.eq .res (.lit (.bool true))).value [] { args:=args,res:=some (.bool true),after:=args }=some (.bool (true==true)) from w_eq_bool (w_res rfl) w_lit) rfl
theorem alb {l:OpenLaw} {n:Nat} {q:Program} {loose:List Str} {XP:(Str→Option Value)→Heap→Prop} {YP:World→Heap→Prop} {d:DefRec}
    (hn:l.most=some n) (hdf:d.params.defaults=[])
    (call:∀ (w:World) (s₀ s₁:Shared) (mg mb:Str→Option Value) (fa:Addr) (o:Obj) (pm cd doc:Value) (a:Addr) (vs:List Value) (ns:List Int),
      Ground q loose [] XP w s₀ mg mb s₁.heap→YP w s₁.heap →
      s₁.heap.get? fa=some o→o.data=.func (docDef d.name d.params d.body d.scope pm cd doc)→s₁.heap.CodeRec cd d.name→mg d.name=some (.ref fa) →
      s₁.heap.get? a=some { cls:=.type "list", data:=.seq vs.toArray }→IntsAre vs ns→ns.length≤n→s₁.gens = #[] →
      codeAny (model l.prog w) callerA (.call (.ref fa) ⟨[.ref a],[]⟩) (fun r s'=>r=.ok (.ret (.bool true))∧OldK s₁.heap s'.heap∧s'.os=s₁.os∧AllBare s'.gens) s₁) :
    WalkO q loose XP YP l.row.toRowW d [] (fun f vs=>PySem.call f vs):=by
  intro w s₀ s₁ mg mb G Y fa o pm cd doc dV kV ho hd hcd hD hmg hg args vals as hpre hlay hrd hwl hlo
  obtain rfl:dV=.none:=Dflts.none hD hdf
  obtain rfl:kV=.none:=Dflts.noKw hD
  obtain ⟨a,vs,ns,rfl,rfl,hobj,hints,hlen⟩:=aod hn hpre hwl
  refine enter_call (codeAny_mono (call w s₀ s₁ mg mb fa o pm cd doc a vs ns G Y ho (fd_plain hd) hcd hmg hobj hints hlen hg) fun r s' hq => ?_)
  obtain ⟨rfl,h2,h3,h4⟩:=hq
  exact ⟨.inl ⟨.bool true,.bool true,[],rfl,fun _=>rfl,.bool true,aoj l _,fun _=>⟨List.Pairwise.nil,fun _ hm=>(nomatch hm)⟩⟩,h2,h3,h4⟩
section
variable {prog:Program} {w:World} {A:Around} {E:Value→Shared→Prop} {s:Shared} {K:Frag}
end
end Att
namespace L2
open PySem PySem.Spec PyProof.Rows
theorem aie:∀ {vs:List Value} {ns:List Int},IntsAre vs ns→Vals (ns.map V.int) vs
  | _,_,.nil=>.nil
  | _,_,.cons n t h=>.cons ⟨t,rfl⟩ (aie h)
noncomputable def Only (H:Hp):Prop:=∀ b,H b=none∨∃ o xs,H b=some (.frz o (.lst xs))
theorem ars {P:Program} {w:World} {K:PySem.W.Frag} {mg mb:Str→Option Value} {CX:CXT} {k:Nat} {fa a:Addr} {fd:FuncData} {x:Str} {sp:Sp} {s₁:Shared} {vs:List Value} {ns:List Int}
    (KX:K.In s₁.heap) (hns:s₁.heap.Ns mainGlobals mg) (hb:s₁.heap.Ns builtinsNs mb) (hbb:∀ x:Str,x ≠ "__name__" → mb x=bootBuiltins x) (hlim:s₁.heap.NoLimit) (hg:s₁.gens = #[])
    (ha:s₁.heap.get? a=some { cls:=.type "list", data:=.seq vs.toArray }) (hi:IntsAre vs ns) (hl:ns.length≤sizeLine) (hr:Room k callerA)
    (F:∀ base:Heap,K.In base→base.Ns mainGlobals mg→FnOk P w K mg base CX k fa fd [x] sp) (hbind:∀ (s:Shared) (u:Value),BindsTo s fd ⟨[u],[]⟩ [(x,u)])
    (hsp:∀ H:Hp,Only H→SqL K H a (ns.map V.int)→sp [.ref a] H (fun v _=>v=.bl true) fun _ _ _=>False)
    (hCX:∀ H e s',CX [] H s₁ (fun _ _ _=>False) e s'→False) :
    codeAny (model P w) callerA (.call (.ref fa) ⟨[.ref a],[]⟩) (fun r s'=>r=.ok (.ret (.bool true))∧OldK s₁.heap s'.heap∧s'.os=s₁.os∧AllBare s'.gens) s₁:=by
  have rv:=aie hi
  have lenV:=hi.length
  have core:∀ H:Hp,Only H→SqL K H a (ns.map V.int)→HOk P w H s₁.heap→(∀ b,H b≠none→b=a)→(H a≠none→K.lookup a=none) →
      codeAny (model P w) callerA (.call (.ref fa) ⟨[.ref a],[]⟩) (fun r s'=>r=.ok (.ret (.bool true))∧OldK s₁.heap s'.heap∧s'.os=s₁.os∧AllBare s'.gens) s₁:=by
    intro H hO hS hok hA hK
    have base_of:∀ {b:Addr} {o:Obj},s₁.heap.get? b=some o→H b=none→(hidT s₁.heap H).get? b=some o:=fun e n=>ar4 e n
    have noA:∀ {b:Addr} {o:Obj} {es:Array DictEntry} {ep:Nat},s₁.heap.get? b=some o→o.data=.dict es ep→H b=none:=fun {b o es ep} e d=>by
      cases q:H b with
      | none=>rfl
      | some u =>
        have e':b=a:=hA b (by rw [q]; simp)
        subst e'
        rw [ha] at e; cases e
        have d':Data.seq vs.toArray _=Data.dict es ep:=d
        cases d'
    have nsK:∀ {b:Addr} {m:Str→Option Value},s₁.heap.Ns b m→(hidT s₁.heap H).Ns b m:=fun {b m} ⟨o,es,ep,e,d,r⟩=>⟨o,es,ep,base_of e (noA e d),d,r⟩
    have hKb:K.In (hidT s₁.heap H):=fun b o e=>base_of (KX b o e) (by
      cases q:H b with
      | none=>rfl
      | some u =>
        have e':b=a:=hA b (by rw [q]; simp)
        subst e'
        rw [hK (by rw [q]; simp)] at e; cases e)
    have hM:Mod K mg (hidT s₁.heap H):=⟨hKb,nsK hns,⟨mb,nsK hb,hbb⟩,let ⟨mc,h1,h2⟩:=hlim; ⟨mc,nsK h1,h2⟩⟩
    have e0:Env0 P w K mg (hidT s₁.heap H) callerA [] s₁ H:=⟨rfl,hM,fun b o e=>auy e,Nat.le_of_eq (ao9 _ _),trivial,fun b hb=>absurd (show b∈([]:List Addr) from hb) (by simp),hok,.of_eq hg⟩
    refine codeAny_mono ((F _ hKb (nsK hns)).run callerA [] s₁ H ⟨[.ref a],[]⟩ [.ref a] [.ref a] _ _ hr e0 (hbind s₁ (.ref a)) (.cons rfl .nil) (hsp H hO hS)) fun r s' h => ?_
    cases r with
    | error e=>exact (hCX H e s' h).elim
    | ok fl =>
      cases fl with
      | next=>exact False.elim h
      | brk=>exact False.elim h
      | cont=>exact False.elim h
      | ret u =>
        obtain ⟨v,H',os,bare,un,hok',r',q⟩:=h
        have q':v=.bl true:=q
        subst q'
        obtain rfl:u=Value.bool true:=r'
        refine ⟨rfl,OldK.of_keep fun b o e => ?_,os,bare⟩
        cases q:H b with
        | none=>exact un.keep b o e q (by intro z; exact absurd (show b∈([]:List Addr) from z) (by simp)) (by simp)
        | some u =>
          rcases hO b with z | ⟨ob,xs,z⟩
          · rw [q] at z; cases z
          · have z2:=un.frzs b ob _ z
            obtain ⟨e1,_⟩:=hok b _ z
            obtain ⟨e2,_⟩:=hok' b _ z2
            rw [e] at e1; cases e1
            exact e2
  cases hk:K.lookup a with
  | some o =>
    have e:=KX a o hk
    rw [ha] at e
    cases e
    refine core (fun _=>none) (fun _=>.inl rfl) (.inr ⟨_,vs.toArray,_,hk,rfl,rfl,rfl,by rw [List.size_toArray,lenV]; exact hl,by simpa using rv⟩) (fun b u z=>by have z':(none:Option HO)=some u:=z; cases z') (fun b z=>absurd rfl z) fun z=>absurd rfl z
  | none =>
    refine core (fun b=>if b=a then some (.frz { cls:=.type "list", data:=.seq vs.toArray } (.lst (ns.map V.int))) else none) (fun b => ?_) (.inl (.inr ⟨{ cls:=.type "list", data:=.seq vs.toArray },if_pos rfl⟩)) (fun b u z => ?_) (fun b z => ?_) fun _=>hk
    · by_cases hb:b=a
      · exact .inr ⟨_,_,if_pos hb⟩
      · exact .inl (if_neg hb)
    · by_cases hb:b=a
      · have z':=(if_pos hb).symm.trans z
        cases z'
        subst hb
        exact ⟨ha,by rw [List.length_map]; exact hl,vs,_,rv,ha⟩
      · have z':=(if_neg hb).symm.trans z
        cases z'
    · by_cases hb:b=a
      · exact hb
      · exact absurd (if_neg hb) z
end L2
namespace L2
open PySem PySem.Spec PyProof.Rows
theorem ato {l:PySem.W.OpenLaw} {n k:Nat} {q:Program} {loose:List Str} {XP:(Str→Option Value)→Heap→Prop} {YP:World→Heap→Prop} {d:DefRec} {K:Params→PySem.W.Frag} {CX:World→CXT} {sp:World→Sp} {x:Str}
    (hn:l.most=some n) (hn2:n≤sizeLine) (hdf:d.params.defaults=[]) (hr:Room k callerA)
    (hY:∀ (w:World) (h:Heap),YP w h→(K w.params).In h)
    (F:∀ (w:World) (mg:Str→Option Value) (fa:Addr) (h:Heap),(K w.params).In h→h.Ns mainGlobals mg→mg d.name=some (.ref fa) →
      ∃ fd:FuncData,(∀ (s:Shared) (u:Value),BindsTo s fd ⟨[u],[]⟩ [(x,u)]) ∧
        ∀ base:Heap,(K w.params).In base→base.Ns mainGlobals mg→FnOk l.prog w (K w.params) mg base (CX w) k fa fd [x] (sp w))
    (hsp:∀ (w:World) (H:Hp) (a:Addr) (ns:List Int),ns.length≤n→Only H→SqL (K w.params) H a (ns.map V.int)→sp w [.ref a] H (fun v _=>v=.bl true) fun _ _ _=>False)
    (hCX:∀ (w:World) (H:Hp) (s:Shared) (e:Value) (s':Shared),CX w [] H s (fun _ _ _=>False) e s'→False) :
    PySem.W.WalkO q loose XP YP l.row.toRowW d [] (fun f vs=>PySem.call f vs):=by
  refine Att.alb hn hdf fun w s₀ s₁ mg mb fa o pm cd doc a vs ns G Y ho hd hcd hmg hobj hints hlen hg => ?_
  have KX:=hY w _ Y
  obtain ⟨fd,hb,hF⟩:=F w mg fa _ KX G.T.g hmg
  exact ars KX G.T.g G.T.b G.T.builtins G.T.nolimit hg hobj hints (Nat.le_trans hlen hn2) hr hF hb (fun H hO hS=>hsp w H a ns hlen hO hS) fun H e s'=>hCX w H s₁ e s'
end L2
namespace L2
open PySem PySem.Spec PyProof.Rows
noncomputable def dh (s:Stmt):Arguments:=match s with
  | .FunctionDef _ a _ _ _ _ _ _ _ _=>a
  | _=>{ posonlyargs:=[],args:=[],vararg:=none,kwonlyargs:=[],kw_defaults:=[],kwarg:=none,defaults:=[] }
noncomputable def cj (s:Stmt):List Stmt:=match s with
  | .FunctionDef _ _ b _ _ _ _ _ _ _=>b
  | _=>[]
noncomputable def ao (s:Stmt):Scope:=match s with
  | .FunctionDef _ _ _ _ _ _ sc _ _ _=>sc
  | _=>{ kind:=.function,names:=[],isGenerator:=false,isCoroutine:=false }
noncomputable abbrev CX0:CXT:=fun _ _ _ _ _ _=>False
noncomputable abbrev E0:XK:=fun _ _ _=>False
theorem a1p {X:Cx}:aql CX0 X E0:=fun _ _ _ _ _ _ _ h=>h.elim
structure Fun (K:PySem.W.Frag) (x qual:Str) (st:Stmt) (f:Addr) (fd:FuncData):Prop where
  ex:∃ (oc:Value) (od:Option Addr) (kV doc pm:Value) (an:Option Addr) (cdv ct:Value) (osl:Array (Option Value)),
    fd=PySem.W.fnOf x qual (dh st) (cj st) (ao st) .none kV doc pm an cdv ct∧K.lookup f=some ⟨oc,od,.func fd,osl⟩∧PySem.W.codeIn K cdv qual=true
  kp:PySem.W.keepIn K (.ref f)=true
section
variable {P:Program} {w:World} {K:PySem.W.Frag} {mg:Str→Option Value} {base:Heap}
theorem Fun.ok {x qual:Str} {st:Stmt} {f:Addr} {fd:FuncData} {N ps:List Str} {k:Nat} {sp:Sp} (F:Fun K x qual st f fd) (S:FnScope N ps (ao st)) (len:∀ vs H Q E,sp vs H Q E→vs.length=ps.length)
    (hbody:∀ (cdv:Value) (A:Around) (outer:List Env) (s:Shared) (H:Hp) (vs:List V) (Q:VK) (E:XK),Room k (A.deeper (envOfC qual (ao st) s.heap.objs.size f cdv))→sp vs H Q E →
      ∃ t,PSs (cxOf CX0 P w K mg base N qual (ao st) f cdv A outer s H E).nox (cj st) t∧t { nx:=fun _ H'=>Q .non H',rt:=Q } (start N vs) H):FnOk P w K mg base CX0 (k+1) f fd ps sp:=by
  obtain ⟨oc,od,kV,doc,pm,an,cdv,ct,osl,rfl,lk,hcd⟩:=F.ex
  refine a3e lk hcd S len fun A outer s H vs Q E hr hsp => ?_
  obtain ⟨t,h,q⟩:=hbody cdv A outer s H vs Q E hr hsp
  exact ⟨t,h.nox,q⟩
theorem Fun.binds {x qual:Str} {st:Stmt} {f:Addr} {fd:FuncData} {ps:List Str} (F:Fun K x qual st f fd)
    (h:∀ (kV doc pm:Value) (an:Option Addr) (cdv ct:Value) (us:List Value),us.length=ps.length→bindArgs (PySem.W.fnOf x qual (dh st) (cj st) (ao st) .none kV doc pm an cdv ct) ⟨us,[]⟩=pure (ps.zip us)):Binds K fd ps []:=by
  obtain ⟨oc,od,kV,doc,pm,an,cdv,ct,osl,rfl,lk,hcd⟩:=F.ex
  exact .all (h kV doc pm an cdv ct)
theorem ie {x qual:Str} {st:Stmt} {f:Addr} {oc:Value} {od an:Option Addr} {osl:Array (Option Value)} {kV doc pm cdv ct:Value} (l:K.lookup f=some ⟨oc,od,.func (PySem.W.fnOf x qual (dh st) (cj st) (ao st) .none kV doc pm an cdv ct),osl⟩)
    (c:PySem.W.codeIn K cdv qual=true) (k:PySem.W.keepIn K (.ref f)=true):Fun K x qual st f (PySem.W.fnOf x qual (dh st) (cj st) (ao st) .none kV doc pm an cdv ct):=⟨⟨oc,od,kV,doc,pm,an,cdv,ct,osl,rfl,l,c⟩,k⟩
end
theorem an8 {n:Nat} (h:n≤1000):n < sizeLine:=Nat.lt_of_le_of_lt h (by decide)
section
variable {X:Cx}
theorem pv (i:Nat) {x:Str} {pos:Pos} (hN:X.N[i]? = some x:=by rfl) (hv:Vis X.env.scope x:=by first | exact Or.inl rfl | exact Or.inr (Or.inl rfl) | exact Or.inr (Or.inr rfl)) (hd:(x==("__debug__" : Str))=false:=by decide)
    (hcd:(x==("__classdict__" : Str))=false:=by decide):PE X (.Name x pos) (tVar i):=axf hN hv hd hcd
end
theorem iteF {A B:Prop} (h:B):if false=true then A else B:=by
  rw [if_neg Bool.false_ne_true]
  exact h
theorem iteT {A B:Prop} (h:A):if true=true then A else B:=by
  rw [if_pos rfl]
  exact h
noncomputable def Same (H H':Hp):Prop:=∀ b o,H b=some o→H' b=some o
theorem Same.refl (H:Hp):Same H H:=fun _ _ h=>h
theorem Same.trans {H H1 H2:Hp} (a:Same H H1) (b:Same H1 H2):Same H H2:=fun c o h=>b c o (a c o h)
theorem Same.free {H H':Hp} (e:Same H H') {l:Addr} (h:H' l=Option.none):H l=Option.none:=by
  cases q:H l with
  | none=>rfl
  | some o =>
    rw [e l o q] at h
    cases h
theorem Same.seq {K:PySem.W.Frag} {H H':Hp} {a:Addr} {xs:List V} (e:Same H H') (h:SqL K H a xs):SqL K H' a xs:=by
  rcases h with (h | ⟨o,h⟩) | h
  · exact .inl (.inl (e _ _ h))
  · exact .inl (.inr ⟨o,e _ _ h⟩)
  · exact .inr h
end L2
namespace Mn
open PySem PySem.Spec PyProof.Rows L2
noncomputable def aal (env:Env) (fr:List Str):List (Str×Addr):=fr.filterMap fun n=>(env.cells.lookup n).map fun c=>(n,c)
theorem af8 {env:Env} {n:Str} {r:List Str} (e:env.cells.lookup n=none):aal env (n::r)=aal env r:=by
  unfold aal
  rw [List.filterMap_cons,e]
  rfl
theorem acq {env:Env} {n:Str} {r:List Str} {c:Addr} (e:env.cells.lookup n=some c):aal env (n::r)=(n,c)::aal env r:=by
  unfold aal
  rw [List.filterMap_cons,e]
  rfl
theorem look_same {x:Str} {c:Addr} {l:List (Str×Addr)}:List.lookup x ((x,c)::l)=some c:=by
  have hb:(x==x)=true:=beq_iff_eq.mpr rfl
  simp only [List.lookup,hb]
theorem ags {x n:Str} {c:Addr} {l:List (Str×Addr)} (h:x≠n):List.lookup x ((n,c)::l)=l.lookup x:=by
  have hb:(x==n)=false:=beq_eq_false_iff_ne.mpr h
  simp only [List.lookup,hb]
theorem vd {env:Env}:∀ {fr:List Str} {x:Str} {c:Addr},(aal env fr).lookup x=some c→env.cells.lookup x=some c
  | [],x,c,h=>by
    have h':(none:Option Addr)=some c:=h
    cases h'
  | n::r,x,c,h=>by
    cases e:env.cells.lookup n with
    | none =>
      rw [af8 e] at h
      exact vd h
    | some d =>
      rw [acq e] at h
      by_cases hx:x=n
      · subst hx
        rw [look_same] at h
        rw [e]
        exact h
      · rw [ags hx] at h
        exact vd h
theorem ab0 {env:Env}:∀ {fr:List Str} {x:Str} {c:Addr},x∈fr→env.cells.lookup x=some c→(aal env fr).lookup x=some c
  | [],x,c,hm,h=>absurd hm (by simp)
  | n::r,x,c,hm,h=>by
    by_cases hx:x=n
    · subst hx
      rw [acq h,look_same]
    · have hm':x∈r:=(List.mem_cons.mp hm).elim (fun e=>absurd e hx) id
      cases e:env.cells.lookup n with
      | none =>
        rw [af8 e]
        exact ab0 hm' h
      | some d =>
        rw [acq e,ags hx]
        exact ab0 hm' h
noncomputable def adt (XN fr:List Str):List Str→List (Option Nat)→Bool
  | [],[]=>true
  | _::N,none::r=>adt XN fr N r
  | x::N,some j::r=>XN[j]? == some x&&fr.contains x&&adt XN fr N r
  | _,_=>false
theorem ae5 {XN fr:List Str}:∀ {N:List Str} {src:List (Option Nat)} {i j:Nat} {x:Str},adt XN fr N src=true→N[i]? = some x→src[i]? = some (some j)→XN[j]? = some x∧x∈fr
  | [],[],i,j,x,_,h,_=>by simp at h
  | [],_::_,i,j,x,_,h,_=>by simp at h
  | _::_,[],i,j,x,_,_,h=>by simp at h
  | y::N,none::r,0,j,x,_,_,h=>by simp at h
  | y::N,none::r,i+1,j,x,hk,h1,h2=>ae5 (N:=N) (src:=r) (i:=i) hk (by simpa using h1) (by simpa using h2)
  | y::N,some k::r,0,j,x,hk,h1,h2=>by
    simp only [adt,Bool.and_eq_true] at hk
    obtain ⟨⟨a,b⟩,_⟩:=hk
    simp at h1 h2
    subst h1 h2
    exact ⟨by simpa using a,by simpa using b⟩
  | y::N,some k::r,i+1,j,x,hk,h1,h2=>by
    simp only [adt,Bool.and_eq_true] at hk
    exact ae5 (N:=N) (src:=r) (i:=i) hk.2 (by simpa using h1) (by simpa using h2)
theorem ae4 {XN fr:List Str}:∀ {N:List Str} {src:List (Option Nat)},adt XN fr N src=true→src.length=N.length
  | [],[],_=>rfl
  | [],_::_,h=>by simp [adt] at h
  | _::_,[],h=>by simp [adt] at h
  | _::N,none::r,h=>by
    have:=ae4 (N:=N) (src:=r) h
    simp [this]
  | _::N,some k::r,h=>by
    simp only [adt,Bool.and_eq_true] at h
    have:=ae4 (N:=N) (src:=r) h.2
    simp [this]
noncomputable def pick (src:List (Option Nat)) (σ:L2.St):L2.St:=src.map fun o=>o.bind fun j=>(σ[j]?).bind id
theorem aq8 {src:List (Option Nat)} {σ:L2.St} {i:Nat} {v:V} (h:(pick src σ)[i]? = some (some v)):∃ j,src[i]? = some (some j)∧σ[j]? = some (some v):=by
  unfold pick at h
  rw [List.getElem?_map] at h
  cases e:src[i]? with
  | none=>rw [e] at h; cases h
  | some o =>
    rw [e] at h
    have h':(o.bind fun j=>(σ[j]?).bind id)=some v:=Option.some.inj h
    cases o with
    | none=>cases h'
    | some j =>
      refine ⟨j,rfl,?_⟩
      have h2:(σ[j]?).bind id=some v:=h'
      cases q:σ[j]? with
      | none=>rw [q] at h2; cases h2
      | some z =>
        rw [q] at h2
        have h3:z=some v:=h2
        rw [h3]
noncomputable def ag3 (env:Env) (XN:List Str) (scope:Scope) (fr N:List Str) (src:List (Option Nat)):Bool :=
  scope.names.all (fun y=>y.2 != .cell&&(y.2 != .local||scope.names.lookup y.1==some .local)&&(y.2 != .free||fr.contains y.1)) &&
  fr.all (fun x=>scope.names.lookup x==some .free&&(env.kindOf x==some .cell||env.kindOf x==some .free))&&adt XN fr N src
structure CompOk (env:Env) (XN:List Str) (scope:Scope) (fr N:List Str) (src:List (Option Nat)):Prop where
  cell:∀ y∈scope.names,y.2≠.cell
  loc:∀ y∈scope.names,y.2=.local→scope.names.lookup y.1=some .local
  free:∀ y∈scope.names,y.2=.free→y.1∈fr
  frk:∀ x∈fr,scope.names.lookup x=some .free
  out:∀ x∈fr,env.kindOf x=some .cell∨env.kindOf x=some .free
  src:adt XN fr N src=true
theorem CompOk.of {env:Env} {XN:List Str} {scope:Scope} {fr N:List Str} {src:List (Option Nat)} (h:ag3 env XN scope fr N src=true):CompOk env XN scope fr N src:=by
  simp only [ag3,Bool.and_eq_true,List.all_eq_true] at h
  obtain ⟨⟨h1,h2⟩,h3⟩:=h
  refine ⟨fun y hy => ?_,fun y hy e => ?_,fun y hy e => ?_,fun x hx => ?_,fun x hx => ?_,h3⟩
  · have:=(h1 y hy).1.1
    simpa using this
  · have:=(h1 y hy).1.2
    rw [e] at this
    simpa using this
  · have:=(h1 y hy).2
    rw [e] at this
    simpa using this
  · have:=(h2 x hx).1
    simpa using this
  · have:=(h2 x hx).2
    simpa using this
theorem aeh {env:Env}:∀ {names:List (Str×NameKind)} {x:Str} {k:NameKind},
    (names.map fun (n,k)=>if (k==NameKind.free&&env.scope.kind==.function&&env.kindOf n==some .cell) then (n,NameKind.cell) else (n,k)).lookup x=some k →
    ∃ k0,names.lookup x=some k0∧(k=k0∨(k0=.free∧k=.cell))
  | [],x,k,h=>by simp at h
  | (n,q)::r,x,k,h=>by
    by_cases hx:x=n
    · subst hx
      have hb:(x==x)=true:=beq_iff_eq.mpr rfl
      refine ⟨q,by simp only [List.lookup,hb],?_⟩
      by_cases hc:(q==NameKind.free&&env.scope.kind==.function&&env.kindOf x==some .cell)=true
      · rw [List.map_cons] at h
        simp only [hc,if_true,List.lookup,hb] at h
        simp only [Bool.and_eq_true] at hc
        exact .inr ⟨by simpa using hc.1.1,(Option.some.inj h).symm⟩
      · rw [List.map_cons] at h
        simp only [hc,List.lookup,hb] at h
        exact .inl (by simpa using h.symm)
    · have hb:(x==n)=false:=beq_eq_false_iff_ne.mpr hx
      have h':(r.map fun (n,k)=>if (k==NameKind.free&&env.scope.kind==.function&&env.kindOf n==some .cell) then (n,NameKind.cell) else (n,k)).lookup x=some k:=by
        rw [List.map_cons] at h
        by_cases hc:(q==NameKind.free&&env.scope.kind==.function&&env.kindOf n==some .cell)=true
        · simp only [hc,if_true,List.lookup,hb] at h
          exact h
        · have h2:List.lookup x ((if (q==NameKind.free&&env.scope.kind==.function&&env.kindOf n==some .cell)=true then (n,NameKind.cell) else (n,q))::(r.map fun (n,k)=>if (k==NameKind.free&&env.scope.kind==.function&&env.kindOf n==some .cell) then (n,NameKind.cell) else (n,k)))=some k:=h
          rw [if_neg hc] at h2
          simp only [List.lookup,hb] at h2
          exact h2
      obtain ⟨k0,e,d⟩:=aeh h'
      exact ⟨k0,by simp only [List.lookup,hb]; exact e,d⟩
theorem aba {env:Env}:∀ {names:List (Str×NameKind)} {x:Str},names.lookup x=some .free →
    (names.map fun (n,k)=>if (k==NameKind.free&&env.scope.kind==.function&&env.kindOf n==some .cell) then (n,NameKind.cell) else (n,k)).lookup x=some .free ∨
    (names.map fun (n,k)=>if (k==NameKind.free&&env.scope.kind==.function&&env.kindOf n==some .cell) then (n,NameKind.cell) else (n,k)).lookup x=some .cell
  | [],x,h=>by simp at h
  | (n,q)::r,x,h=>by
    by_cases hx:x=n
    · subst hx
      have hb:(x==x)=true:=beq_iff_eq.mpr rfl
      simp only [List.lookup,hb] at h
      have hq:q=.free:=Option.some.inj h
      subst hq
      by_cases hc:(NameKind.free==NameKind.free&&env.scope.kind==.function&&env.kindOf x==some .cell)=true
      · right
        rw [List.map_cons]
        simp only [hc,if_true,List.lookup,hb]
      · left
        show List.lookup x ((if (NameKind.free==NameKind.free&&env.scope.kind==.function&&env.kindOf x==some .cell)=true then (x,NameKind.cell) else (x,NameKind.free))::_)=some NameKind.free
        rw [if_neg hc]
        simp only [List.lookup,hb]
    · have hb:(x==n)=false:=beq_eq_false_iff_ne.mpr hx
      simp only [List.lookup,hb] at h
      rw [List.map_cons]
      by_cases hc:(q==NameKind.free&&env.scope.kind==.function&&env.kindOf n==some .cell)=true
      · simp only [hc,if_true,List.lookup,hb]
        exact aba h
      · simp only [hc,List.lookup,hb]
        simpa [List.lookup,hb] using aba (env:=env) h
noncomputable def cxC (X:Cx) (N:List Str) (scope:Scope) (fr:List Str) (fp:List Addr) (s:Shared) (H:Hp):Cx where
  prog:=X.prog
  w:=X.w
  K:=X.K
  mg:=X.mg
  base:=X.base
  A:=X.A
  N:=N
  s₀:=s
  H₀:=H
  env:=compEnvC scope (aal X.env fr) s.heap.objs.size X.env
  outer:=X.stack
  stack:=X.stack
  ex:=fp
  fn:=fun _=>false
  calm:=X.calm
  pn:=[]
  xe:=fun _ _=>False
section
variable {X:Cx} {pins:List (Addr×Obj)} {σ:L2.St} {H:Hp} {s:Shared} {scope:Scope} {fr N:List Str} {src:List (Option Nat)} {fp:List Addr}
theorem azb (I:Inv X pins σ H s) (C:CompOk X.env X.N scope fr N src) (hkind:scope.kind=.function) (hf:∀ b∈fp,FpOk X pins H b) (hl:∀ b∈fp,b < s.heap.objs.size):(cxC X N scope fr fp s H).Ok where
  mod:=I.ok.mod
  kind:=hkind
  glob:=I.ok.glob
  blt:=I.ok.blt
  above:=Nat.le_refl _
  inj:=fun x y c h1 h2=>I.ok.inj x y c (vd h1) (vd h2)
  has:=fun x hx=>by
    have mem:∀ k,(k=NameKind.cell∨k=NameKind.free)→(cxC X N scope fr fp s H).env.kindOf x=some k→x∈fr:=fun k hk e=>by
      obtain ⟨k0,e0,d⟩:=aeh (env:=X.env) (names:=scope.names) e
      have hm:=PySem.mem_of_lookup e0
      rcases d with rfl | ⟨rfl,_⟩
      · rcases hk with rfl | rfl
        · exact absurd rfl (C.cell _ hm)
        · exact C.free _ hm rfl
      · exact C.free _ hm rfl
    have hm:x∈fr:=by
      rcases hx with e | e
      · exact mem _ (.inl rfl) e
      · exact mem _ (.inr rfl) e
    obtain ⟨c,hc⟩:=I.ok.has x (C.out x hm)
    exact ⟨c,ab0 hm hc⟩
  cab:=fun _ _ h _=>absurd h Bool.false_ne_true
  hd:=I.ok.hd
  frames:=I.ok.frames
  stk:=.inl rfl
  exf:=fun b hb=>⟨Nat.ne_of_lt (hl b hb),fun x c e=>(hf b hb).2.2.2.2.1 x c (vd e)⟩
  bs:=I.bs
  bsz:=Nat.le_trans I.ok.bsz I.sz
  noex:=fun b o e hb=>by
    rcases (hf b hb).2.2.2.1 with z | z
    · exact I.ok.noex b o e z
    · exact absurd (Nat.lt_of_lt_of_le (Heap.lt_size e) (Nat.le_trans I.ok.bsz z)) (Nat.lt_irrefl _)
  exfs:=fun b hb z=>by
    rcases List.mem_cons.mp (I.stkSub b z) with e | e
    · exact (hf b hb).2.1 e
    · exact (hf b hb).2.2.1 e
  funs:=I.stack
  frf:=I.stkFree
theorem al4 (I:Inv X pins σ H s) (C:CompOk X.env X.N scope fr N src) (hkind:scope.kind=.function) (hf:∀ b∈fp,FpOk X pins H b) (hl:∀ b∈fp,b < s.heap.objs.size) {h':Heap} {tk:Nat} {m:Str→Option Value}
    (hns:h'.Ns s.heap.objs.size m) (hk:∀ b o,s.heap.get? b=some o→h'.get? b=some o):Inv (cxC X N scope fr fp s H) [] (pick src σ) H { s with heap:=h',toks:=tk } where
  ok:=azb I C hkind hf hl
  os:=rfl
  bare:=I.bare
  base:=Un.kept hk
  loc:=by
    refine ⟨m,hns,fun i x v h1 h2 h3 => ?_⟩
    obtain ⟨j,hj,hv⟩:=aq8 h2
    obtain ⟨hN,hm⟩:=ae5 C.src h1 hj
    obtain ⟨mo,_,hlo⟩:=I.loc
    have vis:Vis X.env.scope x:=by
      rcases C.out x hm with e | e
      · exact .inr (.inl e)
      · exact .inr (.inr e)
    obtain ⟨u,r,l⟩:=hlo j x v hN hv vis
    refine ⟨u,r,.inr ⟨?_,?_⟩⟩
    · rcases aba (env:=X.env) (C.frk x hm) with e | e
      · exact .inr e
      · exact .inl e
    · rcases l with ⟨e,_⟩ | ⟨_,c,hc,z⟩
      · rcases C.out x hm with q | q
        · rw [q] at e; cases e
        · rw [q] at e; cases e
      · obtain ⟨o,ho,hd⟩:=z
        exact ⟨c,ab0 hm hc,o,hk c o ho,hd⟩
  cell:=fun x c e=>by
    obtain ⟨v,o,ho,hd⟩:=I.cell x c (vd e)
    exact ⟨v,o,hk c o ho,hd⟩
  free:=I.hok.fresh (Nat.le_refl _)
  freeC:=fun x c e=>I.freeC x c (vd e)
  pin:=fun p hp=>absurd (show p∈([]:List (Addr×Obj)) from hp) (by simp)
  hok:=I.hok.kept hk
  len:=by
    unfold pick
    rw [List.length_map]
    exact ae4 C.src
theorem al5 {pins':List (Addr×Obj)} {σ':L2.St} {H':Hp} {s':Shared} {h'':Heap} (I:Inv X pins σ H s) (hf:∀ b∈fp,FpOk X pins H b) (J:Inv (cxC X N scope fr fp s H) pins' σ' H' s')
    (hs:Heap.SameBut s.heap.objs.size s'.heap h''):Inv X pins σ H' { s' with heap:=h'' }:=by
  have k:∀ b o,b≠s.heap.objs.size→s'.heap.get? b=some o→h''.get? b=some o:=fun b o hb e=>(hs.2 b hb).trans e
  have old:∀ b o,s.heap.get? b=some o→b≠s.heap.objs.size:=fun b o e=>Nat.ne_of_lt (Heap.lt_size e)
  have un:Un (frs X.stack) fp H H' s.heap h'':=by
    have u:Un (frs X.stack) fp H H' s.heap s'.heap:=J.base
    refine ⟨fun b o e n hb hx=>k b o (old b o e) (u.keep b o e n hb hx),fun b o e n hb hx => ?_,u.free,fun b o e hx => ?_,u.tups,u.frzs,u.tbls⟩
    · obtain ⟨sl,q⟩:=u.slot b o e n hb hx
      exact ⟨sl,k b _ (old b o e) q⟩
    · obtain ⟨o',q⟩:=u.there b o e hx
      exact ⟨o',k b _ (old b o e) q⟩
  have hok:HOk X.prog X.w H' h'':=fun b u e=>by
    have nC:∀ c z,H' c=some z→c≠s.heap.objs.size:=fun c z q w=>by
      have f:H' s.heap.objs.size=none:=J.free
      rw [w,f] at q
      cases q
    refine (J.hok b u e).stay (fun c v hc q=>k c v ?_ q) (fun _ q=>q) fun _ _ q=>q
    rcases hc with z | z
    · rw [z]; exact nC b u e
    · exact nC c _ z
  have os:s'.os=s.os:=J.os
  refine Inv.call' (s':={ s' with heap:=h'' }) I os un hok J.bare fun b hb => ?_
  obtain ⟨_,f1,_,f3,f4,f5⟩:=hf b hb
  exact ⟨f3,f1,f4,f5⟩
end
noncomputable def aj7 (ifs:List Expr) (env:Env):Sem Bool:=forIn ifs true fun c r=>if r=true then do let ok ←isTrue c env (eval c env); pure (ForInStep.yield ok) else pure (ForInStep.yield r)
noncomputable def PIf (X:Cx) (ifs:List Expr) (t:TT):Prop :=
  ∀ (pins:List (Addr×Obj)) (s:Shared) (σ:L2.St) (H:Hp) (Q:Bool→Hp→Prop),Inv X pins σ H s→t σ H Q→wpAny (model X.prog X.w) X.A (aj7 ifs X.env) (TP X pins σ Q) X.xe s
noncomputable def tYes:TT:=fun _ H Q=>Q true H
theorem auf {X:Cx}:PIf X [] tYes:=fun pins s σ H Q I h=>by
  show wpAny _ _ (pure true) _ _ s
  exact wpAny_pure ⟨H,I,h⟩
theorem aue {X:Cx} {c:Expr} {t:TT} (hc:PT X c t):PIf X [c] t:=fun pins s σ H Q I h=>by
  unfold aj7
  rw [List.forIn_cons]
  rw [if_pos rfl]
  refine wpAny_bind (wpAny_bind (thn (hc pins s σ H _ I h) fun b s1 q=>wpAny_pure ?_))
  show wpAny _ _ (forIn [] b _) _ _ s1
  exact wpAny_pure q
section
variable {prog:Program} {w:World} {A:Around} {R:Result→Shared→Prop} {s:Shared}
theorem compLoop {elt target iter:Expr} {ifs:List Expr} {scope:Scope} {pos:Pos} {it acc:Value} {env:Env} (I:Nat→Shared→Prop)
    (turn:∀ n s,I n s→wpAny (model prog w) A (pyNext it) (fun r s₁=>match r with
      | none=>R (.ok .next) s₁
      | some v=>wpAny (model prog w) A (letOwnedTupleGo target it v) (fun _ s₁'=>wpAny (model prog w) A (assign target env v) (fun _ s₂ =>
          wpAny (model prog w) A (aj7 ifs env) (fun ok s₃ =>
            if ok=true then wpAny (model prog w) A (eval elt env) (fun x s₄ =>
              wpAny (model prog w) A (call (.builtin "list.append") [acc,x]) (fun _ s₅=>∃ m,m < n∧I m s₅) (fun _ _=>False) s₄) (fun _ _=>False) s₃
            else ∃ m,m < n∧I m s₃) (fun _ _=>False) s₂) (fun _ _=>False) s₁') (fun _ _=>False) s₁) (fun _ _=>False) s)
    (n:Nat) (h:I n s) :
    codeAny (model prog w) A (.compLoop (.ListComp elt [⟨target,iter,ifs,0⟩] scope pos) 0 it acc env) R s:=by
  refine codeAny_loop rfl I (fun n s hI => ?_) n h
  show wpAny _ A ((compTurn (.ListComp elt [⟨target,iter,ifs,0⟩] scope pos) 0 it acc env).onRaise (fun x=>do noteFrame x env; theTreesLotGoes x)) _ _ s
  refine wpAny_noted ?_
  rw [compTurn_list]
  refine wpAny_bind (wpAny_standAt (wpAny_bind (wpAny_mono (turn n s hI) (fun r s₁ h₁ => ?_) fun _ _ h'=>h'.elim)))
  cases r with
  | none=>exact wpAny_pure h₁
  | some v =>
    refine wpAny_bind (wpAny_mono h₁ (fun _ s₁' h₁' => ?_) fun _ _ h'=>h'.elim)
    refine wpAny_bind (wpAny_mono h₁' (fun _ s₂ h₂=>wpAny_bind (wpAny_mono h₂ (fun ok s₃ h₃ => ?_) fun _ _ h'=>h'.elim)) fun _ _ h'=>h'.elim)
    cases ok with
    | false=>exact wpAny_pure ⟨rfl,h₃⟩
    | true =>
      exact wpAny_bind (wpAny_bind (wpAny_mono h₃ (fun x s₄ h₄=>wpAny_bind (wpAny_mono h₄ (fun _ s₅ h₅=>wpAny_pure (wpAny_pure ⟨rfl,h₅⟩)) fun _ _ h'=>h'.elim)) fun _ _ h'=>h'.elim))
end
noncomputable def azs (J:It) (g:TG) (ti:TT) (te:TE) (Q:VK) (d:Addr) (σ0:L2.St) (H1:Hp):Prop :=
  ∃ W:Nat→Nat→List V→L2.St→Hp→Prop,(∃ m,W 0 m [] σ0 (upd H1 d (.lst [])))∧∀ i m ys σ H2,W i m ys σ H2→H2 d=some (.lst ys) ∧
    ((J.stop i H2∧Q (.ref d) H2)∨(J.go i H2∧∀ x H3,J.yld i H2 x H3→g x σ H3 fun σ4 H4=>ti σ4 H4 fun b H5 =>
      if b=true then te σ4 H5 fun y H6=>H6 d=some (.lst ys)∧ys.length < sizeLine∧∃ m',m' < m∧W (i+1) m' (ys++[y]) σ4 (upd H6 d (.lst (ys++[y]))) else ∃ m',m' < m∧W (i+1) m' ys σ4 H5))
noncomputable def atz (wi:TI) (g:TG) (ti:TT) (te:TE) (src:List (Option Nat)):TE:=fun σ H Q=>wi σ H fun J H1=>∀ d,H1 d=none→azs J g ti te Q d (pick src σ) H1
theorem ajn {X:Cx} {tg iter elt:Expr} {ifs:List Expr} {scope:Scope} {pos:Pos} {J:It} {fp:List Addr} {it d:Addr} {tn:Nat→Heap→Prop} {g:TG} {ti:TT} {te:TE} {Q:VK} {R:Result→Shared→Prop}
    {W:Nat→Nat→List V→L2.St→Hp→Prop} {m0:Nat} {σ0:L2.St} {H0:Hp} {s:Shared} (hc:X.calm=true) (hE:X.xe=fun _ _=>False) (T:Turn X.prog X.w X.K tg J fp it tn)
    (hf:∀ H':Hp,(∀ b∈fp,H' b=none)→∀ b∈fp,FpOk X [] H' b) (hg:PG X tg g) (ht:PIf X ifs ti) (he:PE X elt te)
    (turn:∀ i m ys σ H2,W i m ys σ H2→H2 d=some (.lst ys) ∧
      ((J.stop i H2∧Q (.ref d) H2)∨(J.go i H2∧∀ x H3,J.yld i H2 x H3→g x σ H3 fun σ4 H4=>ti σ4 H4 fun b H5 =>
        if b=true then te σ4 H5 fun y H6=>H6 d=some (.lst ys)∧ys.length < sizeLine∧∃ m',m' < m∧W (i+1) m' (ys++[y]) σ4 (upd H6 d (.lst (ys++[y]))) else ∃ m',m' < m∧W (i+1) m' ys σ4 H5)))
    (w0:W 0 m0 [] σ0 H0) (I0:Inv X [] σ0 H0 s) (st0:tn 0 s.heap) (fr0:∀ b∈fp,H0 b=none)
    (hR:∀ σ' H' s',Inv X [] σ' H' s'→Q (.ref d) H'→R (.ok .next) s') :
    codeAny (model X.prog X.w) X.A (.compLoop (.ListComp elt [⟨tg,iter,ifs,0⟩] scope pos) 0 (.ref it) (.ref d) X.env) R s:=by
  have hE':∀ e s',X.xe e s'→False:=fun e s' h=>by rw [hE] at h; exact h
  refine compLoop (fun n s'=>∃ i ys σ' H',Inv X [] σ' H' s'∧tn i s'.heap∧(∀ b∈fp,H' b=none)∧W i n ys σ' H') ?_ m0 ⟨0,[],σ0,H0,I0,st0,fr0,w0⟩
  rintro n s5 ⟨i,ys,σ5,H5,I5,st5,fr5,w5⟩
  obtain ⟨hD,alt⟩:=turn i n ys σ5 H5 w5
  rcases alt with ⟨stop,qn⟩ | ⟨go,step⟩
  · refine wpAny_mono (T.done X rfl rfl rfl hc i [] s5 σ5 H5 (fun _ _=>False) I5 (hf _ fr5) st5 stop) (fun r s6 ⟨hr,I6⟩ => ?_) fun _ _ e=>e
    subst hr
    exact hR σ5 H5 s6 I6 qn
  · refine wpAny_mono (T.item X rfl rfl rfl hc i [] s5 σ5 H5 (fun _ _=>False) I5 (hf _ fr5) st5 go) (fun r s6 ⟨u,hr,h6⟩ => ?_) fun _ _ e=>e
    subst hr
    refine wpAny_mono h6 (fun _ s7 ⟨x,H7,I7,r7,y7,st7,fr7⟩ => ?_) fun _ _ e=>e
    have I7':=I7.pinned (hf _ fr7) (T.obj _ _ st7)
    have again:∀ {σ':L2.St} {H':Hp} {s':Shared} {ys':List V} {m':Nat},Inv X ([]++air fp s7.heap) σ' H' s'→W (i+1) m' ys' σ' H'→∃ i ys σ' H',Inv X [] σ' H' s'∧tn i s'.heap∧(∀ b∈fp,H' b=none)∧W i m' ys σ' H':=fun {σ' H' s' ys' m'} Ia wa=>by
      refine ⟨i+1,ys',σ',H',Ia.unpinned,T.keep _ _ _ st7 fun b hb o e=>(Ia.pin (b,o) (List.mem_append_right _ (List.mem_append_right _ (abw hb e)))).1,fun b hb => ?_,wa⟩
      obtain ⟨o,e,d⟩:=T.obj _ _ st7 b hb
      exact (Ia.pin (b,o) (List.mem_append_right _ (List.mem_append_right _ (abw hb e)))).2.1
    refine wpAny_mono (hg _ s7 σ5 H7 x u _ I7' r7 (step x H7 y7)) (fun _ s8 ⟨σ8,H8,I8,q8⟩ => ?_) hE'
    refine wpAny_mono (ht _ s8 σ8 H8 _ I8 q8) (fun ok s9 ⟨H9,I9,q9⟩ => ?_) hE'
    cases ok with
    | false =>
      rw [if_neg Bool.false_ne_true] at q9 ⊢
      obtain ⟨m',hm,wa⟩:=q9
      exact ⟨m',hm,again I9 wa⟩
    | true =>
      rw [if_pos rfl] at q9 ⊢
      refine wpAny_mono (he _ s9 σ8 H9 _ I9 q9) (fun z s10 ⟨y,H10,I10,r10,hd10,hz,m',hm,wa⟩ => ?_) hE'
      refine wpAny_mono (abf _ s10 σ8 H10 (.ref d) [y] (.ref d) [z] (fun _ H'=>H'=upd H10 d (.lst (ys++[y]))) I10 rfl (.cons r10 .nil) ⟨d,ys,y,rfl,rfl,hd10,hz,rfl⟩) (fun _ s11 ⟨_,H11,I11,_,e11⟩ => ?_) hE'
      subst e11
      exact ⟨m',hm,again I11 wa⟩
theorem aun {X:Cx} {tg iter elt:Expr} {ifs:List Expr} {scope:Scope} {pos:Pos} {wi:TI} {g:TG} {ti:TT} {te:TE} (fr N:List Str) (src:List (Option Nat)) (hc:X.calm=true) (hi:PI X tg iter wi)
    (hg:∀ fp s H,PG (cxC X N scope fr fp s H) tg g) (ht:∀ fp s H,PIf (cxC X N scope fr fp s H) ifs ti) (he:∀ fp s H,PE (cxC X N scope fr fp s H) elt te)
    (hok:ag3 X.env X.N scope fr N src=true:=by rfl) (hkind:scope.kind=.function:=by rfl) (hclos:closureFor scope X.env=pure (aal X.env fr):=by rfl)
    (hs:∀ x,foldedSetIterable iter X.env x=pure x:=by intro _; rfl):PE X (.ListComp elt [⟨tg,iter,ifs,0⟩] scope pos) (atz wi g ti te src):=by
  have C:=CompOk.of hok
  intro pins s σ H Q I h
  rw [eval_ListComp]
  refine wpAny_comprehension_free (use:=none) rfl hs hclos hkind C.loc (wpAny_mono (hi pins s σ H _ I h) (fun v s1 h1=>wpAny_mono h1 (fun itv s2 h2 => ?_) fun _ _ e=>e) fun _ _ e=>e)
  obtain ⟨it,fp,tn,J,H2,e,I2,T,st2,f2,q2⟩:=h2
  subst e
  have hd0:H2 s2.heap.objs.size=none:=I2.hok.fresh (Nat.le_refl _)
  obtain ⟨W,⟨m0,w0⟩,turn⟩:=q2 s2.heap.objs.size hd0
  refine wpAny_newObj_type ?_
  generalize hs3:({ s2 with heap:=s2.heap.push { cls:=.type "list", dict:=none,data:=.seq ([]:List Value).toArray } }:Shared)=s3
  have keep2:∀ b o,s2.heap.get? b=some o→s3.heap.get? b=some o:=fun b o e=>by rw [←hs3]; exact Heap.get?_push_of_some _ e
  have I3:Inv X pins σ (upd H2 s2.heap.objs.size (.lst [])) s3:=by
    rw [←hs3]
    exact I2.laid (t':=s2.toks) (fun b u q=>Heap.get?_push_of_some _ q) (Nat.le_refl _) ⟨Nat.zero_le _,[],0,.nil,Heap.get?_push_size _ rfl⟩
  have ne0:∀ b∈fp,b≠s2.heap.objs.size:=fun b hb=>by
    obtain ⟨o,e,_⟩:=T.obj _ _ st2 b hb
    exact Nat.ne_of_lt (Heap.lt_size e)
  have f3:∀ b∈fp,FpOk X pins (upd H2 s2.heap.objs.size (.lst [])) b:=fun b hb=>⟨by rw [fc (ne0 b hb)]; exact (f2 b hb).1,(f2 b hb).2⟩
  have lt3:∀ b∈fp,b < s3.heap.objs.size:=fun b hb=>by
    obtain ⟨o,e,_⟩:=T.obj _ _ st2 b hb
    exact Heap.lt_size (keep2 b o e)
  refine wpAny_newFunctionEnv C.cell (by intro y hy; simp at hy) (fun h₁ hns₁ hsb₁ => ?_) hkind
  have keep3:∀ b o,s3.heap.get? b=some o→h₁.get? b=some o:=fun b o e=>hsb₁.extBut b o (Nat.ne_of_lt (Heap.lt_size e)) (Heap.get?_push_of_some _ e)
  have st4:tn 0 h₁:=T.keep _ _ _ st2 fun b hb o e=>keep3 b o (keep2 b o e)
  have I4:=al4 (tk:=s3.toks+([]:List (Str×Value)).length) I3 C hkind f3 lt3 hns₁ keep3
  have loop:=ajn (X:=cxC X N scope fr fp s3 (upd H2 s2.heap.objs.size (.lst []))) (iter:=iter) (scope:=scope) (pos:=pos) (d:=s2.heap.objs.size)
    (R:=compPost (model X.prog X.w) X.A X.xe none (EP X pins σ Q) (.ref s2.heap.objs.size) s3.heap.objs.size) hc rfl T
    (fun H' hn b hb=>⟨hn b hb,Nat.ne_of_lt (lt3 b hb),I4.ok.exfs b hb,.inl hb,(I4.ok.exf b hb).2,fun p hp=>absurd (show p∈([]:List (Addr×Obj)) from hp) (by simp)⟩)
    (hg fp s3 _) (ht fp s3 _) (he fp s3 _) turn w0 I4 st4 (fun b hb=>(f3 b hb).1) (fun σ' H' s' I6 qn=>by
      obtain ⟨m6,hn6,_⟩:=I6.loc
      exact ⟨m6,hn6,fun h'' hs''=>⟨.ref s2.heap.objs.size,H',al5 I3 f3 I6 hs'',rfl,qn⟩⟩)
  exact codeAny_compStart_list loop (T.self _ 0 _ _ _ st4 loop)
noncomputable def Keep (ws:List Addr) (H H':Hp):Prop:=∀ b o,H b=some o→b∉ws→H' b=some o
theorem Keep.of {ws:List Addr} {H H':Hp} (h:Same H H'):Keep ws H H':=fun b o e _=>h b o e
theorem Keep.same {H H':Hp} (h:Keep [] H H'):Same H H':=fun b o e=>h b o e (by simp)
theorem Keep.trans {ws:List Addr} {H H1 H2:Hp} (a:Keep ws H H1) (b:Keep ws H1 H2):Keep ws H H2:=fun c o e n=>b c o (a c o e n) n
theorem Keep.refl (ws:List Addr) (H:Hp):Keep ws H H:=fun _ _ e _=>e
theorem Same.new {H:Hp} {p:Addr} (h:H p=none) (o:HO):Same H (upd H p o):=fun b u q=>by rw [fc (jz q h)]; exact q
theorem Keep.put {H:Hp} {p:Addr} (o:HO):Keep [p] H (upd H p o):=fun b u q n=>by rw [fc (fun e=>n (by simp [e]))]; exact q
theorem Keep.new {ws:List Addr} {H H1:Hp} {p:Addr} (g:Keep ws H H1) (h:H p=none) (o:HO):Keep ws H (upd H1 p o):=fun b u q n=>by rw [fc (jz q h)]; exact g b u q n
theorem Keep.free {ws:List Addr} {H H':Hp} (e:Keep ws H H') {l:Addr} (h:H' l=none) (n:l∉ws):H l=none:=by
  cases q:H l with
  | none=>rfl
  | some o =>
    rw [e l o q n] at h
    cases h
theorem Same.tup {K:PySem.W.Frag} {H H':Hp} {a:Addr} {xs:List V} (e:Same H H') (h:SqT K H a xs):SqT K H' a xs:=by
  rcases h with (h | ⟨o,h⟩) | h
  · exact .inl (.inl (e _ _ h))
  · exact .inl (.inr ⟨o,e _ _ h⟩)
  · exact .inr h
structure ItOf (J:It) (xs:List V) (S:Hp→Prop):Prop where
  go:∀ i H,S H→i < xs.length→J.go i H
  yld:∀ i H x H',S H→J.yld i H x H'→H'=H∧(i < xs.length→xs[i]? = some x)
  stop:∀ i H,S H→xs.length≤i→J.stop i H
theorem ar0 {K:PySem.W.Frag} {a:Addr} {xs:List V}:ItOf (Itt K a) xs fun H=>SqT K H a xs :=
  ⟨fun i H h hi=>⟨xs,xs[i],h,by simp [hi]⟩,fun i H x H' h y=>⟨y.1,fun _=>y.2 xs h⟩,fun i H h hi=>⟨xs,h,hi⟩⟩
theorem al2 {K:PySem.W.Frag} {a:Addr} {xs:List V}:ItOf (Itl K a) xs fun H=>SqL K H a xs :=
  ⟨fun i H h hi=>⟨xs,xs[i],h,by simp [hi]⟩,fun i H x H' h y=>⟨y.1,fun _=>y.2 xs h⟩,fun i H h hi=>⟨xs,h,hi⟩⟩
noncomputable def ups (lo:Int) (n:Nat):List V:=(List.range n).map fun i=>V.int (lo+(i:Nat))
theorem ag7 (lo:Int) (n:Nat):(ups lo n).length=n:=by simp [ups]
theorem atq {lo:Int} {n i:Nat} (h:i < n):(ups lo n)[i]? = some (.int (lo+(i:Nat))):=by
  unfold ups
  rw [List.getElem?_map,List.getElem?_range h]
  rfl
theorem ar3 {lo:Int} {n:Nat}:ItOf (Itr lo n) (ups lo n) fun _=>True :=
  ⟨fun i H _ hi=>by rw [ag7] at hi; exact hi,fun i H x H' _ y=>⟨y.1,fun hi=>by rw [ag7] at hi; rw [atq hi,y.2]⟩,fun i H _ hi=>by rw [ag7] at hi; exact hi⟩
section
variable {X:Cx}
noncomputable def rAll (K:PySem.W.Frag):List V→Hp→VK→Prop:=fun xs H Q=>∃ (p:Addr) (bs:List Bool),xs=[.ref p]∧SqL K H p (bs.map V.bl)∧Q (.bl (bs.all id)) H
theorem asu (hc:X.calm=true):aam X (.builtin "all") (rAll X.K):=by
  intro pins s σ H xs us Q I r h
  obtain ⟨p,bs,rfl,hq,q⟩:=h
  obtain ⟨u,rfl,ru⟩:=vals1 r
  cases ru
  obtain ⟨its,rv,pl,hz⟩:=I.list hq
  have hl:=pl.isList
  have hlen:=rv.length
  rw [List.length_map] at hlen
  have hlt:p < s.heap.objs.size:=by obtain ⟨_,e,_⟩:=hl; exact Heap.lt_size e
  refine call_all_walk (wpAny_pyIter_list hl ?_)
  refine ⟨s.heap.objs.size,[s.heap.objs.size,p],[s.heap.objs.size],its.toArray.size,_,_,fun i=>(bs[i]?).getD true,rfl,Walks.list (A:=X.A.in1) (I.ok.hd hc) _ p (Nat.ne_of_lt hlt) its.toArray,
    ⟨⟨_,Heap.get?_push_size _ rfl,rfl,rfl⟩,hl.push _⟩,fun i v s' Q' E' hP hQ => ?_,fun h' tk hk => ?_⟩
  · have hi:its[i]? = some v:=by simpa using hP
    cases e:bs[i]? with
    | none =>
      have h1:bs.length≤i:=List.getElem?_eq_none_iff.mp e
      have h2:i < its.length:=(List.getElem?_eq_some_iff.mp hi).1
      omega
    | some b =>
      obtain ⟨u,hu,ru⟩:=rv.get (i:=i) (x:=V.bl b) (by rw [List.getElem?_map,e]; rfl)
      rw [hi] at hu
      cases hu
      obtain rfl:v=Value.bool b:=ru
      simp only [e,Option.getD_some] at hQ
      exact wpAny_truthy_bool hQ
  · have e:((List.range its.toArray.size).all fun i=>(bs[i]?).getD true)=bs.all id:=by
      rw [List.size_toArray,←hlen]; exact LSm.range_all bs
    rw [e]
    exact ⟨.bl (bs.all id),H,I.kept (t':=tk) (LSm.kept_iter hk),rfl,q⟩
end
end Mn
namespace Mn
open PySem PySem.Spec PyProof.Rows L2
noncomputable def Dfn (P:Program) (w:World) (K:PySem.W.Frag) (mg:Str→Option Value) (base:Heap) (x:Str) (ps:List Str) (k:Nat) (sp:Sp):Prop :=
  ∃ (f:Addr) (fd:FuncData),FnOk P w K mg base CX0 k f fd ps sp∧mg x=some (.ref f)∧PySem.W.keepIn K (.ref f)=true∧Binds K fd ps []
section
variable {X:Cx} {x:Str} {ps:List Str} {k:Nat} {sp:Sp} {e:Expr} {es:List Expr} {t:TA} {p pos:Pos}
theorem a1m (F:Dfn X.prog X.w X.K X.mg X.base x ps k sp) (hr:Room k X.A) (hg:Gl X x) (ha:PA X (e::es) t) (hdb:(x==("__debug__" : Str))=false:=by decide)
    (he:starEach (e::es) X.env=(false,eval e X.env)::starEach es X.env:=by rfl) (hpl:(backTo pos (starEach es X.env)).any (·.1)=false:=by rfl):PE X (.Call (.Name x p) (e::es) [] pos) (awv sp [] E0 t):=by
  obtain ⟨f,fd,F,hm,hk,hb⟩:=F
  exact aup F hr hg hm hk hb .nil a1p ha hdb he hpl
theorem a1l {n:Int} (hg:Gl X x) (hm:∃ t,X.mg x=some (.int n t)) (hd:(x==("__debug__" : Str))=false:=by decide):PE X (.Name x pos) (tC (.int n)):=by
  obtain ⟨t,hm⟩:=hm
  exact aum hg hm ⟨t,rfl⟩ hd
theorem akf {T:String} (hg:Gl X x) (hm:X.mg x=none) (hv:bootBuiltins x=some (.type T)) (hn:x ≠ "__name__" := by decide) (hd:(x==("__debug__" : Str))=false:=by decide):PE X (.Name x pos) (tC (.ty T)) :=
  auq hg hm hv rfl hn hd
end
section
variable {X:Cx}
end
section
variable {prog:Program} {w:World} {A:Around} {E:Value→Shared→Prop} {s:Shared}
theorem asr {t b:Addr} {vs ws:List Value} {Q:Value→Shared→Prop} (ht:IsTup s.heap t vs.toArray) (hb:IsTup s.heap b ws.toArray) (hv:vs=[]) (h:Q (.ref b) s):wpAny (model prog w) A (binaryOp .Add (.ref t) (.ref b)) Q E s:=by
  obtain ⟨⟨cls,dd,data,sl⟩,ho,hc,n,hd⟩:=id ht
  obtain ⟨⟨cls2,dd2,data2,sl2⟩,ho2,hc2,n2,hd2⟩:=id hb
  simp only at hc hd hc2 hd2
  subst hc hd hc2 hd2
  exact concat_meets ⟨_,ho,rfl⟩ ⟨_,ho2,rfl⟩ noFill_tuple_add seq_tuple_add PySem.F.slot_tuple_add PySem.F.entry_tuple_add (PySem.F.args_tuple_add_2 _ _)
    (tuple_addW0 t b vs.toArray ws.toArray n n2 dd dd2 sl sl2 (by simp [hv])) ⟨ho,ho2,h⟩
end
section
variable {X:Cx}
end
section
variable {X:Cx}
end
theorem aa3:fillsNumberSlot (.type "tuple") "mul" = pure false :=
  PySem.fillsNumberSlot_seq (id := "tuple.__mul__") (r:=some (.builtin "tuple.__rmul__")) F.slot_tuple_mul.lookup (by decide +kernel) F.slot_tuple_rmul.lookup (by decide +kernel)
theorem aeg:seqRepeat? (.type "tuple")=pure (some (.builtin "tuple.__mul__")):=by
  unfold seqRepeat?
  rw [PySem.seqSlot_of (T := "tuple") (name := "__mul__") (id := "tuple.__mul__") F.slot_tuple_mul.lookup (by decide +kernel),PySem.seqSlot_of (T := "tuple") (name := "__rmul__") (id := "tuple.__rmul__") F.slot_tuple_rmul.lookup (by decide +kernel)]
  rfl
theorem acb (a:Int) (t:Tok) (l:Addr) (items:Array Value) (n:Nat) (dd:Option Addr) (sl:Array (Option Value)) :
    Meets (Builtin.«int.__rmul__» ⟨[.int a t,.ref l],[]⟩) (fun _ R s=>s.heap.get? l=some { cls:=.type "tuple", dict:=dd,data:=.seq items n,slots:=sl }∧R (.ok (.ret Value.notImplemented)) s) :=
  .of_wp fun prog w A R s h=>by obtain ⟨hp,g,d,tk,os⟩:=s; obtain ⟨hl,h⟩:=h; wp_walk; exact ⟨_,rfl,h⟩
theorem ams (l:Addr) (items:Array Value) (n:Nat) (dd:Option Addr) (sl:Array (Option Value)) (x:Int) (u:Tok) (h0:items.isEmpty=false) (h2:2≤x) (h63:x < 2 ^ 63) (hsz:items.size*x.toNat≤sizeLine) :
    Meets (Builtin.«tuple.__mul__» ⟨[.ref l,.int x u],[]⟩) (fun _ R s=>s.heap.get? l=some { cls:=.type "tuple", dict:=dd,data:=.seq items n,slots:=sl } ∧
      R (.ok (.ret (Value.ref s.heap.objs.size))) { s with heap:=s.heap.push { cls:=Value.type "tuple", data:=Data.seq (List.foldl (fun x1 x2=>x1++x2) #[] (List.replicate x.toNat items)) },toks:=s.toks }) :=
  .of_wp fun prog w A R s h=>by
    obtain ⟨hp,g,d,tk,os⟩:=s
    obtain ⟨hl,h⟩:=h
    have c1:(decide (x < -2 ^ 63)||decide (x≥2 ^ 63))=false:=by
      rw [Bool.or_eq_false_iff]
      exact ⟨decide_eq_false (by omega),decide_eq_false (by omega)⟩
    have c2:(items.isEmpty||x==1)=false:=by
      rw [h0,Bool.false_or,beq_eq_false_iff_ne]
      omega
    have c3:(decide (x≤0)||items.isEmpty)=false:=by
      rw [h0,Bool.or_false]
      exact decide_eq_false (by omega)
    have e4:((items.size:Int)*x)=((items.size*x.toNat:Nat):Int):=by
      have:x=(x.toNat:Int):=by omega
      rw [Int.natCast_mul,←this]
    have h4:(sizeLine:Int)≤(2 ^ 63 - 1) / 8:=by decide
    have c4:¬((items.size:Int)*x > (2 ^ 63 - 1) / 8):=by rw [e4]; omega
    have c5:Builtin.Tuple.tupleTooMany ((items.size:Int)*x)=false:=by
      unfold Builtin.Tuple.tupleTooMany
      rw [e4]
      exact decide_eq_false (by omega)
    wp_walk
    refine wpAny_ite_false (by rw [c1]; rfl) ?_
    wp_walk
    refine wpAny_ite_false (by rw [c2]; rfl) ?_
    try dsimp only
    refine wpAny_ite_false (by rw [c3]; rfl) ?_
    try dsimp only
    refine wpAny_ite_false (decide_eq_false c4) ?_
    try dsimp only
    refine wpAny_ite_false (by rw [c5]; rfl) ?_
    have hso:sizeOk (.seq (List.foldl (fun x1 x2=>x1++x2) #[] (List.replicate x.toNat items))):=by
      show (List.foldl (fun x1 x2=>x1++x2) #[] (List.replicate x.toNat items)).size≤sizeLine
      have hn:=foldl_rep items.toList x.toNat []
      rw [List.nil_append] at hn
      have hn':List.foldl (fun x1 x2=>x1++x2) #[] (List.replicate x.toNat items)=(List.replicate x.toNat items.toList).flatten.toArray:=hn
      rw [hn',List.size_toArray,len_rep,Array.length_toList,Nat.mul_comm]
      exact hsz
    refine wpAny_bind (m:=Builtin.Tuple.tupleExact _) (wpAny_newObj_type (wpAny_pure ⟨_,rfl,h⟩) hso)
theorem amt (l:Addr) (items:Array Value) (n:Nat) (dd:Option Addr) (sl:Array (Option Value)) (x:Int) (u:Tok) (hx:x=1) :
    Meets (Builtin.«tuple.__mul__» ⟨[.ref l,.int x u],[]⟩) (fun _ R s=>s.heap.get? l=some { cls:=.type "tuple", dict:=dd,data:=.seq items n,slots:=sl }∧R (.ok (.ret (Value.ref l))) s) :=
  .of_wp fun prog w A R s h=>by
    obtain ⟨hp,g,d,tk,os⟩:=s
    obtain ⟨hl,h⟩:=h
    have c1:(decide (x < -2 ^ 63)||decide (x≥2 ^ 63))=false:=by
      rw [Bool.or_eq_false_iff]
      exact ⟨decide_eq_false (by omega),decide_eq_false (by omega)⟩
    have c2:(items.isEmpty||x==1)=true:=by rw [hx]; simp
    wp_walk
    exact ⟨_,rfl,h⟩
section
variable {X:Cx}
theorem auu:OpR X (binaryOp .Mult) (fun x y H Q=>∃ a xs,x=.ref a∧y=.int 1∧H a=some (.tup xs)∧Q (.ref a) H):=by
  intro pins s σ H x y v u Q I rx ry h
  obtain ⟨a,xs,rfl,rfl,ha,q⟩:=h
  cases rx
  obtain ⟨t,rfl⟩:=ry
  obtain ⟨its,r1,p1,_⟩:=I.tuple (SqT.of ha)
  obtain ⟨⟨cls,dd,data,sl⟩,ho,hc,n,hd⟩:=id p1
  simp only at hc hd
  subst hc hd
  exact wpAny_binaryOp_repeat_ref (T := "tuple") (U := "int") (by decide) ⟨_,ho,rfl⟩ (fun s'=>typeIs_int s' 1 t) aa3 F.fills_int_mul F.slot_int_rmul aeg F.slot_int_index.lookup
    (call_meets F.slot_int_rmul (typeIs_int s 1 t) F.entry_int_rmul (F.args_int_rmul_2 _ _) (acb 1 t a its.toArray n dd sl)
      ⟨ho,rfl,⟨_,ho,rfl⟩,call_meets F.slot_tuple_mul ⟨_,ho,rfl⟩ F.entry_tuple_mul (F.args_tuple_mul_2 _ _) (amt a its.toArray n dd sl 1 t rfl) ⟨ho,⟨.ref a,H,I,rfl,q⟩⟩⟩)
noncomputable def aw2:R2:=fun x y H Q=>∃ a xs k,x=.ref a∧y=.int k∧H a=some (.tup xs)∧xs≠[]∧2≤k∧k < 2 ^ 63∧xs.length*k.toNat≤sizeLine∧∀ p,H p=none→Q (.ref p) (upd H p (.tup (List.replicate k.toNat xs).flatten))
theorem ari:OpR X (binaryOp .Mult) aw2:=by
  intro pins s σ H x y v u Q I rx ry h
  obtain ⟨a,xs,k,rfl,rfl,ha,hx,h2,h63,hz,q⟩:=h
  cases rx
  obtain ⟨t,rfl⟩:=ry
  obtain ⟨its,r1,p1,_⟩:=I.tuple (SqT.of ha)
  obtain ⟨⟨cls,dd,data,sl⟩,ho,hc,n,hd⟩:=id p1
  simp only at hc hd
  subst hc hd
  have hnew:List.foldl (fun x1 x2=>x1++x2) #[] (List.replicate k.toNat its.toArray)=(List.replicate k.toNat its).flatten.toArray:=by
    have:=foldl_rep its k.toNat []
    rw [List.nil_append] at this
    exact this
  refine wpAny_binaryOp_repeat_ref (T := "tuple") (U := "int") (by decide) ⟨_,ho,rfl⟩ (fun s'=>typeIs_int s' k t) aa3 F.fills_int_mul F.slot_int_rmul aeg F.slot_int_index.lookup
    (call_meets F.slot_int_rmul (typeIs_int s k t) F.entry_int_rmul (F.args_int_rmul_2 _ _) (acb k t a its.toArray n dd sl)
      ⟨ho,rfl,⟨_,ho,rfl⟩,call_meets F.slot_tuple_mul ⟨_,ho,rfl⟩ F.entry_tuple_mul (F.args_tuple_mul_2 _ _) (ams a its.toArray n dd sl k t ?_ h2 h63 ?_) ⟨ho,?_⟩⟩)
  · cases its with
    | nil=>exact absurd (r1.nil_iff.mp rfl) hx
    | cons _ _=>rfl
  · rw [List.size_toArray,←r1.length]
    exact hz
  · rw [hnew]
    refine ⟨.ref s.heap.objs.size,_,I.laid (t':=s.toks) (o:=.tup (List.replicate k.toNat xs).flatten) (fun b ob q=>Heap.get?_push_of_some _ q) (Nat.le_refl _) ?_,rfl,q _ (I.hok.fresh (Nat.le_refl _))⟩
    exact ⟨by rw [len_rep,Nat.mul_comm]; exact hz,_,r1.rep k.toNat,IsTp.new _ _⟩
end
end Mn
namespace Mn
open PySem PySem.Spec PyProof.Rows L2
section
variable {prog:Program} {w:World} {A:Around} {E:Value→Shared→Prop} {s:Shared}
theorem acl {t sl:Addr} {items:Array Value} {vl vu:Value} {lo hi:Option Int} {Q:Value→Shared→Prop} (ht:IsTup s.heap t items) (hs:s.heap.IsSliceOf sl vl vu .none) (pl:IsPart vl lo) (pu:IsPart vu hi)
    (h1:HT.sIx items.size 0 lo=0) (h2:HT.sIx items.size items.size hi=items.size) (h:Q (.ref t) s):wpAny (model prog w) A (getItem (.ref t) (.ref sl)) Q E s:=by
  obtain ⟨os,hos,hcs,hds⟩:=id hs
  have hTs:s.TypeIs (.ref sl) "slice" := ⟨os,hos,hcs⟩
  unfold getItem
  try with_reducible refine wpAny_holding ?_
  first | refine wpAny_bind (wpAny_pure ?_) | skip
  refine wpAny_bind (wpAny_sequenceKey ht.typeIs (by decide) ?_)
  refine wpAny_bind (wpAny_callSpecial?_slot (name:=Str.ofString "__getitem__") ht.typeIs PyProof.Rows.slot_tuple_getitem
    (wpAny_call_entry PyProof.Rows.slot_tuple_getitem ht.typeIs entry_tuple_getitem ?_ (args_tuple_getitem _ _)))
  show wpAny _ _ (Builtin.Tuple.tupleItemsOf (.ref t) >>= _) _ _ s
  refine wpAny_bind (tupleItemsOf_ ht ?_)
  refine wpAny_bind (wpAny_typeOf hTs ?_)
  rw [if_pos (by decide)]
  refine wpAny_bind (HT.aa2 hs pl pu ?_)
  have hyes:(((HT.sIx items.size 0 lo:Nat):Int)==0&&(1:Int)==1&&(HT.sIx items.size items.size hi - HT.sIx items.size 0 lo)==items.size)=true:=by
    rw [h1,h2]
    simp
  show wpAny _ _ (if (((HT.sIx items.size 0 lo:Nat):Int)==0&&(1:Int)==1&&(HT.sIx items.size items.size hi - HT.sIx items.size 0 lo)==items.size)=true then _ else _) _ _ s
  rw [if_pos hyes]
  refine wpAny_bind (wpAny_bind (wpAny_typeOf ht.typeIs (wpAny_pure ?_)))
  rw [if_pos (by decide)]
  exact wpAny_bind (wpAny_rule (wpAny_pure ⟨_,rfl,wpAny_pure h⟩))
end
section
variable {X:Cx}
end
end Mn
namespace Mn
open PySem PySem.Spec PyProof.Rows L2
section
variable {X:Cx} (K:PySem.W.Frag) (hK:X.K=K)
include hK
variable {tg:Expr}
end
theorem gq:bootBuiltins "len" = some (.builtin "len"):=by decide +kernel
theorem ajv:bootBuiltins "all" = some (.builtin "all"):=by decide +kernel
theorem mq:bootBuiltins "isinstance" = some (.builtin "isinstance"):=by decide +kernel
theorem azi:bootBuiltins "max" = some (.builtin "max"):=by decide +kernel
theorem azh:bootBuiltins "min" = some (.builtin "min"):=by decide +kernel
theorem ap9:bootBuiltins "sorted" = some (.builtin "sorted"):=by decide +kernel
theorem aqb:bootBuiltins "divmod" = some (.builtin "divmod"):=by decide +kernel
theorem aqa:bootBuiltins "int" = some (.type "int"):=by decide +kernel
theorem aqc:bootBuiltins "bool" = some (.type "bool"):=by decide +kernel
theorem j8:bootBuiltins "tuple" = some (.type "tuple"):=by decide +kernel
theorem acr:bootBuiltins "list" = some (.type "list"):=by decide +kernel
theorem asw:bootBuiltins "range" = some (.type "range"):=by decide +kernel
theorem azg:bootBuiltins "set" = some (.type "set"):=by decide +kernel
theorem aju:bootBuiltins "enumerate" = some (.type "enumerate"):=by decide +kernel
end Mn
namespace Mn
open PySem PySem.Spec PyProof.Rows L2
structure ExcK (K:PySem.W.Frag) (C:Addr):Prop where
  ga:PySem.W.findIn K (.ref C) "__getattribute__" = some (some (.builtin "BaseException.__getattribute__"))
  gh:PySem.W.findIn K (.ref C) "__getattr__" = some none
  be:PySem.W.mroIn K C (.type "BaseException")=some true
  hd:PySem.W.hasDictIn K C=true
  cl:PySem.W.findIn K (.ref C) "__class__" = some (some (.builtin "object.__class__"))
  sp:PySem.W.specialIn K (.builtin "object.__class__") "__get__" = some (some (.builtin "getset_descriptor.__get__"))
  tk:PySem.W.takesIn K (.builtin "object.__class__")=some true
  ob:PySem.W.mroIn K C (.type "object")=some true
  no:∀ T∈["int","bool","tuple","list","str","dict"],PySem.W.subIn K (.ref C) (.type T)=some false
theorem ak1 {K:PySem.W.Frag} {C:Addr} {od:Option Obj} {name:Str} {a g:Value} (hc:(PySem.W.clsIn K C).isSome=true) (ha:PySem.W.findIn K (.ref C) name=some (some a)) (hg:PySem.W.specialIn K a "__get__" = some (some g)) (ht:PySem.W.takesIn K a=some true):PySem.W.findObj K C od name=some (.bind g a):=by
  obtain ⟨cd,hc⟩:=Option.isSome_iff_exists.mp hc
  unfold PySem.W.findObj
  rw [hc,Option.bind_some,ha,Option.bind_some]
  simp [hg,ht]
section
variable {prog:Program} {w:World} {A:Around} {E:Value→Shared→Prop} {s:Shared} {K:PySem.W.Frag} {x D:Addr} {ox:Obj} {od:Option Obj} {name:Str}
theorem asi {fill expr:Bool} {tk:Tok} {Q:Value→Shared→Prop} (X:K.In s.heap) (I:PySem.W.InstAt s.heap x ox D od) (k:ExcK K D)
    (h:wpAny (model prog w) A.in1 (Builtin.«object.__getattribute__» ⟨[.ref x,.str name tk],[]⟩)
      (fun fin s'=>match fin with | .done (.ret v)=>wpAny (model prog w) A (handedOut v) Q E s' | _=>False) (fun _ _=>False) s) :
    wpAny (model prog w) A (getAttrBy (.ref x) (.str name tk) fill expr) Q E s:=by
  obtain ⟨hh,g,d,t,os⟩:=s
  have L0:=I.type (M:=model prog w)
  have L1:=PySem.W.looks_findIn (M:=model prog w) X k.ga
  have L2:=PySem.W.looks_findIn (M:=model prog w) X k.gh
  have L3:PySem.W.Looks (model prog w) hh (isInstance (.ref x) (.type "BaseException")) true:=L0.andThen (PySem.W.looks_mroIn X k.be)
  unfold getAttrBy
  refine wpAny_holding (wpAny_bind (L0.at (wpAny_bind (L1.at ?_))))
  have hx2:(Value.builtin "BaseException.__getattribute__" == Value.builtin "object.__getattribute__")=false:=by decide +kernel
  have hx1:(onTheHeap (Value.ref D)&&Value.builtin "BaseException.__getattribute__" == Value.builtin "object.__getattribute__")=false:=by rw [hx2,Bool.and_false]
  simp only [hx1,Bool.false_eq_true,if_false]
  unfold getAttrByItsOwn hookBefore
  rw [if_pos (show onTheHeap (Value.ref D)=true from rfl)]
  refine wpAny_bind ?_
  refine L2.at (wpAny_bind (wpAny_attempt (wpAny_holding ?_)))
  have hx0:(expr&&onTheHeap (Value.builtin "BaseException.__getattribute__"))=false:=by cases expr <;> rfl
  unfold callGetattribute
  rw [if_neg (by rw [hx0]; exact Bool.false_ne_true)]
  unfold boundAndCalled
  refine wpAny_bind (wpAny_of_eq (PySem.F.attr_ValueError.ga.bind (.ref x)) ?_)
  have hk1:builtinKind "BaseException.__getattribute__" = some .slot:=by decide +kernel
  have hs1:splitId "BaseException.__getattribute__" = some ("BaseException","__getattribute__"):=by decide +kernel
  have ha1:=PySem.F.args_bexc_ga (.ref x) (.str name tk)
  dsimp only [List.cons_append,List.nil_append]
  refine wpAny_call (codeAny_call_builtin (id := "BaseException.__getattribute__") (args:=⟨[.ref x,.str name tk],[]⟩) PySem.F.attr_ValueError.ga.plain PySem.F.entry_bexc_ga ?_)
  refine PySem.W.check_slot (i := "BaseException.__getattribute__") (owner := "BaseException") (n := "__getattribute__") (self:=.ref x) (rest:=[.str name tk]) (kw:=[]) hk1 hs1 L3 ha1 ?_
  refine wpAny_mono h (fun fin s' z => ?_) fun _ _ z=>z.elim
  rcases fin with (_ | _ | _ | _) | _ <;> first | exact z | exact z.elim
theorem asj {g a:Value} {tk:Tok} {P:Value→Shared→Prop} (X:K.In s.heap) (I:PySem.W.InstAt s.heap x ox D od) (hf:PySem.W.findObj K D od name=some (.bind g a))
    (h:wpAny (model prog w) A (call g [a,.ref x,.ref D]) P E s) :
    wpAny (model prog w) A (Builtin.«object.__getattribute__» ⟨[.ref x,.str name tk],[]⟩) (fun fin s'=>match fin with | .done (.ret v)=>P v s' | _=>False) E s:=by
  obtain ⟨hh,gg,d,t,os⟩:=s
  have L0:=I.type (M:=model prog w)
  have L1:=PySem.W.looks_find (M:=model prog w) X I hf
  unfold Builtin.«object.__getattribute__»
  refine wpAny_bind (wpAny_pure (wpAny_bind (wpAny_pure (wpAny_bind (L0.at (wpAny_bind (L1.at ?_)))))))
  show wpAny _ _ (Builtin.ObjectAttr.bindTo g a (.ref x) (.ref D)) _ _ _
  show wpAny _ _ (holding [a] (call g [a,.ref x,.ref D]) >>= ret) _ _ _
  exact wpAny_bind (wpAny_holding (wpAny_mono h (fun v s' z=>wpAny_pure z) fun _ _ z=>z))
end
theorem art {K:PySem.W.Frag} {x D:Addr} (k:ExcK K D):PySem.W.KitX K (.ref x) (.ref D) (fun h=>∃ ox od,PySem.W.InstAt h x ox D od) where
  ty:=fun _ _ _ ⟨_,_,I⟩=>I.type
  it:=fun _ _ X _=>by
    obtain ⟨cdD,hcD,_⟩:=PySem.W.any_some k.hd
    unfold PySem.W.clsIn at hcD
    split at hcD
    · rename_i c' d' cd' sl' ho
      intro A' Q' E' s' k q
      unfold isType loadHead
      exact wpAny_bind (wpAny_loadPart (k _ _ (X _ _ ho)) (wpAny_pure q))
    · cases hcD
  ne:=fun h tp dd its n sl X htp=>by
    obtain ⟨cdD,hcD,_⟩:=PySem.W.any_some k.hd
    refine Bool.eq_false_iff.mpr fun q => ?_
    have e:D=tp:=Value.ref.inj (beq_iff_eq.mp q)
    subst e
    unfold PySem.W.clsIn at hcD
    split at hcD
    · rename_i c' d' cd' sl' ho
      have z:=(X _ _ ho).symm.trans htp
      cases z
    · cases hcD
  ca:=fun {prog w A E Q s} X ⟨ox,od,I⟩ q=>by
    have hf:PySem.W.findObj K D od "__class__" = some (.bind (.builtin "getset_descriptor.__get__") (.builtin "object.__class__")):=ak1 (by obtain ⟨cd,hc,_⟩:=PySem.W.any_some k.hd; rw [hc]; rfl) k.cl k.sp k.tk
    unfold getAttr? getAttrBy?
    refine wpAny_bind (wpAny_mkText (wpAny_bind (wpAny_attempt (asi (s:={ s with toks:=s.toks+1 }) X I k (asj (s:={ s with toks:=s.toks+1 }) X I hf
      (wpAny_call (PySem.W.class_get (s:={ s with toks:=s.toks+1 }) (ox:=ox) (od:=od) X I k.ob (PySem.W.handed_on rfl (wpAny_pure q)))))))))
end Mn
namespace Dn
open PySem PySem.Spec PyProof.Rows L2 Mn
inductive D where
  | non | bl (b:Bool) | int (i:Int) | str (x:Str) | tup (l:List D) | lst (l:List D) | kst (l:List D) | dct (kvs:List (Key×D)) | exn (c:Str) (fs:List (Str×Int))
noncomputable def exO (a C:Addr) (dx:Option Addr):Heap→Prop:=fun h=>∃ oe vs,h.get? a=some oe∧oe.cls=.ref C∧oe.dict=dx∧oe.data=.fields vs
section
variable (K:PySem.W.Frag) (F:Hp)
mutual
inductive Is:D→V→Prop
  | non:Is .non .non
  | bl (b:Bool):Is (.bl b) (.bl b)
  | int (i:Int):Is (.int i) (.int i)
  | str (x:Str):Is (.str x) (.str x)
  | tup {a:Addr} {vs:List V} {ds:List D} (e:F a=some (.tup vs)) (h:IsL ds vs):Is (.tup ds) (.ref a)
  | lst {a:Addr} {vs:List V} {ds:List D} (e:F a=some (.lst vs)) (h:IsL ds vs):Is (.lst ds) (.ref a)
  | kst {a:Addr} {vs:List V} {ds:List D} (e:SqL K F a vs) (h:IsL ds vs):Is (.kst ds) (.ref a)
  | dct {a:Addr} {kvs:List (Key×V)} {ds:List (Key×D)} (e:F a=some (.dK kvs)) (h:IsK ds kvs):Is (.dct ds) (.ref a)
  | exn {a C:Addr} {c:Str} {dx:Option Addr} {fs:List (Str×Int)} (e:F a=some (.ext (exO a C dx))) (hc:PySem.W.nsIn K mainGlobals c=some (some (.ref C))) (hk:ExcK K C)
      (hf:(dx=none∧fs=[])∨∃ d,dx=some d∧F d=some (.xd (fs.map fun p=>(p.1,V.int p.2)))):Is (.exn c fs) (.ref a)
inductive IsL:List D→List V→Prop
  | nil:IsL [] []
  | cons {d:D} {v:V} {ds:List D} {vs:List V} (h:Is d v) (t:IsL ds vs):IsL (d::ds) (v::vs)
inductive IsK:List (Key×D)→List (Key×V)→Prop
  | nil:IsK [] []
  | cons {k:Key} {d:D} {v:V} {ds:List (Key×D)} {vs:List (Key×V)} (h:Is d v) (t:IsK ds vs):IsK ((k,d)::ds) ((k,v)::vs)
end
end
section
variable {K:PySem.W.Frag} {F F':Hp}
mutual
theorem Is.mono (g:Same F F'):∀ {d:D} {v:V},Is K F d v→Is K F' d v
  | _,_,.non=>.non
  | _,_,.bl b=>.bl b
  | _,_,.int i=>.int i
  | _,_,.str x=>.str x
  | _,_,.tup e h=>.tup (g _ _ e) (IsL.mono g h)
  | _,_,.lst e h=>.lst (g _ _ e) (IsL.mono g h)
  | _,_,.kst e h=>.kst (L2.Same.seq g e) (IsL.mono g h)
  | _,_,.dct e h=>.dct (g _ _ e) (IsK.mono g h)
  | _,_,.exn e hc hk hf=>.exn (g _ _ e) hc hk (hf.imp id fun ⟨d,h1,h2⟩=>⟨d,h1,g _ _ h2⟩)
theorem IsL.mono (g:Same F F'):∀ {ds:List D} {vs:List V},IsL K F ds vs→IsL K F' ds vs
  | _,_,.nil=>.nil
  | _,_,.cons h t=>.cons (Is.mono g h) (IsL.mono g t)
theorem IsK.mono (g:Same F F'):∀ {ds:List (Key×D)} {vs:List (Key×V)},IsK K F ds vs→IsK K F' ds vs
  | _,_,.nil=>.nil
  | _,_,.cons h t=>.cons (Is.mono g h) (IsK.mono g t)
end
theorem IsL.length:∀ {ds:List D} {vs:List V},IsL K F ds vs→ds.length=vs.length
  | _,_,.nil=>rfl
  | _,_,.cons _ t=>by simp [IsL.length t]
theorem IsL.append:∀ {ds es:List D} {vs ws:List V},IsL K F ds vs→IsL K F es ws→IsL K F (ds++es) (vs++ws)
  | _,_,_,_,.nil,h=>h
  | _,_,_,_,.cons h t,k=>.cons h (IsL.append t k)
theorem IsL.take:∀ {ds:List D} {vs:List V} (n:Nat),IsL K F ds vs→IsL K F (ds.take n) (vs.take n)
  | _,_,0,_=>by simpa using IsL.nil
  | _,_,_+1,.nil=>.nil
  | _,_,n+1,.cons h t=>.cons h (IsL.take n t)
theorem IsL.drop:∀ {ds:List D} {vs:List V} (n:Nat),IsL K F ds vs→IsL K F (ds.drop n) (vs.drop n)
  | _,_,0,h=>h
  | _,_,_+1,.nil=>.nil
  | _,_,n+1,.cons _ t=>IsL.drop n t
theorem IsL.get:∀ {ds:List D} {vs:List V} {i:Nat} {d:D},IsL K F ds vs→ds[i]? = some d→∃ v,vs[i]? = some v∧Is K F d v
  | _,_,_,_,.nil,e=>by simp at e
  | _,_,0,_,.cons h _,e=>by simp at e; subst e; exact ⟨_,rfl,h⟩
  | _,_,i+1,v,.cons _ t,e=>by
    obtain ⟨d,h1,h2⟩:=IsL.get (i:=i) (d:=v) t (by simpa using e)
    exact ⟨d,by simpa using h1,h2⟩
theorem IsL.set {d:D} {v:V} (h:Is K F d v):∀ {ds:List D} {vs:List V} (i:Nat),IsL K F ds vs→IsL K F (ds.set i d) (vs.set i v)
  | _,_,_,.nil=>.nil
  | _,_,0,.cons _ t=>.cons h t
  | _,_,i+1,.cons q t=>.cons q (IsL.set h i t)
theorem IsL.rep {ds:List D} {vs:List V} (h:IsL K F ds vs):∀ k:Nat,IsL K F (List.replicate k ds).flatten (List.replicate k vs).flatten
  | 0=>by simpa using IsL.nil
  | k+1=>by
    rw [List.replicate_succ,List.replicate_succ,List.flatten_cons,List.flatten_cons]
    exact h.append (IsL.rep h k)
theorem IsL.int_inv:∀ {ns:List Int} {vs:List V},IsL K F (ns.map D.int) vs→vs=ns.map V.int
  | [],_,.nil=>rfl
  | n::r,_,.cons (.int _) t=>by rw [List.map_cons,IsL.int_inv t]
theorem IsL.bl_inv:∀ {ns:List Bool} {vs:List V},IsL K F (ns.map D.bl) vs→vs=ns.map V.bl
  | [],_,.nil=>rfl
  | n::r,_,.cons (.bl _) t=>by rw [List.map_cons,IsL.bl_inv t]
theorem aez:∀ ns:List Int,IsL K F (ns.map D.int) (ns.map V.int)
  | []=>.nil
  | n::r=>.cons (.int n) (aez r)
end
inductive Sl where
  | emp | val (d:D) | own (t:Option Nat) (l:List D)
noncomputable abbrev Ro:=List Sl
noncomputable def Owns (ρ:Ro) (σ:L2.St) (i:Nat) (a:Addr):Prop:=(∃ t l,ρ[i]? = some (.own t l))∧σ[i]? = some (some (.ref a))
noncomputable def Own (ρ:Ro) (σ:L2.St) (a:Addr):Prop:=∃ i,Owns ρ σ i a
noncomputable def SlOk (K:PySem.W.Frag) (tg:Nat→Addr) (F H:Hp):Sl→Option V→Prop
  | .emp,_=>True
  | .val d,o=>∃ v,o=some v∧Is K F d v
  | .own t l,o=>∃ a vs,o=some (.ref a)∧F a=none∧H a=some (.lst vs)∧IsL K F l vs∧∀ k,t=some k→tg k=a
structure Good (K:PySem.W.Frag) (tg:Nat→Addr) (F H:Hp) (ρ:Ro) (σ:L2.St):Prop where
  sub:Same F H
  len:ρ.length=σ.length
  sl:∀ (i:Nat) (s:Sl) (o:Option V),ρ[i]? = some s→σ[i]? = some o→SlOk K tg F H s o
  inj:∀ (i j:Nat) (a:Addr),Owns ρ σ i a→Owns ρ σ j a→i=j
structure Ext (O O':Addr→Prop) (F H F' H':Hp):Prop where
  sub:Same F F'
  new:∀ a o,F' a=some o→F a=some o∨H a=none∨O a
  keep:∀ a o,H a=some o→¬O a→H' a=some o
  own:∀ a,O' a→O a∨H a=none
  there:∀ a,H' a=none→H a=none
theorem Ext.refl (O:Addr→Prop) (F H:Hp):Ext O O F H F H:=⟨fun _ _ e=>e,fun _ _ e=>.inl e,fun _ _ e _=>e,fun _ h=>.inl h,fun _ h=>h⟩
theorem Ext.trans {O O1 O2:Addr→Prop} {F H F1 H1 F2 H2:Hp} (a:Ext O O1 F H F1 H1) (b:Ext O1 O2 F1 H1 F2 H2):Ext O O2 F H F2 H2 where
  sub:=a.sub.trans b.sub
  new:=fun c o e=>by
    rcases b.new c o e with q | q | q
    · exact a.new c o q
    · exact .inr (.inl (a.there c q))
    · rcases a.own c q with z | z
      · exact .inr (.inr z)
      · exact .inr (.inl z)
  keep:=fun c o e n=>b.keep c o (a.keep c o e n) fun z=>by
    rcases a.own c z with q | q
    · exact n q
    · rw [e] at q; cases q
  own:=fun c z=>by
    rcases b.own c z with q | q
    · exact a.own c q
    · exact .inr (a.there c q)
  there:=fun c z=>a.there c (b.there c z)
section
variable {K:PySem.W.Frag} {tg:Nat→Addr} {F H F' H':Hp} {ρ ρ':Ro} {σ:L2.St}
theorem Good.ownAt (G:Good K tg F H ρ σ) {a:Addr} (h:Own ρ σ a):F a=none∧∃ vs,H a=some (.lst vs):=by
  obtain ⟨i,⟨t,l,e⟩,q⟩:=h
  obtain ⟨b,vs,e1,f,e2,_⟩:=G.sl i _ _ e q
  cases e1
  exact ⟨f,vs,e2⟩
theorem Good.grow (G:Good K tg F H ρ σ) (s:Same F F') (s':Same F' H') (k:∀ a,Own ρ σ a→F' a=none∧H' a=H a):Good K tg F' H' ρ σ where
  sub:=s'
  len:=G.len
  inj:=G.inj
  sl:=fun i sl o e q=>by
    have z:=G.sl i sl o e q
    cases sl with
    | emp=>trivial
    | val d =>
      obtain ⟨v,e1,h⟩:=z
      exact ⟨v,e1,h.mono s⟩
    | own t l =>
      obtain ⟨a,vs,e1,f,e2,h,ht⟩:=z
      have w:=k a ⟨i,⟨t,l,e⟩,by rw [q,e1]⟩
      exact ⟨a,vs,e1,w.1,by rw [w.2]; exact e2,h.mono s,ht⟩
theorem Same.put {p:Addr} (s:Same F H) (h:H p=none) (o:HO):Same (upd F p o) (upd H p o):=fun b u e=>by
  by_cases hb:b=p
  · subst hb
    rw [jh] at e ⊢
    exact e
  · rw [fc hb] at e ⊢
    exact s b u e
theorem Good.freeF (G:Good K tg F H ρ σ) {p:Addr} (h:H p=none):F p=none:=by
  cases e:F p with
  | none=>rfl
  | some o=>rw [G.sub p o e] at h; cases h
theorem Good.own_ne (G:Good K tg F H ρ σ) {p a:Addr} (h:H p=none) (w:Own ρ σ a):a≠p:=by
  obtain ⟨_,vs,e⟩:=G.ownAt w
  exact jz e h
theorem Good.new (G:Good K tg F H ρ σ) {p:Addr} (h:H p=none) (o:HO):Good K tg (upd F p o) (upd H p o) ρ σ :=
  G.grow (Same.new (G.freeF h) o) (Same.put G.sub h o) fun a w=>by
    rw [fc (G.own_ne h w),fc (G.own_ne h w)]
    exact ⟨(G.ownAt w).1,rfl⟩
theorem Good.newX (G:Good K tg F H ρ σ) {p:Addr} (h:H p=none) (o:HO):Ext (Own ρ σ) (Own ρ σ) F H (upd F p o) (upd H p o) where
  sub:=Same.new (G.freeF h) o
  new:=fun a u e=>by
    by_cases ha:a=p
    · subst ha; exact .inr (.inl h)
    · rw [fc ha] at e; exact .inl e
  keep:=fun a u e _=>by rw [fc (jz e h)]; exact e
  own:=fun a w=>.inl w
  there:=fun a e=>by
    by_cases ha:a=p
    · subst ha; exact h
    · rw [fc ha] at e; exact e
theorem Good.fresh (G:Good K tg F H ρ σ) {p:Addr} (h:H p=none) (o:HO):Good K tg F (upd H p o) ρ σ :=
  G.grow (Same.refl F) (fun b u e=>by rw [fc (jz (G.sub b u e) h)]; exact G.sub b u e) fun a w=>by
    rw [fc (G.own_ne h w)]
    exact ⟨(G.ownAt w).1,rfl⟩
theorem Good.freshX (G:Good K tg F H ρ σ) {p:Addr} (h:H p=none) (o:HO):Ext (Own ρ σ) (Own ρ σ) F H F (upd H p o) where
  sub:=Same.refl F
  new:=fun a u e=>.inl e
  keep:=fun a u e _=>by rw [fc (jz e h)]; exact e
  own:=fun a w=>.inl w
  there:=fun a e=>by
    by_cases ha:a=p
    · subst ha; exact h
    · rw [fc ha] at e; exact e
theorem Good.freeze (G:Good K tg F H ρ σ) {p:Addr} {o:HO} (h:H p=some o) (n:¬Own ρ σ p) (hf:F p=none):Good K tg (upd F p o) H ρ σ :=
  G.grow (Same.new hf o) (fun b u e=>by
    by_cases hb:b=p
    · subst hb
      rw [jh] at e
      cases e
      exact h
    · rw [fc hb] at e
      exact G.sub b u e) fun a w=>by
    have:a≠p:=fun z=>n (z▸w)
    rw [fc this]
    exact ⟨(G.ownAt w).1,rfl⟩
end
end Dn
namespace Dn
open PySem PySem.Spec PyProof.Rows L2 Mn
structure Exn where
  cls:Str
  fs:List (Str×Int)
inductive Out (α:Type) where
  | ok (a:α) | exc (x:Exn)
noncomputable abbrev M (α:Type):=Ro→Option (Out α×Ro)
noncomputable def M.bind {α β:Type} (m:M α) (k:α→M β):M β:=fun ρ=>match m ρ with
  | some (.ok a,ρ1)=>k a ρ1
  | some (.exc x,ρ1)=>some (.exc x,ρ1)
  | none=>none
noncomputable def ret {α:Type} (a:α):M α:=fun ρ=>some (.ok a,ρ)
noncomputable def lift {α:Type} (o:Option α):M α:=fun ρ=>match o with
  | some a=>some (.ok a,ρ)
  | none=>none
section
variable {α β:Type}
theorem bh {m:M α} {k:α→M β} {ρ ρ2:Ro} {b:β} (h:m.bind k ρ=some (.ok b,ρ2)):∃ a ρ1,m ρ=some (.ok a,ρ1)∧k a ρ1=some (.ok b,ρ2):=by
  unfold M.bind at h
  split at h
  · exact ⟨_,_,by assumption,h⟩
  · cases h
  · cases h
theorem jc {o:Option α} {ρ ρ2:Ro} {b:α} (h:lift o ρ=some (.ok b,ρ2)):o=some b∧ρ2=ρ:=by
  unfold lift at h
  split at h
  · cases h; exact ⟨rfl,rfl⟩
  · cases h
theorem j7 {a b:α} {ρ ρ2:Ro} (h:ret a ρ=some (.ok b,ρ2)):a=b∧ρ2=ρ:=by
  unfold ret at h
  cases h
  exact ⟨rfl,rfl⟩
@[simp] theorem azt (a:α) (k:α→M β):(ret a).bind k=k a:=rfl
@[simp] theorem ayg (a:α):lift (some a)=ret a:=rfl
end
inductive Rv where
  | v (d:D) | fr (l:List D)
  | tf (d:D) (l:List D)
noncomputable abbrev Rel (α:Type):=α→V→(H:Hp)→(O:Addr→Prop)→(F' H':Hp)→(O':Addr→Prop)→Prop
noncomputable def relD (K:PySem.W.Frag):Rel D:=fun d v _ _ F' _ _=>Is K F' d v
noncomputable def Bor (K:PySem.W.Frag) (F H:Hp) (d:D) (v:V):Prop:=Is K F d v∨∃ a vs l,d=.lst l∧v=.ref a∧H a=some (.lst vs)∧IsL K F l vs
noncomputable def relB (K:PySem.W.Frag):Rel D:=fun d v _ _ F' H' _=>Bor K F' H' d v
noncomputable def relR (K:PySem.W.Frag):Rel Rv:=fun r v H O F' H' O'=>match r with
  | .v d=>Is K F' d v
  | .fr l=>∃ a vs,v=.ref a∧(H a=none∨O a)∧F' a=none∧H' a=some (.lst vs)∧IsL K F' l vs∧¬O' a
  | .tf d l=>∃ t u a vs,v=.ref t∧F' t=some (.tup [u,.ref a])∧Is K F' d u∧(H a=none∨O a)∧F' a=none∧H' a=some (.lst vs)∧IsL K F' l vs∧¬O' a
noncomputable def T {α:Type} (K:PySem.W.Frag) (rel:Rel α) (m:M α):TE:=fun σ H Q=>∃ tg F ρ a ρ',Good K tg F H ρ σ∧m ρ=some (.ok a,ρ') ∧
  ∀ v H' F',Good K tg F' H' ρ' σ→Ext (Own ρ σ) (Own ρ' σ) F H F' H'→rel a v H (Own ρ σ) F' H' (Own ρ' σ)→Q v H'
structure EV (K:PySem.W.Frag) (X:Cx) (e:Expr) (m:M D):Prop where
  go:X.K=K→PE X e (T K (relD K) m)
instance {K:PySem.W.Frag} {X:Cx} {e:Expr} {m:M D}:CoeFun (EV K X e m) fun _=>X.K=K→PE X e (T K (relD K) m):=⟨EV.go⟩
structure EB (K:PySem.W.Frag) (X:Cx) (e:Expr) (m:M D):Prop where
  go:X.K=K→PE X e (T K (relB K) m)
instance {K:PySem.W.Frag} {X:Cx} {e:Expr} {m:M D}:CoeFun (EB K X e m) fun _=>X.K=K→PE X e (T K (relB K) m):=⟨EB.go⟩
structure ER (K:PySem.W.Frag) (X:Cx) (e:Expr) (m:M Rv):Prop where
  go:X.K=K→PE X e (T K (relR K) m)
instance {K:PySem.W.Frag} {X:Cx} {e:Expr} {m:M Rv}:CoeFun (ER K X e m) fun _=>X.K=K→PE X e (T K (relR K) m):=⟨ER.go⟩
theorem PE.imp {X:Cx} {e:Expr} {t t':TE} (h:PE X e t) (w:∀ σ H Q,t' σ H Q→t σ H Q):PE X e t':=fun pins s σ H Q I q=>h pins s σ H Q I (w σ H Q q)
section
variable {K:PySem.W.Frag} {X:Cx} {e a b:Expr} {pos:Pos}
theorem Bor.of {F H:Hp} {d:D} {v:V} (h:Is K F d v):Bor K F H d v:=.inl h
theorem EV.toB {m:M D} (h:EV K X e m):EB K X e m:=EB.mk fun hk=>PE.imp (h hk) fun σ H Q ⟨tg,F,ρ,d,ρ',G,em,q⟩=>⟨tg,F,ρ,d,ρ',G,em,fun v H' F' G' x r=>q v H' F' G' x (.inl r)⟩
noncomputable def M.v (m:M D):M Rv:=m.bind fun d=>ret (.v d)
theorem EV.toR {m:M D} (h:EV K X e m):ER K X e m.v:=ER.mk fun hk=>PE.imp (h hk) fun σ H Q hq0=>by
  obtain ⟨tg,F,ρ,r,ρ',G,em,q⟩:=hq0
  obtain ⟨d,ρ1,e1,e2⟩:=bh em
  obtain ⟨rfl,rfl⟩:=j7 e2
  exact ⟨tg,F,ρ,d,_,G,e1,fun v H' F' G' x r=>q v H' F' G' x r⟩
noncomputable def Rv.d:Rv→D
  | .v d=>d
  | .fr l=>.lst l
  | .tf d l=>.tup [d,.lst l]
noncomputable def M.d (m:M Rv):M D:=m.bind fun r=>ret r.d
theorem frz {tg:Nat→Addr} {O:Addr→Prop} {F H F' H':Hp} {ρ':Ro} {σ':L2.St} {r:Rv} {v:V} (G:Good K tg F' H' ρ' σ') (x:Ext O (Own ρ' σ') F H F' H') (h:relR K r v H O F' H' (Own ρ' σ')) :
    ∃ F2,Good K tg F2 H' ρ' σ'∧Ext O (Own ρ' σ') F H F2 H'∧Is K F2 r.d v:=by
  cases r with
  | v d=>exact ⟨F',G,x,h⟩
  | fr l =>
    obtain ⟨a,vs,rfl,ha,hf,hh,hl,hn⟩:=h
    refine ⟨upd F' a (.lst vs),G.freeze hh hn hf,⟨x.sub.trans (Same.new hf _),fun b o e => ?_,x.keep,x.own,x.there⟩,.lst jh (hl.mono (Same.new hf _))⟩
    by_cases hb:b=a
    · subst hb
      exact .inr ha
    · rw [fc hb] at e
      exact x.new b o e
  | tf d l =>
    obtain ⟨t,u,a,vs,rfl,ht,hd,ha,hf,hh,hl,hn⟩:=h
    have hta:t≠a:=fun z=>by rw [z,hf] at ht; cases ht
    refine ⟨upd F' a (.lst vs),G.freeze hh hn hf,⟨x.sub.trans (Same.new hf _),fun b o e => ?_,x.keep,x.own,x.there⟩,.tup (by rw [fc hta]; exact ht) (.cons (hd.mono (Same.new hf _)) (.cons (.lst jh (hl.mono (Same.new hf _))) .nil))⟩
    by_cases hb:b=a
    · subst hb
      exact .inr ha
    · rw [fc hb] at e
      exact x.new b o e
theorem ER.toD {m:M Rv} (h:ER K X e m):EV K X e m.d:=EV.mk fun hk=>PE.imp (h hk) fun σ H Q hq0=>by
  obtain ⟨tg,F,ρ,d,ρ',G,em,q⟩:=hq0
  obtain ⟨r,ρ1,e1,e2⟩:=bh em
  obtain ⟨rfl,rfl⟩:=j7 e2
  refine ⟨tg,F,ρ,r,_,G,e1,fun v H' F' G' x w => ?_⟩
  obtain ⟨F2,G2,x2,i2⟩:=frz G' x w
  exact q v H' F2 G2 x2 i2
noncomputable def dq (i:Nat):M D:=fun ρ=>match ρ[i]? with
  | some (.val d)=>some (.ok d,ρ)
  | some (.own _ l)=>some (.ok (.lst l),ρ)
  | _=>none
theorem Good.at {tg:Nat→Addr} {F H:Hp} {ρ:Ro} {σ:L2.St} (G:Good K tg F H ρ σ) {i:Nat} {s:Sl} (e:ρ[i]? = some s):∃ o,σ[i]? = some o∧SlOk K tg F H s o:=by
  have hi:i < σ.length:=by rw [←G.len]; exact (List.getElem?_eq_some_iff.mp e).1
  exact ⟨σ[i],List.getElem?_eq_getElem hi,G.sl i s _ e (List.getElem?_eq_getElem hi)⟩
theorem aa8 {tg:Nat→Addr} {F H:Hp} {ρ ρ':Ro} {σ:L2.St} (G:Good K tg F H ρ σ) {i:Nat} {d:D} (em:dq i ρ=some (.ok d,ρ')):ρ'=ρ∧∃ v,σ[i]? = some (some v)∧Bor K F H d v:=by
  unfold dq at em
  split at em
  · rename_i d' e'
    cases em
    obtain ⟨o,ho,v,rfl,hv⟩:=G.at e'
    exact ⟨rfl,v,ho,.inl hv⟩
  · rename_i t l e'
    cases em
    obtain ⟨o,ho,a,vs,rfl,hf,hh,hl,_⟩:=G.at e'
    exact ⟨rfl,_,ho,.inr ⟨a,vs,l,rfl,rfl,hh,hl⟩⟩
  · cases em
theorem d7 {i:Nat} (h:PE X e (tVar i)):EB K X e (dq i):=EB.mk fun _=>PE.imp h fun σ H Q hq0=>by
  obtain ⟨tg,F,ρ,d,ρ',G,em,q⟩:=hq0
  obtain ⟨rfl,v,ho,hv⟩:=aa8 G em
  exact ⟨v,ho,q v H F G (Ext.refl _ _ _) hv⟩
noncomputable def ai6 (i:Nat):M Rv:=fun ρ=>match ρ[i]? with
  | some (.val d)=>some (.ok (.v d),ρ)
  | some (.own none l)=>some (.ok (.fr l),ρ.set i .emp)
  | _=>none
theorem Good.drop {tg:Nat→Addr} {F H:Hp} {ρ:Ro} {σ:L2.St} (G:Good K tg F H ρ σ) (i:Nat):Good K tg F H (ρ.set i .emp) σ:=by
  have sub:∀ j t l,(List.set ρ i Sl.emp)[j]? = some (Sl.own t l)→(ρ:List Sl)[j]? = some (Sl.own t l):=fun j t l e=>by
    rw [List.getElem?_set] at e
    split at e
    · split at e <;> cases e
    · exact e
  refine ⟨G.sub,by rw [List.length_set]; exact G.len,fun j s o e q => ?_,fun j k a ⟨⟨t,l,e⟩,q⟩ ⟨⟨t',l',e'⟩,q'⟩=>G.inj j k a ⟨⟨t,l,sub _ _ _ e⟩,q⟩ ⟨⟨t',l',sub _ _ _ e'⟩,q'⟩⟩
  rw [List.getElem?_set] at e
  split at e
  · split at e
    · cases e; trivial
    · cases e
  · exact G.sl j s o e q
theorem aex {ρ:Ro} {σ:L2.St} {i:Nat} {a:Addr} (h:Own (ρ.set i .emp) σ a):Own ρ σ a∧∀ t l,ρ[i]? = some (.own t l)→∀ (inj:∀ i j a,Owns ρ σ i a→Owns ρ σ j a→i=j),¬Owns ρ σ i a:=by
  obtain ⟨j,⟨t,l,e⟩,q⟩:=h
  rw [List.getElem?_set] at e
  split at e
  · split at e <;> cases e
  · rename_i hne
    have w:Owns ρ σ j a:=⟨⟨t,l,e⟩,q⟩
    exact ⟨⟨j,w⟩,fun t' l' _ inj z=>hne (inj _ _ _ z w)⟩
theorem af4 {i:Nat} (h:PE X e (tVar i)):ER K X e (ai6 i):=ER.mk fun _=>PE.imp h fun σ H Q hq0=>by
  obtain ⟨tg,F,ρ,d,ρ',G,em,q⟩:=hq0
  unfold ai6 at em
  split at em
  · rename_i d' e'
    cases em
    obtain ⟨o,ho,v,rfl,hv⟩:=G.at e'
    exact ⟨v,ho,q v H F G (Ext.refl _ _ _) hv⟩
  · rename_i l e'
    cases em
    obtain ⟨o,ho,a,vs,rfl,hf,hh,hl,_⟩:=G.at e'
    have w:Owns ρ σ i a:=⟨⟨_,_,e'⟩,ho⟩
    refine ⟨_,ho,q _ H F (G.drop i) ⟨Same.refl _,fun _ _ e=>.inl e,fun _ _ e _=>e,fun b z=>.inl (aex z).1,fun _ z=>z⟩ ⟨a,vs,rfl,.inr ⟨i,w⟩,hf,hh,hl,fun z=>(aex z).2 _ _ e' G.inj w⟩⟩
  · cases em
noncomputable def mVar (i:Nat):M D:=fun ρ=>match ρ[i]? with
  | some (.val d)=>some (.ok d,ρ)
  | some (.own none l)=>some (.ok (.lst l),ρ.set i (.val (.lst l)))
  | _=>none
theorem arf {ρ:Ro} {σ:L2.St} {i:Nat} {d:D} {a:Addr} (h:Own (ρ.set i (.val d)) σ a):Own (ρ.set i .emp) σ a:=by
  obtain ⟨j,⟨t,l,e⟩,q⟩:=h
  refine ⟨j,⟨t,l,?_⟩,q⟩
  rw [List.getElem?_set] at e ⊢
  split at e
  · split at e <;> cases e
  · rename_i hne
    rw [if_neg hne]
    exact e
theorem Good.setv {tg:Nat→Addr} {F H:Hp} {ρ:Ro} {σ:L2.St} {i:Nat} {d:D} {v:V} (G:Good K tg F H (ρ.set i .emp) σ) (e:σ[i]? = some (some v)) (h:Is K F d v):Good K tg F H (ρ.set i (.val d)) σ:=by
  have sub:∀ j t l,(List.set ρ i (Sl.val d))[j]? = some (Sl.own t l)→(List.set ρ i Sl.emp)[j]? = some (Sl.own t l):=fun j t l z=>by
    rw [List.getElem?_set] at z ⊢
    split at z
    · split at z <;> cases z
    · rename_i hne
      rw [if_neg hne]
      exact z
  refine ⟨G.sub,by have:=G.len; rw [List.length_set] at this ⊢; exact this,fun j s o z q => ?_,fun j k a ⟨⟨t,l,z⟩,q⟩ ⟨⟨t',l',z'⟩,q'⟩=>G.inj j k a ⟨⟨t,l,sub _ _ _ z⟩,q⟩ ⟨⟨t',l',sub _ _ _ z'⟩,q'⟩⟩
  by_cases hij:i=j
  · subst hij
    rw [List.getElem?_set,if_pos rfl] at z
    split at z
    · cases z
      rw [e] at q
      cases q
      exact ⟨v,rfl,h⟩
    · cases z
  · refine G.sl j s o ?_ q
    rw [List.getElem?_set,if_neg hij] at z ⊢
    exact z
theorem au {i:Nat} (h:PE X e (tVar i)):EV K X e (mVar i):=EV.mk fun _=>PE.imp h fun σ H Q hq0=>by
  obtain ⟨tg,F,ρ,d,ρ',G,em,q⟩:=hq0
  unfold mVar at em
  split at em
  · rename_i d' e'
    cases em
    obtain ⟨o,ho,v,rfl,hv⟩:=G.at e'
    exact ⟨v,ho,q v H F G (Ext.refl _ _ _) hv⟩
  · rename_i l e'
    cases em
    obtain ⟨o,ho,a,vs,rfl,hf,hh,hl,_⟩:=G.at e'
    have w:Owns ρ σ i a:=⟨⟨_,_,e'⟩,ho⟩
    have nown:¬Own (ρ.set i .emp) σ a:=fun z=>(aex z).2 _ _ e' G.inj w
    have G2:=(G.drop i).freeze hh nown hf
    have i2:Is K (upd F a (.lst vs)) (.lst l) (.ref a):=.lst jh (hl.mono (Same.new hf _))
    refine ⟨_,ho,q _ H _ (G2.setv ho i2) ⟨Same.new hf _,fun b o z => ?_,fun _ _ z _=>z,fun b z=>.inl (aex (arf z)).1,fun _ z=>z⟩ i2⟩
    by_cases hb:b=a
    · subst hb
      exact .inr (.inr ⟨i,w⟩)
    · rw [fc hb] at z
      exact .inl z
  · cases em
theorem ev_c {d:D} {v:V} (h:PE X e (tC v)) (hi:∀ F,Is K F d v):EV K X e (ret d):=EV.mk fun _=>PE.imp h fun σ H Q hq0=>by
  obtain ⟨tg,F,ρ,d',ρ',G,em,q⟩:=hq0
  obtain ⟨rfl,rfl⟩:=j7 em
  exact q v H F G (Ext.refl _ _ _) (hi F)
theorem bc {i:Int} {j:Nat}:EV K X (.Constant (.int i) j pos) (ret (.int i)):=ev_c axm fun _=>.int i
theorem ad4 {i:Bool} {j:Nat}:EV K X (.Constant (.bool i) j pos) (ret (.bl i)):=ev_c a1o fun _=>.bl i
theorem ay5 {j:Nat}:EV K X (.Constant .none j pos) (ret .non):=ev_c axk fun _=>.non
noncomputable def T2 (K:PySem.W.Frag) (m:M (D×D)) (σ:L2.St) (H:Hp) (R:V→V→Hp→Prop):Prop:=∃ tg F ρ p ρ',Good K tg F H ρ σ∧m ρ=some (.ok p,ρ') ∧
  ∀ x y H' F',Good K tg F' H' ρ' σ→Ext (Own ρ σ) (Own ρ' σ) F H F' H'→Bor K F' H' p.1 x→Bor K F' H' p.2 y→R x y H'
structure E2 (K:PySem.W.Frag) (X:Cx) (a b:Expr) (m:M (D×D)):Prop where
  go:X.K=K→∃ ta tb,PE X a ta∧PE X b tb∧∀ σ H R,T2 K m σ H R→ta σ H fun x H1=>tb σ H1 fun y H2=>R x y H2
instance {K:PySem.W.Frag} {X:Cx} {a b:Expr} {m:M (D×D)}:CoeFun (E2 K X a b m) fun _=>X.K=K→∃ ta tb,PE X a ta∧PE X b tb∧∀ σ H R,T2 K m σ H R→ta σ H fun x H1=>tb σ H1 fun y H2=>R x y H2:=⟨E2.go⟩
noncomputable def gr (m1 m2:M D):M (D×D):=m1.bind fun x=>m2.bind fun y=>ret (x,y)
noncomputable def bw (i:Nat) (m2:M D):M (D×D):=(dq i).bind fun _=>m2.bind fun y=>(dq i).bind fun x=>ret (x,y)
theorem e2_v {m1 m2:M D} (ha:EV K X a m1) (hb:EB K X b m2):E2 K X a b (gr m1 m2):=E2.mk fun hk=>⟨_,_,ha hk,hb hk,fun σ H R hq0=>by
  obtain ⟨tg,F,ρ,p,ρ',G,em,q⟩:=hq0
  obtain ⟨d1,ρ1,e1,em⟩:=bh em
  obtain ⟨d2,ρ2,e2,em⟩:=bh em
  obtain ⟨rfl,rfl⟩:=j7 em
  exact ⟨tg,F,ρ,d1,ρ1,G,e1,fun x H1 F1 G1 x1 r1=>⟨tg,F1,ρ1,d2,_,G1,e2,fun y H2 F2 G2 x2 r2=>q x y H2 F2 G2 (x1.trans x2) (.inl (r1.mono x2.sub)) r2⟩⟩⟩
theorem e2_n {i:Nat} {m2:M D} (ha:PE X a (tVar i)) (hb:EB K X b m2):E2 K X a b (bw i m2):=E2.mk fun hk=>⟨_,_,ha,hb hk,fun σ H R hq0=>by
  obtain ⟨tg,F,ρ,p,ρ',G,em,q⟩:=hq0
  obtain ⟨d0,ρ0,e0,em⟩:=bh em
  obtain ⟨d2,ρ2,e2,em⟩:=bh em
  obtain ⟨d1,ρ1,e1,em⟩:=bh em
  obtain ⟨rfl,rfl⟩:=j7 em
  obtain ⟨rfl,v,hv,_⟩:=aa8 G e0
  exact ⟨v,hv,tg,F,ρ0,d2,ρ2,G,e2,fun y H2 F2 G2 x2 r2=>by
    obtain ⟨rfl,v',hv',b'⟩:=aa8 G2 e1
    rw [hv] at hv'
    cases hv'
    exact q v y H2 F2 G2 x2 b' r2⟩⟩
end
end Dn
namespace Dn
open PySem PySem.Spec PyProof.Rows L2 Mn
section
variable {K:PySem.W.Frag} {X:Cx} {e a b c:Expr} {es:List Expr} {pos p:Pos}
section
variable {F H:Hp} {x:V}
theorem Bor.lst {l:List D} (g:Same F H) (h:Bor K F H (.lst l) x):∃ a vs,x=.ref a∧H a=some (.lst vs)∧IsL K F l vs:=by
  rcases h with h | ⟨a,vs,l',e1,e2,e3,h⟩
  · cases h with
    | lst e h=>exact ⟨_,_,rfl,g _ _ e,h⟩
  · cases e1
    exact ⟨a,vs,e2,e3,h⟩
theorem Bor.tup {l:List D} (h:Bor K F H (.tup l) x):∃ a vs,x=.ref a∧F a=some (.tup vs)∧IsL K F l vs:=by
  rcases h with h | ⟨a,vs,l',e1,_⟩
  · cases h with
    | tup e h=>exact ⟨_,_,rfl,e,h⟩
  · cases e1
theorem Bor.kst {l:List D} (h:Bor K F H (.kst l) x):∃ a vs,x=.ref a∧SqL K F a vs∧IsL K F l vs:=by
  rcases h with h | ⟨a,vs,l',e1,_⟩
  · cases h with
    | kst e h=>exact ⟨_,_,rfl,e,h⟩
  · cases e1
theorem Bor.int {i:Int} (h:Bor K F H (.int i) x):x=.int i:=by
  rcases h with h | ⟨a,vs,l',e1,_⟩
  · cases h; rfl
  · cases e1
theorem Bor.bl {i:Bool} (h:Bor K F H (.bl i) x):x=.bl i:=by
  rcases h with h | ⟨a,vs,l',e1,_⟩
  · cases h; rfl
  · cases e1
theorem Bor.str {i:Str} (h:Bor K F H (.str i) x):x=.str i:=by
  rcases h with h | ⟨a,vs,l',e1,_⟩
  · cases h; rfl
  · cases e1
theorem Bor.non (h:Bor K F H .non x):x=.non:=by
  rcases h with h | ⟨a,vs,l',e1,_⟩
  · cases h; rfl
  · cases e1
end
noncomputable def Res (K:PySem.W.Frag) (tg:Nat→Addr) (F H:Hp) (ρ:Ro) (σ:L2.St) (r:Rv) (Q:VK):Prop :=
  ∀ v H' F',Good K tg F' H' ρ σ→Ext (Own ρ σ) (Own ρ σ) F H F' H'→relR K r v H (Own ρ σ) F' H' (Own ρ σ)→Q v H'
section
variable {tg:Nat→Addr} {F H:Hp} {ρ:Ro} {σ:L2.St} {Q:VK}
theorem Res.same {d:D} {v:V} (G:Good K tg F H ρ σ) (q:Res K tg F H ρ σ (.v d) Q) (h:Is K F d v):Q v H:=q v H F G (Ext.refl _ _ _) h
theorem Res.tup {l:List D} {vs:List V} (G:Good K tg F H ρ σ) (q:Res K tg F H ρ σ (.v (.tup l)) Q) (h:IsL K F l vs) {p:Addr} (hp:H p=none):Q (.ref p) (upd H p (.tup vs)) :=
  q _ _ _ (G.new hp _) (G.newX hp _) (.tup jh (h.mono (Same.new (G.freeF hp) _)))
theorem Res.lst {l:List D} {vs:List V} (G:Good K tg F H ρ σ) (q:Res K tg F H ρ σ (.fr l) Q) (h:IsL K F l vs) {p:Addr} (hp:H p=none):Q (.ref p) (upd H p (.lst vs)) :=
  q _ _ _ (G.fresh hp _) (G.freshX hp _) ⟨p,vs,rfl,.inl hp,G.freeF hp,jh,h,fun z=>G.own_ne hp z rfl⟩
end
noncomputable def rOf (K:PySem.W.Frag) (g:D→D→Option Rv):R2:=fun x y H Q=>∃ tg F ρ σ d1 d2 r,Good K tg F H ρ σ∧Bor K F H d1 x∧Bor K F H d2 y∧g d1 d2=some r∧Res K tg F H ρ σ r Q
structure OpD (K:PySem.W.Frag) (X:Cx) (f:Value→Value→Sem Value) (g:D→D→Option Rv):Prop where
  go:X.K=K→OpR X f (rOf K g)
instance {K:PySem.W.Frag} {X:Cx} {f:Value→Value→Sem Value} {g:D→D→Option Rv}:CoeFun (OpD K X f g) fun _=>X.K=K→OpR X f (rOf K g):=⟨OpD.go⟩
noncomputable def mOp (g:D→D→Option Rv) (m:M (D×D)):M Rv:=m.bind fun p=>lift (g p.1 p.2)
theorem alw {g:D→D→Option Rv} {m:M (D×D)} {ta tb:TE} (h:∀ σ H R,T2 K m σ H R→ta σ H fun x H1=>tb σ H1 fun y H2=>R x y H2) (σ:L2.St) (H:Hp) (Q:VK) (t:T K (relR K) (mOp g m) σ H Q):tOp (rOf K g) ta tb σ H Q:=by
  obtain ⟨tg,F,ρ,r,ρ',G,em,q⟩:=t
  obtain ⟨p,ρ1,e1,em⟩:=bh em
  obtain ⟨e2,rfl⟩:=jc em
  refine h σ H _ ⟨tg,F,ρ,p,_,G,e1,fun x y H' F' G' x' bx by'=>⟨tg,F',_,σ,p.1,p.2,r,G',bx,by',e2,fun v H2 F2 G2 x2 rr=>q v H2 F2 G2 (x'.trans x2) ?_⟩⟩
  cases r with
  | v d=>exact rr
  | fr l =>
    obtain ⟨a,vs,ev,ha,w⟩:=rr
    refine ⟨a,vs,ev,?_,w⟩
    rcases ha with ha | ha
    · exact .inl (x'.there a ha)
    · exact (x'.own a ha).symm
  | tf d l =>
    obtain ⟨t,u,a,vs,ev,ht,hd,ha,w⟩:=rr
    refine ⟨t,u,a,vs,ev,ht,hd,?_,w⟩
    rcases ha with ha | ha
    · exact .inl (x'.there a ha)
    · exact (x'.own a ha).symm
theorem dw {op:Operator} {g:D→D→Option Rv} {m:M (D×D)} (ho:OpD K X (binaryOp op) g) (h:E2 K X a b m):ER K X (.BinOp a op b pos) (mOp g m):=ER.mk fun hk=>by
  obtain ⟨ta,tb,ha,hb,h⟩:=h hk
  exact PE.imp (a1j (ho hk) ha hb) (alw h)
theorem apo {op:CmpOp} {g:D→D→Option Rv} {m:M (D×D)} (ho:OpD K X (compareOp op) g) (h:E2 K X a b m) (hm:behindInMarks op b=false):ER K X (.Compare a [op] [b] pos) (mOp g m):=ER.mk fun hk=>by
  obtain ⟨ta,tb,ha,hb,h⟩:=h hk
  exact PE.imp (auo (ho hk) ha hb hm) (alw h)
noncomputable def capS:Nat:=16777216
theorem af9 {n:Nat} (h:n≤capS):n≤sizeLine:=by rw [sizeLine_eq]; exact h
noncomputable def gAdd:D→D→Option Rv
  | .int i,.int j=>some (.v (.int (i+j)))
  | .tup l,.tup k=>if l.length+k.length≤capS then some (.v (.tup (l++k))) else none
  | .lst l,.lst k=>if l.length+k.length≤capS then some (.fr (l++k)) else none
  | .str i,.str j=>if i.length+j.length≤capS then some (.v (.str (i++j))) else none
  | _,_=>none
theorem km:OpD K X (binaryOp .Add) gAdd:=OpD.mk fun hk=>by
  intro pins s σ0 H x y v u Q I rx ry ⟨tg,F,ρ,σ,d1,d2,r,G,b1,b2,eg,q⟩
  subst hk
  unfold gAdd at eg
  split at eg
  · cases eg
    obtain rfl:=b1.int
    obtain rfl:=b2.int
    exact axw pins s σ0 H _ _ v u Q I rx ry ⟨_,_,rfl,rfl,Res.same G q (.int _)⟩
  · split at eg
    · rename_i hz
      cases eg
      obtain ⟨a1,vs1,rfl,s1,i1⟩:=b1.tup
      obtain ⟨a2,vs2,rfl,s2,i2⟩:=b2.tup
      have l1:=i1.length
      have l2:=i2.length
      by_cases hx:vs1=[]
      · subst hx
        cases i1
        cases rx
        cases ry
        obtain ⟨its,r1,p1,_⟩:=I.tuple (SqT.of (G.sub _ _ s1))
        obtain ⟨its2,r2,p2,_⟩:=I.tuple (SqT.of (G.sub _ _ s2))
        exact asr p1 p2 (r1.nil_iff.mpr rfl) ⟨.ref a2,H,I,rfl,Res.same G q (.tup s2 i2)⟩
      · refine auv pins s σ0 H _ _ v u Q I rx ry ⟨a1,a2,vs1,vs2,rfl,rfl,SqT.of (G.sub _ _ s1),SqT.of (G.sub _ _ s2),hx,by rw [←l1,←l2]; exact af9 hz,fun e => ?_,fun _ p hp=>Res.tup G q (i1.append i2) hp⟩
        subst e
        cases i2
        exact Res.same G q (.tup s1 (by simpa using i1))
    · cases eg
  · split at eg
    · rename_i hz
      cases eg
      obtain ⟨a1,vs1,rfl,s1,i1⟩:=b1.lst G.sub
      obtain ⟨a2,vs2,rfl,s2,i2⟩:=b2.lst G.sub
      have l1:=i1.length
      have l2:=i2.length
      exact axv pins s σ0 H _ _ v u Q I rx ry ⟨a1,a2,vs1,vs2,rfl,rfl,s1,s2,by rw [←l1,←l2]; exact af9 hz,fun p hp=>Res.lst G q (i1.append i2) hp⟩
    · cases eg
  · split at eg
    · rename_i hz
      cases eg
      obtain rfl:=b1.str
      obtain rfl:=b2.str
      exact am1 pins s σ0 H _ _ v u Q I rx ry ⟨_,_,rfl,rfl,af9 hz,Res.same G q (.str _)⟩
    · cases eg
  · cases eg
noncomputable def gInt (f:Int→Int→Option Int):D→D→Option Rv
  | .int i,.int j=>(f i j).map fun k=>.v (.int k)
  | _,_=>none
theorem akh {op:Operator} {f:Int→Int→Option Int} {C:Int→Int→Prop} {g:Int→Int→Int} (h:OpR X (binaryOp op) (rI C fun i j=>.int (g i j))) (hf:∀ i j k,f i j=some k→C i j∧k=g i j):OpD K X (binaryOp op) (gInt f):=OpD.mk fun hk=>by
  intro pins s σ0 H x y v u Q I rx ry ⟨tg,F,ρ,σ,d1,d2,r,G,b1,b2,eg,q⟩
  unfold gInt at eg
  split at eg
  · rename_i i j
    obtain rfl:=b1.int
    obtain rfl:=b2.int
    cases z:f i j with
    | none=>rw [z] at eg; cases eg
    | some k =>
      rw [z] at eg
      cases eg
      obtain ⟨h1,rfl⟩:=hf i j k z
      exact h pins s σ0 H _ _ v u Q I rx ry ⟨_,_,rfl,rfl,h1,Res.same G q (.int _)⟩
  · cases eg
noncomputable def fSub (i j:Int):Option Int:=some (i - j)
noncomputable def fMul (i j:Int):Option Int:=if (-18446744073709551616 < i∧i < 18446744073709551616)∨(-18446744073709551616 < j∧j < 18446744073709551616) then some (i*j) else none
theorem ax1 {i j:Int} (h0:0 < j) (h:j < 1000000000000000000000000000000000000000000000000000000000000):Builtin.divisionGoesByPylong i j=false:=by
  have e2:(2:Nat) ^ 200=1606938044258990275541962092341162602522202993782792835301376:=by decide +kernel
  have hl:j.natAbs.log2 < 200:=(Nat.log2_lt (by omega)).2 (by rw [e2]; omega)
  have hd:¬(j.natAbs.log2 / 30+1 > 300):=by omega
  have hj:(j==0)=false:=by
    rw [beq_eq_false_iff_ne]
    omega
  unfold Builtin.divisionGoesByPylong
  simp only [hj,Bool.false_eq_true,if_false,hd,decide_false,Bool.false_and]
theorem arj:OpR X (binaryOp .FloorDiv) (rI (fun _ j=>0 < j∧j < 1000000000000000000000000000000000000000000000000000000000000) fun i j=>.int (i / j)):=opI fun i j _ _ _ _ _ hc q=>by
  have h1:(0:Int) < j:=hc.1
  exact floordiv_int (by omega) (by rw [Int.fdiv_eq_ediv_of_nonneg i (by omega)]; exact q) (.inl (ax1 hc.1 hc.2))
noncomputable def fDiv (i j:Int):Option Int:=if 0 < j∧j < 1000000000000000000000000000000000000000000000000000000000000 then some (i / j) else none
noncomputable def fMod (i j:Int):Option Int:=if 0 < j then some (i % j) else none
noncomputable def fPow (i j:Int):Option Int:=if 0≤j∧j≤1000000∧i.natAbs < 18446744073709551616 then some (i ^ j.toNat) else none
theorem aaq:OpD K X (binaryOp .Sub) (gInt fSub):=OpD.mk fun hk=>by
  intro pins s σ0 H x y v u Q I rx ry ⟨tg,F,ρ,σ,d1,d2,r,G,b1,b2,eg,q⟩
  unfold gInt at eg
  split at eg
  · obtain rfl:=b1.int
    obtain rfl:=b2.int
    cases eg
    exact axp pins s σ0 H _ _ v u Q I rx ry ⟨_,_,rfl,rfl,Res.same G q (.int _)⟩
  · cases eg
end
end Dn
namespace Dn
open PySem PySem.Spec PyProof.Rows L2 Mn
mutual
noncomputable def toPy:D→PyData
  | .non=>.none
  | .bl b=>.bool b
  | .int i=>.int i
  | .str x=>.str x
  | .tup l=>.tuple (adp l)
  | .lst l=>.list (adp l)
  | .kst l=>.list (adp l)
  | .dct _=>.dict []
  | .exn _ _=>.dict []
noncomputable def adp:List D→List PyData
  | []=>[]
  | d::r=>toPy d::adp r
end
noncomputable def okD:Nat→D→Bool
  | _,.non=>true
  | _,.bl _=>true
  | _,.int _=>true
  | _,.str x=>PyData.strOk x
  | n+1,.tup l=>l.all (okD n)
  | n+1,.lst l=>l.all (okD n)
  | n+1,.kst l=>l.all (okD n)
  | _,_=>false
theorem ahv {n:Nat} (ih:∀ d,okD n d=true→(toPy d).canLay0=true∧(toPy d).depth≤n):∀ l:List D,l.all (okD n)=true→PyData.canLayAll0 (adp l)=true∧PyData.depthAll (adp l)≤n
  | [],_=>⟨rfl,Nat.zero_le _⟩
  | d::r,h=>by
    rw [List.all_cons,Bool.and_eq_true] at h
    obtain ⟨h1,h2⟩:=ih d h.1
    obtain ⟨h3,h4⟩:=ahv ih r h.2
    refine ⟨?_,?_⟩
    · show (PyData.canLay0 (toPy d)&&PyData.canLayAll0 (adp r))=true
      rw [h1,h3]
      rfl
    · show max (PyData.depth (toPy d)) (PyData.depthAll (adp r))≤n
      omega
theorem aca:∀ (n:Nat) (d:D),okD n d=true→(toPy d).canLay0=true∧(toPy d).depth≤n
  | n,.non,_=>⟨rfl,Nat.zero_le _⟩
  | n,.bl _,_=>⟨rfl,Nat.zero_le _⟩
  | n,.int _,_=>⟨rfl,Nat.zero_le _⟩
  | n,.str x,h=>by
    refine ⟨?_,Nat.zero_le _⟩
    cases n <;> exact h
  | n+1,.tup l,h=>by
    obtain ⟨h1,h2⟩:=ahv (aca n) l h
    exact ⟨h1,Nat.succ_le_succ h2⟩
  | n+1,.lst l,h=>by
    obtain ⟨h1,h2⟩:=ahv (aca n) l h
    exact ⟨h1,Nat.succ_le_succ h2⟩
  | n+1,.kst l,h=>by
    obtain ⟨h1,h2⟩:=ahv (aca n) l h
    exact ⟨h1,Nat.succ_le_succ h2⟩
  | 0,.tup l,h=>by cases h
  | 0,.lst l,h=>by cases h
  | 0,.kst l,h=>by cases h
  | 0,.dct l,h=>by cases h
  | n+1,.dct l,h=>by cases h
  | 0,.exn _ _,h=>by cases h
  | n+1,.exn _ _,h=>by cases h
noncomputable def eqD (a b:D):Bool:=PyData.eqv (toPy a) (toPy b)
noncomputable def eqDs:List D→List D→Bool
  | [],[]=>true
  | a::r,b::t=>eqD a b&&eqDs r t
  | _,_=>false
theorem ak4:∀ a b:List D,PyData.eqvAll (adp a) (adp b)=eqDs a b
  | [],[]=>rfl
  | a::r,b::t=>by
    show (PyData.eqv (toPy a) (toPy b)&&PyData.eqvAll (adp r) (adp t))=_
    rw [ak4 r t]
    rfl
  | [],_::_=>rfl
  | _::_,[]=>rfl
section
variable {K:PySem.W.Frag} {X:Cx}
section
variable {pins:List (Addr×Obj)} {σ:L2.St} {F H:Hp} {s:Shared}
mutual
theorem ahl (I:Inv X pins σ H s) (g:Same F H):∀ {n:Nat} {d:D} {v:V} {u:Value},Is X.K F d v→okD n d=true→RelV v u→∃ as,Reads s.heap u (toPy d) as
  | _,_,_,_,.non,_,r=>by cases r; exact ⟨_,.none⟩
  | _,_,_,_,.bl b,_,r=>by cases r; exact ⟨_,.bool b⟩
  | _,_,_,_,.int i,_,r=>by obtain ⟨t,rfl⟩:=r; exact ⟨_,.int i t⟩
  | _,_,_,_,.str i,_,r=>by obtain ⟨t,rfl⟩:=r; exact ⟨_,.str i t⟩
  | 0,_,_,_,.tup e h,k,r=>by cases k
  | n+1,_,_,_,.tup e h,k,r=>by
    cases r
    obtain ⟨its,rv,p1,_⟩:=I.tuple (SqT.of (g _ _ e))
    obtain ⟨o,ho,hc,m,hd⟩:=p1
    obtain ⟨as,ra⟩:=abb I g h k rv
    exact ⟨_,.tuple ho hc hd (by simpa using ra)⟩
  | 0,_,_,_,.lst e h,k,r=>by cases k
  | n+1,_,_,_,.lst e h,k,r=>by
    cases r
    obtain ⟨its,rv,p1,_⟩:=I.list (SqL.of (g _ _ e))
    obtain ⟨o,ho,hc,m,hd⟩:=p1.isList
    obtain ⟨as,ra⟩:=abb I g h k rv
    exact ⟨_,.list ho hc hd (by simpa using ra)⟩
  | 0,_,_,_,.kst e h,k,r=>by cases k
  | n+1,_,_,_,.kst e h,k,r=>by
    cases r
    obtain ⟨its,rv,p1,_⟩:=I.list (L2.Same.seq g e)
    obtain ⟨o,ho,hc,m,hd⟩:=p1.isList
    obtain ⟨as,ra⟩:=abb I g h k rv
    exact ⟨_,.list ho hc hd (by simpa using ra)⟩
  | 0,_,_,_,.dct e h,k,r=>by cases k
  | n+1,_,_,_,.dct e h,k,r=>by cases k
  | 0,_,_,_,.exn ..,k,r=>by cases k
  | n+1,_,_,_,.exn ..,k,r=>by cases k
theorem abb (I:Inv X pins σ H s) (g:Same F H):∀ {n:Nat} {ds:List D} {vs:List V} {us:List Value},IsL X.K F ds vs→ds.all (okD n)=true→Vals vs us→∃ as,ReadsAll s.heap us (adp ds) as
  | _,_,_,_,.nil,_,r=>by cases r; exact ⟨_,.nil⟩
  | n,_,_,_,.cons h t,k,r=>by
    rw [List.all_cons,Bool.and_eq_true] at k
    cases r with
    | cons r1 r2 =>
      obtain ⟨as,ra⟩:=ahl I g h k.1 r1
      obtain ⟨bs,rb⟩:=abb I g t k.2 r2
      exact ⟨_,.cons ra rb⟩
end
theorem aac (I:Inv X pins σ H s) (g:Same F H) {n:Nat} {d:D} {v:V} {u:Value} (h:Bor X.K F H d v) (k:okD n d=true) (r:RelV v u):∃ as,Reads s.heap u (toPy d) as:=by
  rcases h with h | ⟨a,vs,l,rfl,rfl,e,h⟩
  · exact ahl I g h k r
  · cases r
    cases n with
    | zero=>cases k
    | succ n =>
      obtain ⟨its,rv,p1,_⟩:=I.list (SqL.of e)
      obtain ⟨o,ho,hc,m,hd⟩:=p1.isList
      obtain ⟨as,ra⟩:=abb I g h k rv
      exact ⟨_,.list ho hc hd (by simpa using ra)⟩
end
noncomputable def gEq (neg:Bool) (a b:D):Option Rv:=if okD 30 a&&okD 30 b then some (.v (.bl (if neg then !eqD a b else eqD a b))) else none
theorem as7 (hu:X.A.units+64 < cLine):OpD K X (compareOp .Eq) (gEq false):=OpD.mk fun hk=>by
  intro pins s σ0 H x y v u Q I rx ry ⟨tg,F,ρ,σ,d1,d2,r,G,b1,b2,eg,q⟩
  subst hk
  unfold gEq at eg
  split at eg
  · rename_i ho
    rw [Bool.and_eq_true] at ho
    cases eg
    obtain ⟨as,ra⟩:=aac I G.sub b1 ho.1 rx
    obtain ⟨bs,rb⟩:=aac I G.sub b2 ho.2 ry
    obtain ⟨c1,p1⟩:=aca _ _ ho.1
    obtain ⟨c2,p2⟩:=aca _ _ ho.2
    exact PySem.SeqAt.compareEq_reads ra rb c1 c2 (by omega) ⟨.bl _,H,I,rfl,Res.same G q (.bl _)⟩
  · cases eg
theorem afh (hu:X.A.units+64 < cLine):OpD K X (compareOp .NotEq) (gEq true):=OpD.mk fun hk=>by
  intro pins s σ0 H x y v u Q I rx ry ⟨tg,F,ρ,σ,d1,d2,r,G,b1,b2,eg,q⟩
  subst hk
  unfold gEq at eg
  split at eg
  · rename_i ho
    rw [Bool.and_eq_true] at ho
    cases eg
    obtain ⟨as,ra⟩:=aac I G.sub b1 ho.1 rx
    obtain ⟨bs,rb⟩:=aac I G.sub b2 ho.2 ry
    obtain ⟨c1,p1⟩:=aca _ _ ho.1
    obtain ⟨c2,p2⟩:=aca _ _ ho.2
    exact PySem.SeqAt.compareNe_reads ra rb c1 c2 (by omega) ⟨.bl _,H,I,rfl,Res.same G q (.bl _)⟩
  · cases eg
noncomputable def itemsD:D→Option (List D)
  | .tup l=>some l
  | .lst l=>some l
  | .kst l=>some l
  | _=>none
noncomputable def gIn (neg:Bool) (a b:D):Option Rv:=match itemsD b with
  | some l=>if okD 30 a&&l.all (okD 30) then some (.v (.bl (if neg then !l.any (fun y=>eqD y a) else l.any (fun y=>eqD y a)))) else none
  | none=>none
open Classical in
noncomputable def ab9 (h:Heap) (dx:PyData) (u:Value):Bool:=decide (∃ d as,Reads h u d as∧d.canLay0=true∧PyData.eqv d dx=true)
open Classical in
theorem ame {h:Heap} {dx d:PyData} {u:Value} {as:List Addr} (r:Reads h u d as) (c:d.canLay0=true):ab9 h dx u=PyData.eqv d dx:=by
  unfold ab9
  cases e:PyData.eqv d dx with
  | true=>exact decide_eq_true ⟨d,as,r,c,e⟩
  | false =>
    refine decide_eq_false ?_
    rintro ⟨d',as',r',c',e'⟩
    rw [←PySem.SeqAt.Reads.unique d d' u as as' c r r'] at e'
    rw [e] at e'
    cases e'
theorem abp {pins:List (Addr×Obj)} {σ:L2.St} {F H:Hp} {s:Shared} (I:Inv X pins σ H s) (g:Same F H) {a:D} {n:Nat}:∀ {ds:List D} {vs:List V} {us:List Value},IsL X.K F ds vs→ds.all (okD n)=true→Vals vs us →
    us.any (ab9 s.heap (toPy a))=ds.any (fun y=>eqD y a)∧∀ u∈us,∃ d as,Reads s.heap u d as∧d.canLay0=true∧d.depth≤n
  | _,_,_,.nil,_,r=>by cases r; exact ⟨rfl,fun u hu=>by cases hu⟩
  | _,_,_,.cons h t,k,r=>by
    rw [List.all_cons,Bool.and_eq_true] at k
    cases r with
    | cons r1 r2 =>
      obtain ⟨as,ra⟩:=ahl I g h k.1 r1
      obtain ⟨c,p⟩:=aca _ _ k.1
      obtain ⟨e,z⟩:=abp I g (a:=a) t k.2 r2
      refine ⟨?_,fun u hu => ?_⟩
      · rw [List.any_cons,List.any_cons,e,ame ra c]
        rfl
      · rcases List.mem_cons.mp hu with rfl | hu
        · exact ⟨_,as,ra,c,p⟩
        · exact z u hu
theorem abz {s:Shared} {A:Around} (hu:A.units+64 < cLine) {us:List Value} {a:D} {v:Value} {as:List Addr} (ra:Reads s.heap v (toPy a) as) (ka:okD 30 a=true) (z:∀ u∈us,∃ d as,Reads s.heap u d as∧d.canLay0=true∧d.depth≤30) :
    ∀ u∈us,SeqAt.EqAt A.in1 s u v (ab9 s.heap (toPy a) u):=fun u hm=>by
  obtain ⟨d,bs,rb,c,p⟩:=z u hm
  obtain ⟨c2,p2⟩:=aca _ _ ka
  rw [ame rb c]
  refine PySem.SeqAt.eqAt_reads d (toPy a) A.in1 s u v bs as rb ra c c2 ?_
  show A.units+1+_ < _
  omega
theorem ajh {a b:D} {neg:Bool} {r:Rv} (h:gIn neg a b=some r):∃ l,itemsD b=some l∧okD 30 a=true∧l.all (okD 30)=true∧r=.v (.bl (if neg then !l.any (fun y=>eqD y a) else l.any (fun y=>eqD y a))):=by
  unfold gIn at h
  split at h
  · rename_i l e
    split at h
    · rename_i ho
      rw [Bool.and_eq_true] at ho
      cases h
      exact ⟨l,e,ho.1,ho.2,rfl⟩
    · cases h
  · cases h
theorem ae7 {F H:Hp} {d:D} {l:List D} {x:V} (g:Same F H) (e:itemsD d=some l) (h:Bor K F H d x):∃ a vs,x=.ref a∧IsL K F l vs∧(SqL K H a vs∨SqT K H a vs):=by
  cases d with
  | tup k =>
    cases e
    obtain ⟨a,vs,rfl,e,h⟩:=h.tup
    exact ⟨a,vs,rfl,h,.inr (SqT.of (g _ _ e))⟩
  | lst k =>
    cases e
    obtain ⟨a,vs,rfl,e,h⟩:=h.lst g
    exact ⟨a,vs,rfl,h,.inl (SqL.of e)⟩
  | kst k =>
    cases e
    obtain ⟨a,vs,rfl,e,h⟩:=h.kst
    exact ⟨a,vs,rfl,h,.inl (L2.Same.seq g e)⟩
  | _=>cases e
theorem aoq (hu:X.A.units+64 < cLine):OpD K X (compareOp .In) (gIn false):=OpD.mk fun hk=>by
  intro pins s σ0 H x y v u Q I rx ry ⟨tg,F,ρ,σ,d1,d2,r,G,b1,b2,eg,q⟩
  subst hk
  obtain ⟨l,e,k1,k2,rfl⟩:=ajh eg
  obtain ⟨as,ra⟩:=aac I G.sub b1 k1 rx
  obtain ⟨p,vs,rfl,hl,hs⟩:=ae7 G.sub e b2
  cases ry
  rcases hs with hs | hs
  · obtain ⟨its,rv,pl,_⟩:=I.list hs
    obtain ⟨ea,z⟩:=abp I G.sub (a:=d1) hl k2 rv
    refine SeqAt.in_listAt (ab9 s.heap (toPy d1)) pl.isList (fun w hw=>abz hu ra k1 z w (by simpa using hw)) ⟨.bl _,H,I,rfl,?_⟩
    rw [show its.toArray.any (ab9 s.heap (toPy d1))=its.any (ab9 s.heap (toPy d1)) by simp,ea]
    exact Res.same G q (.bl _)
  · obtain ⟨its,rv,pl,_⟩:=I.tuple hs
    obtain ⟨ea,z⟩:=abp I G.sub (a:=d1) hl k2 rv
    refine SeqAt.in_tupleAt (ab9 s.heap (toPy d1)) pl (fun w hw=>abz hu ra k1 z w (by simpa using hw)) ⟨.bl _,H,I,rfl,?_⟩
    rw [show its.toArray.any (ab9 s.heap (toPy d1))=its.any (ab9 s.heap (toPy d1)) by simp,ea]
    exact Res.same G q (.bl _)
theorem afg (hu:X.A.units+64 < cLine):OpD K X (compareOp .NotIn) (gIn true):=OpD.mk fun hk=>by
  intro pins s σ0 H x y v u Q I rx ry ⟨tg,F,ρ,σ,d1,d2,r,G,b1,b2,eg,q⟩
  subst hk
  obtain ⟨l,e,k1,k2,rfl⟩:=ajh eg
  obtain ⟨as,ra⟩:=aac I G.sub b1 k1 rx
  obtain ⟨p,vs,rfl,hl,hs⟩:=ae7 G.sub e b2
  cases ry
  rcases hs with hs | hs
  · obtain ⟨its,rv,pl,_⟩:=I.list hs
    obtain ⟨ea,z⟩:=abp I G.sub (a:=d1) hl k2 rv
    refine SeqAt.notIn_listAt (ab9 s.heap (toPy d1)) pl.isList (fun w hw=>abz hu ra k1 z w (by simpa using hw)) ⟨.bl _,H,I,rfl,?_⟩
    rw [show its.toArray.any (ab9 s.heap (toPy d1))=its.any (ab9 s.heap (toPy d1)) by simp,ea]
    exact Res.same G q (.bl _)
  · obtain ⟨its,rv,pl,_⟩:=I.tuple hs
    obtain ⟨ea,z⟩:=abp I G.sub (a:=d1) hl k2 rv
    refine SeqAt.notIn_tupleAt (ab9 s.heap (toPy d1)) pl (fun w hw=>abz hu ra k1 z w (by simpa using hw)) ⟨.bl _,H,I,rfl,?_⟩
    rw [show its.toArray.any (ab9 s.heap (toPy d1))=its.any (ab9 s.heap (toPy d1)) by simp,ea]
    exact Res.same G q (.bl _)
end
end Dn
namespace Dn
open PySem PySem.Spec PyProof.Rows L2 Mn
section
variable {K:PySem.W.Frag} {X:Cx} {e a b c:Expr} {es:List Expr} {pos p:Pos}
theorem aut:OpD K X (binaryOp .FloorDiv) (gInt fDiv):=akh arj fun i j k h=>by
  unfold fDiv at h
  split at h
  · cases h; exact ⟨by assumption,rfl⟩
  · cases h
theorem zy:OpD K X (binaryOp .Mod) (gInt fMod):=akh axt fun i j k h=>by
  unfold fMod at h
  split at h
  · cases h; exact ⟨by assumption,rfl⟩
  · cases h
theorem aus:OpD K X (binaryOp .Pow) (gInt fPow):=akh axr fun i j k h=>by
  unfold fPow at h
  split at h
  · rename_i hc
    cases h
    exact ⟨⟨hc.1,hc.2.1,hc.2.2⟩,rfl⟩
  · cases h
noncomputable def gMul:D→D→Option Rv
  | .int i,.int j=>(fMul i j).map fun k=>.v (.int k)
  | .tup l,.int k=>if k=1 then some (.v (.tup l)) else if l≠[]∧2≤k∧k < 9223372036854775808∧l.length*k.toNat≤capS then some (.v (.tup (List.replicate k.toNat l).flatten)) else none
  | .lst l,.int k=>if k.natAbs < 9223372036854775808∧l.length*k.toNat≤capS then some (.fr (List.replicate k.toNat l).flatten) else none
  | _,_=>none
theorem abd:OpD K X (binaryOp .Mult) gMul:=OpD.mk fun hk=>by
  intro pins s σ0 H x y v u Q I rx ry ⟨tg,F,ρ,σ,d1,d2,r,G,b1,b2,eg,q⟩
  subst hk
  unfold gMul at eg
  split at eg
  · rename_i i j
    obtain rfl:=b1.int
    obtain rfl:=b2.int
    unfold fMul at eg
    split at eg
    · rename_i hc
      cases eg
      exact axs pins s σ0 H _ _ v u Q I rx ry ⟨_,_,rfl,rfl,hc,Res.same G q (.int _)⟩
    · cases eg
  · rename_i l k
    split at eg
    · rename_i hk1
      subst hk1
      cases eg
      obtain ⟨a1,vs1,rfl,s1,i1⟩:=b1.tup
      obtain rfl:=b2.int
      exact auu pins s σ0 H _ _ v u Q I rx ry ⟨a1,vs1,rfl,rfl,G.sub _ _ s1,Res.same G q (.tup s1 i1)⟩
    split at eg
    · rename_i hc
      obtain ⟨h0,h2,h3,hz⟩:=hc
      cases eg
      obtain ⟨a1,vs1,rfl,s1,i1⟩:=b1.tup
      obtain rfl:=b2.int
      have l1:=i1.length
      refine ari pins s σ0 H _ _ v u Q I rx ry ⟨a1,vs1,k,rfl,rfl,G.sub _ _ s1,?_,h2,h3,by rw [←l1]; exact af9 hz,fun p hp=>Res.tup G q (i1.rep _) hp⟩
      intro z
      subst z
      cases i1
      exact h0 rfl
    · cases eg
  · rename_i l k
    split at eg
    · rename_i hc
      obtain ⟨hab,hz⟩:=hc
      have h0 : -9223372036854775808≤k:=by omega
      have h2:k < 9223372036854775808:=by omega
      cases eg
      obtain ⟨a1,vs1,rfl,s1,i1⟩:=b1.lst G.sub
      obtain rfl:=b2.int
      have l1:=i1.length
      exact axq pins s σ0 H _ _ v u Q I rx ry ⟨a1,k,vs1,rfl,rfl,s1,h0,h2,by rw [←l1]; exact af9 hz,fun p hp=>Res.lst G q (i1.rep _) hp⟩
    · cases eg
  · cases eg
noncomputable def gCmp (f:Int→Int→Bool):D→D→Option Rv
  | .int i,.int j=>some (.v (.bl (f i j)))
  | _,_=>none
theorem aor {op:CmpOp} {f:Int→Int→Bool} (h:OpR X (compareOp op) (rI0 fun i j=>.bl (f i j))):OpD K X (compareOp op) (gCmp f):=OpD.mk fun hk=>by
  intro pins s σ0 H x y v u Q I rx ry ⟨tg,F,ρ,σ,d1,d2,r,G,b1,b2,eg,q⟩
  unfold gCmp at eg
  split at eg
  · cases eg
    obtain rfl:=b1.int
    obtain rfl:=b2.int
    exact h pins s σ0 H _ _ v u Q I rx ry ⟨_,_,rfl,rfl,Res.same G q (.bl _)⟩
  · cases eg
theorem afi:OpD K X (compareOp .Lt) (gCmp fun i j=>decide (i < j)):=aor axu
theorem abe:OpD K X (compareOp .GtE) (gCmp fun i j=>decide (j≤i)):=aor a1q
noncomputable def gNeg:D→Option D
  | .int i=>some (.int (-i))
  | _=>none
noncomputable def mUn (g:D→Option D) (m:M D):M D:=m.bind fun d=>lift (g d)
theorem af2 {m:M D} (h:EV K X a m):EV K X (.UnaryOp .USub a pos) (mUn gNeg m):=EV.mk fun hk=>PE.imp (a1i awr (h hk)) fun σ H Q hq0=>by
  obtain ⟨tg,F,ρ,d,ρ',G,em,q⟩:=hq0
  obtain ⟨d1,ρ1,e1,em⟩:=bh em
  obtain ⟨e2,rfl⟩:=jc em
  refine ⟨tg,F,ρ,d1,_,G,e1,fun v H' F' G' x r => ?_⟩
  cases d1 with
  | int i =>
    cases e2
    cases r
    exact ⟨i,rfl,q _ H' F' G' x (.int _)⟩
  | _=>cases e2
noncomputable def asB:D→Option Bool
  | .bl b=>some b
  | _=>none
noncomputable def gNot (d:D):Option D:=(asB d).map fun k=>.bl (!k)
theorem aqg {d:D} {k:Bool} (h:asB d=some k):d=.bl k:=by
  cases d with
  | bl b=>cases h; rfl
  | _=>cases h
theorem atj {m:M D} (h:EV K X a m):EV K X (.UnaryOp .Not a pos) (mUn gNot m):=EV.mk fun hk=>PE.imp (axj (h hk)) fun σ H Q hq0=>by
  obtain ⟨tg,F,ρ,d,ρ',G,em,q⟩:=hq0
  obtain ⟨d1,ρ1,e1,em⟩:=bh em
  obtain ⟨e2,rfl⟩:=jc em
  refine ⟨tg,F,ρ,d1,_,G,e1,fun v H' F' G' x r => ?_⟩
  cases d1 with
  | bl i =>
    cases e2
    cases r
    exact ⟨i,rfl,q _ H' F' G' x (.bl _)⟩
  | _=>cases e2
noncomputable def mAnd (m1 m2:M D):M D:=m1.bind fun d=>(lift (asB d)).bind fun k=>if k=true then m2 else ret (.bl false)
noncomputable def mOr (m1 m2:M D):M D:=m1.bind fun d=>(lift (asB d)).bind fun k=>if k=true then ret (.bl true) else m2
theorem amb {op} {m:M D} (h:EV K X a m):EV K X (.BoolOp op [a] pos) m:=EV.mk fun hk=>axi (h hk)
theorem amd {m1 m2:M D} {rest:List Expr} (h1:EV K X a m1) (h2:EV K X (.BoolOp .And (b::rest) pos) m2):EV K X (.BoolOp .And (a::b::rest) pos) (mAnd m1 m2):=EV.mk fun hk=>PE.imp (axo (h1 hk) (h2 hk)) fun σ H Q hq0=>by
  obtain ⟨tg,F,ρ,d,ρ',G,em,q⟩:=hq0
  obtain ⟨d1,ρ1,e1,em⟩:=bh em
  obtain ⟨k,ρ2,e2,em⟩:=bh em
  obtain ⟨e3,rfl⟩:=jc e2
  obtain rfl:=aqg e3
  refine ⟨tg,F,ρ,_,_,G,e1,fun v H' F' G' x r => ?_⟩
  cases r
  refine ⟨k,rfl,?_⟩
  cases k with
  | true=>exact iteT ⟨tg,F',_,d,ρ',G',em,fun v2 H2 F2 G2 x2 r2=>q v2 H2 F2 G2 (x.trans x2) r2⟩
  | false =>
    obtain ⟨rfl,rfl⟩:=j7 (show ret (D.bl false) _=_ from em)
    exact iteF (q _ H' F' G' x (.bl _))
noncomputable def TB (K:PySem.W.Frag) (m:M Bool):TT:=fun σ H Q=>∃ tg F ρ k ρ',Good K tg F H ρ σ∧m ρ=some (.ok k,ρ')∧∀ H' F',Good K tg F' H' ρ' σ→Ext (Own ρ σ) (Own ρ' σ) F H F' H'→Q k H'
structure ET (K:PySem.W.Frag) (X:Cx) (e:Expr) (m:M Bool):Prop where
  go:X.K=K→PT X e (TB K m)
instance {K:PySem.W.Frag} {X:Cx} {e:Expr} {m:M Bool}:CoeFun (ET K X e m) fun _=>X.K=K→PT X e (TB K m):=⟨ET.go⟩
structure EW (K:PySem.W.Frag) (X:Cx) (e:Expr) (m:M Bool):Prop where
  go:X.K=K→PW X e (TB K m)
instance {K:PySem.W.Frag} {X:Cx} {e:Expr} {m:M Bool}:CoeFun (EW K X e m) fun _=>X.K=K→PW X e (TB K m):=⟨EW.go⟩
theorem PT.imp {t t':TT} (h:PT X e t) (w:∀ σ H Q,t' σ H Q→t σ H Q):PT X e t':=fun pins s σ H Q I q=>h pins s σ H Q I (w σ H Q q)
theorem PW.imp {t t':TT} (h:PW X e t) (w:∀ σ H Q,t' σ H Q→t σ H Q):PW X e t':=fun wh pins s σ H Q I q=>h wh pins s σ H Q I (w σ H Q q)
theorem EW.pt {m:M Bool} (h:EW K X e m):ET K X e m:=ET.mk fun hk=>(h hk).pt
noncomputable def aae (m:M D):M Bool:=m.bind fun d=>lift (asB d)
theorem aqx {m:M D} (σ:L2.St) (H:Hp) (Q:Bool→Hp→Prop) (t:TB K (aae m) σ H Q):tB (T K (relD K) m) σ H Q:=by
  obtain ⟨tg,F,ρ,k,ρ',G,em,q⟩:=t
  obtain ⟨d1,ρ1,e1,em⟩:=bh em
  obtain ⟨e3,rfl⟩:=jc em
  obtain rfl:=aqg e3
  refine ⟨tg,F,ρ,_,_,G,e1,fun v H' F' G' x r => ?_⟩
  cases r
  exact ⟨k,rfl,q H' F' G' x⟩
theorem yq {m:M D} (h:EV K X e m) (he:∀ whole,isTrue e X.env whole=(do let v ←whole; standAt e.pos; holding [v] (truthy v)):=by intro _; rfl):ET K X e (aae m):=ET.mk fun hk=>PT.imp (aw7 (h hk) he) aqx
noncomputable def jk (g:D→D→Option Rv) (m:M (D×D)):M Bool:=aae (mOp g m).d
theorem jw {op:CmpOp} {g:D→D→Option Rv} {m:M (D×D)} (ho:OpD K X (compareOp op) g) (h:E2 K X a b m) (hm:behindInMarks op b=false):ET K X (.Compare a [op] [b] pos) (jk g m):=ET.mk fun hk=>by
  obtain ⟨ta,tb,ha,hb,h⟩:=h hk
  refine PT.imp (at6 (ho hk) ha hb hm) fun σ H Q t => ?_
  obtain ⟨tg,F,ρ,k,ρ',G,em,q⟩:=t
  obtain ⟨d1,ρ1,e1,em⟩:=bh em
  obtain ⟨e3,rfl⟩:=jc em
  obtain rfl:=aqg e3
  obtain ⟨r,ρ2,e1,em⟩:=bh e1
  obtain ⟨er,rfl⟩:=j7 em
  refine alw h σ H _ ⟨tg,F,ρ,r,_,G,e1,fun v H' F' G' x w => ?_⟩
  cases r with
  | v d =>
    have er:d=.bl k:=er
    subst er
    have w:Is K F' (.bl k) v:=w
    cases w
    exact ⟨k,rfl,q H' F' G' x⟩
  | fr l=>cases er
  | tf d l=>cases er
noncomputable def ab8 (m:M Bool):M Bool:=m.bind fun k=>ret (!k)
theorem zr {m:M Bool} (h:ET K X a m):ET K X (.UnaryOp .Not a pos) (ab8 m):=ET.mk fun hk=>PT.imp (aw8 (h hk)) fun σ H Q hq0=>by
  obtain ⟨tg,F,ρ,k,ρ',G,em,q⟩:=hq0
  obtain ⟨d1,ρ1,e1,em⟩:=bh em
  obtain ⟨rfl,rfl⟩:=j7 em
  exact ⟨tg,F,ρ,d1,_,G,e1,fun H' F' G' x=>q H' F' G' x⟩
noncomputable def au8 (m1 m2:M Bool):M Bool:=m1.bind fun k=>if k=true then m2 else ret false
noncomputable def mOrB (m1 m2:M Bool):M Bool:=m1.bind fun k=>if k=true then ret true else m2
theorem av2 {m:M Bool} (h:ET K X a m):EW K X (.BoolOp .And [a] pos) m:=EW.mk fun hk=>at5 (h hk)
theorem ag0 {m:M Bool} (h:ET K X a m):EW K X (.BoolOp .Or [a] pos) m:=EW.mk fun hk=>aw3 (h hk)
theorem ay4 {m1 m2:M Bool} {rest:List Expr} (h1:ET K X a m1) (h2:EW K X (.BoolOp .And (b::rest) pos) m2):EW K X (.BoolOp .And (a::b::rest) pos) (au8 m1 m2):=EW.mk fun hk=>PW.imp (aw4 (h1 hk) (h2 hk)) fun σ H Q hq0=>by
  obtain ⟨tg,F,ρ,d,ρ',G,em,q⟩:=hq0
  obtain ⟨k,ρ1,e1,em⟩:=bh em
  refine ⟨tg,F,ρ,k,_,G,e1,fun H' F' G' x => ?_⟩
  cases k with
  | true=>exact iteT ⟨tg,F',_,d,ρ',G',em,fun H2 F2 G2 x2=>q H2 F2 G2 (x.trans x2)⟩
  | false =>
    obtain ⟨rfl,rfl⟩:=j7 (show ret false _=_ from em)
    exact iteF (q H' F' G' x)
theorem ak2 {m1 m2:M Bool} {rest:List Expr} (h1:ET K X a m1) (h2:EW K X (.BoolOp .Or (b::rest) pos) m2):EW K X (.BoolOp .Or (a::b::rest) pos) (mOrB m1 m2):=EW.mk fun hk=>PW.imp (a1d (h1 hk) (h2 hk)) fun σ H Q hq0=>by
  obtain ⟨tg,F,ρ,d,ρ',G,em,q⟩:=hq0
  obtain ⟨k,ρ1,e1,em⟩:=bh em
  refine ⟨tg,F,ρ,k,_,G,e1,fun H' F' G' x => ?_⟩
  cases k with
  | false=>exact iteF ⟨tg,F',_,d,ρ',G',em,fun H2 F2 G2 x2=>q H2 F2 G2 (x.trans x2)⟩
  | true =>
    obtain ⟨rfl,rfl⟩:=j7 (show ret true _=_ from em)
    exact iteT (q H' F' G' x)
noncomputable def agr (f g:Int→Int→Bool) (m1 m2 m3:M D):M D:=m1.bind fun x=>m2.bind fun y=>match x,y with
  | .int i,.int j=>if f i j=true then m3.bind fun z=>match z with
    | .int k=>ret (.bl (g j k))
    | _=>lift none
    else ret (.bl false)
  | _,_=>lift none
theorem ap1 {f g:Int→Int→Bool} {m1 m2 m3:M D} (σ:L2.St) (H:Hp) (Q:VK) (t:T K (relD K) (agr f g m1 m2 m3) σ H Q) :
    as4 (rI0 fun i j=>.bl (f i j)) (rI0 fun i j=>.bl (g i j)) (T K (relD K) m1) (T K (relD K) m2) (T K (relD K) m3) σ H Q:=by
  obtain ⟨tg,F,ρ,d,ρ',G,em,q⟩:=t
  obtain ⟨d1,ρ1,e1,em⟩:=bh em
  obtain ⟨d2,ρ2,e2,em⟩:=bh em
  have bad:∀ {ρ:Ro},(lift (none:Option D)) ρ=some (.ok d,ρ')→False:=fun z=>by
    obtain ⟨z,_⟩:=jc z
    cases z
  cases d1 with
  | int i =>
    cases d2 with
    | int j =>
      refine ⟨tg,F,ρ,_,ρ1,G,e1,fun v H1 F1 G1 x1 r1=>⟨tg,F1,ρ1,_,ρ2,G1,e2,fun v2 H2 F2 G2 x2 r2 => ?_⟩⟩
      cases r1
      cases r2
      refine ⟨i,j,rfl,rfl,f i j,rfl,?_⟩
      have em:(if f i j=true then m3.bind fun z=>match z with
        | .int k=>ret (.bl (g j k))
        | _=>lift none
        else ret (.bl false)) ρ2=some (.ok d,ρ'):=em
      by_cases hf:f i j=true
      · rw [if_pos hf] at em ⊢
        obtain ⟨d3,ρ3,e3,em⟩:=bh em
        refine ⟨tg,F2,ρ2,d3,ρ3,G2,e3,fun v3 H3 F3 G3 x3 r3 => ?_⟩
        cases d3 with
        | int k =>
          obtain ⟨rfl,rfl⟩:=j7 (show ret (D.bl (g j k)) _=_ from em)
          cases r3
          exact ⟨j,k,rfl,rfl,q _ H3 F3 G3 ((x1.trans x2).trans x3) (.bl _)⟩
        | _=>exact (bad em).elim
      · rw [if_neg hf] at em ⊢
        obtain ⟨rfl,rfl⟩:=j7 em
        exact q _ H2 F2 G2 (x1.trans x2) (.bl _)
    | _=>exact (bad em).elim
  | _=>cases d2 <;> exact (bad em).elim
theorem ah5 {op op':CmpOp} {f g:Int→Int→Bool} {m1 m2 m3:M D} (ho:OpR X (compareOp op) (rI0 fun i j=>.bl (f i j))) (ho':OpR X (compareOp op') (rI0 fun i j=>.bl (g i j))) (h1:EV K X a m1) (h2:EV K X b m2) (h3:EV K X c m3)
    (hm:lastMarks [op,op'] [b,c]=false:=by with_unfolding_all rfl):EV K X (.Compare a [op,op'] [b,c] pos) (agr f g m1 m2 m3):=EV.mk fun hk=>PE.imp (ard ho ho' (h1 hk) (h2 hk) (h3 hk) hm) ap1
noncomputable def mIf {α:Type} (m:M Bool) (m1 m2:M α):M α:=m.bind fun k=>if k=true then m1 else m2
theorem ay6 {m:M Bool} {m1 m2:M Rv} (h:ET K X c m) (h1:ER K X a m1) (h2:ER K X b m2):ER K X (.IfExp c a b pos) (mIf m m1 m2):=ER.mk fun hk=>PE.imp (arc (h hk) (h1 hk) (h2 hk)) fun σ H Q hq0=>by
  obtain ⟨tg,F,ρ,d,ρ',G,em,q⟩:=hq0
  obtain ⟨k,ρ1,e1,em⟩:=bh em
  refine ⟨tg,F,ρ,k,_,G,e1,fun H' F' G' x => ?_⟩
  have fin:∀ {m':M Rv},m' ρ1=some (.ok d,ρ')→T K (relR K) m' σ H' Q:=fun {m'} e'=>⟨tg,F',ρ1,d,ρ',G',e',fun v H2 F2 G2 x2 r2=>q v H2 F2 G2 (x.trans x2) (by
    cases d with
    | v d=>exact r2
    | fr l =>
      obtain ⟨a,vs,ev,ha,w⟩:=r2
      refine ⟨a,vs,ev,?_,w⟩
      rcases ha with ha | ha
      · exact .inl (x.there a ha)
      · exact (x.own a ha).symm
    | tf d l =>
      obtain ⟨t,u,a,vs,ev,ht,hd,ha,w⟩:=r2
      refine ⟨t,u,a,vs,ev,ht,hd,?_,w⟩
      rcases ha with ha | ha
      · exact .inl (x.there a ha)
      · exact (x.own a ha).symm)⟩
  cases k with
  | true=>exact iteT (fin em)
  | false=>exact iteF (fin em)
end
end Dn
namespace Dn
open PySem PySem.Spec PyProof.Rows L2 Mn
section
variable {K:PySem.W.Frag} {X:Cx} {e a b c:Expr} {es:List Expr} {pos p p2:Pos}
noncomputable def TL (K:PySem.W.Frag) (m:M (List D)):TA:=fun σ H Q=>∃ tg F ρ ds ρ',Good K tg F H ρ σ∧m ρ=some (.ok ds,ρ')∧∀ vs H' F',Good K tg F' H' ρ' σ→Ext (Own ρ σ) (Own ρ' σ) F H F' H'→IsL K F' ds vs→Q vs H'
structure ED (K:PySem.W.Frag) (X:Cx) (es:List Expr) (m:M (List D)):Prop where
  go:X.K=K→PA X es (TL K m)
instance {K:PySem.W.Frag} {X:Cx} {es:List Expr} {m:M (List D)}:CoeFun (ED K X es m) fun _=>X.K=K→PA X es (TL K m):=⟨ED.go⟩
theorem PA.imp {t t':TA} (h:PA X es t) (w:∀ σ H Q,t' σ H Q→t σ H Q):PA X es t':=fun ps pins s σ H Q I q=>h ps pins s σ H Q I (w σ H Q q)
noncomputable def mNil:M (List D):=ret []
noncomputable def cg (m:M D) (ms:M (List D)):M (List D):=m.bind fun d=>ms.bind fun ds=>ret (d::ds)
theorem dg:ED K X [] mNil:=ED.mk fun _=>PA.imp agp fun σ H Q hq0=>by
  obtain ⟨tg,F,ρ,ds,ρ',G,em,q⟩:=hq0
  obtain ⟨rfl,rfl⟩:=j7 em
  exact q [] H F G (Ext.refl _ _ _) .nil
theorem bf {m:M D} {ms:M (List D)} (h:EV K X e m) (t:ED K X es ms) (hs:starEach (e::es) X.env=(false,eval e X.env)::starEach es X.env:=by rfl):ED K X (e::es) (cg m ms):=ED.mk fun hk=>PA.imp (aap (h hk) (t hk) hs) fun σ H Q hq0=>by
  obtain ⟨tg,F,ρ,ds,ρ',G,em,q⟩:=hq0
  obtain ⟨d,ρ1,e1,em⟩:=bh em
  obtain ⟨r,ρ2,e2,em⟩:=bh em
  obtain ⟨rfl,rfl⟩:=j7 em
  exact ⟨tg,F,ρ,d,ρ1,G,e1,fun v H1 F1 G1 x1 r1=>⟨tg,F1,ρ1,r,_,G1,e2,fun vs H2 F2 G2 x2 r2=>q _ H2 F2 G2 (x1.trans x2) (.cons (r1.mono x2.sub) r2)⟩⟩
noncomputable def gTup (ds:List D):Option D:=if ds.length≤capS then some (.tup ds) else none
noncomputable def gLst (ds:List D):Option Rv:=if ds.length≤capS then some (.fr ds) else none
noncomputable def mTup (m:M (List D)):M D:=m.bind fun ds=>lift (gTup ds)
noncomputable def mLst (m:M (List D)):M Rv:=m.bind fun ds=>lift (gLst ds)
theorem v8 {k} {m:M (List D)} (h:ED K X es m):EV K X (.Tuple es k pos) (mTup m):=EV.mk fun hk=>PE.imp (axg (h hk)) fun σ H Q hq0=>by
  obtain ⟨tg,F,ρ,d,ρ',G,em,q⟩:=hq0
  obtain ⟨ds,ρ1,e1,em⟩:=bh em
  obtain ⟨e2,rfl⟩:=jc em
  unfold gTup at e2
  split at e2
  · rename_i hz
    cases e2
    refine ⟨tg,F,ρ,ds,_,G,e1,fun vs H1 F1 G1 x1 r1=>⟨by rw [←r1.length]; exact af9 hz,fun p hp=>q _ _ _ (G1.new hp _) (x1.trans (G1.newX hp _)) (.tup jh (r1.mono (Same.new (G1.freeF hp) _)))⟩⟩
  · cases e2
theorem uh {m:M (List D)} (h:ED K X es m):ER K X (.List es pos) (mLst m):=ER.mk fun hk=>PE.imp (axl (h hk)) fun σ H Q hq0=>by
  obtain ⟨tg,F,ρ,d,ρ',G,em,q⟩:=hq0
  obtain ⟨ds,ρ1,e1,em⟩:=bh em
  obtain ⟨e2,rfl⟩:=jc em
  unfold gLst at e2
  split at e2
  · rename_i hz
    cases e2
    refine ⟨tg,F,ρ,ds,_,G,e1,fun vs H1 F1 G1 x1 r1=>⟨by rw [←r1.length]; exact af9 hz,fun p hp=>q _ _ _ (G1.fresh hp _) (x1.trans (G1.freshX hp _)) ⟨p,vs,rfl,.inl (x1.there p hp),G1.freeF hp,jh,r1,fun z=>G1.own_ne hp z rfl⟩⟩⟩
  · cases e2
inductive BorL (K:PySem.W.Frag) (F H:Hp):List D→List V→Prop
  | nil:BorL K F H [] []
  | cons {d:D} {v:V} {ds:List D} {vs:List V} (h:Bor K F H d v) (t:BorL K F H ds vs):BorL K F H (d::ds) (v::vs)
noncomputable def TA' (K:PySem.W.Frag) (m:M (List D)):TA:=fun σ H Q=>∃ tg F ρ ds ρ',Good K tg F H ρ σ∧m ρ=some (.ok ds,ρ')∧∀ vs H' F',Good K tg F' H' ρ' σ→Ext (Own ρ σ) (Own ρ' σ) F H F' H'→BorL K F' H' ds vs→Q vs H'
structure EA (K:PySem.W.Frag) (X:Cx) (es:List Expr) (m:M (List D)):Prop where
  go:X.K=K→PA X es (TA' K m)
instance {K:PySem.W.Frag} {X:Cx} {es:List Expr} {m:M (List D)}:CoeFun (EA K X es m) fun _=>X.K=K→PA X es (TA' K m):=⟨EA.go⟩
noncomputable def dm (i:Nat) (ms:M (List D)):M (List D):=(dq i).bind fun _=>ms.bind fun ds=>(dq i).bind fun d=>ret (d::ds)
theorem bz:EA K X [] mNil:=EA.mk fun _=>PA.imp agp fun σ H Q hq0=>by
  obtain ⟨tg,F,ρ,ds,ρ',G,em,q⟩:=hq0
  obtain ⟨rfl,rfl⟩:=j7 em
  exact q [] H F G (Ext.refl _ _ _) .nil
theorem ea_v {m:M D} {ms:M (List D)} (h:EV K X e m) (t:EA K X es ms) (hs:starEach (e::es) X.env=(false,eval e X.env)::starEach es X.env:=by rfl):EA K X (e::es) (cg m ms):=EA.mk fun hk=>PA.imp (aap (h hk) (t hk) hs) fun σ H Q hq0=>by
  obtain ⟨tg,F,ρ,ds,ρ',G,em,q⟩:=hq0
  obtain ⟨d,ρ1,e1,em⟩:=bh em
  obtain ⟨r,ρ2,e2,em⟩:=bh em
  obtain ⟨rfl,rfl⟩:=j7 em
  exact ⟨tg,F,ρ,d,ρ1,G,e1,fun v H1 F1 G1 x1 r1=>⟨tg,F1,ρ1,r,_,G1,e2,fun vs H2 F2 G2 x2 r2=>q _ H2 F2 G2 (x1.trans x2) (.cons (.inl (r1.mono x2.sub)) r2)⟩⟩
theorem ea_n {i:Nat} {ms:M (List D)} (h:PE X e (tVar i)) (t:EA K X es ms) (hs:starEach (e::es) X.env=(false,eval e X.env)::starEach es X.env:=by rfl):EA K X (e::es) (dm i ms):=EA.mk fun hk=>PA.imp (aap h (t hk) hs) fun σ H Q hq0=>by
  obtain ⟨tg,F,ρ,ds,ρ',G,em,q⟩:=hq0
  obtain ⟨d0,ρ0,e0,em⟩:=bh em
  obtain ⟨r,ρ2,e2,em⟩:=bh em
  obtain ⟨d,ρ1,e1,em⟩:=bh em
  obtain ⟨rfl,rfl⟩:=j7 em
  obtain ⟨rfl,v,hv,_⟩:=aa8 G e0
  exact ⟨v,hv,tg,F,ρ0,r,_,G,e2,fun vs H2 F2 G2 x2 r2=>by
    obtain ⟨rfl,v',hv',b'⟩:=aa8 G2 e1
    rw [hv] at hv'
    cases hv'
    exact q _ H2 F2 G2 x2 (.cons b' r2)⟩
noncomputable def rcOf (K:PySem.W.Frag) (g:List D→Option Rv):List V→Hp→VK→Prop:=fun vs H Q=>∃ tg F ρ σ ds r,Good K tg F H ρ σ∧BorL K F H ds vs∧g ds=some r∧Res K tg F H ρ σ r Q
structure CallD (K:PySem.W.Frag) (X:Cx) (f:Value) (g:List D→Option Rv):Prop where
  go:X.K=K→aam X f (rcOf K g)
instance {K:PySem.W.Frag} {X:Cx} {f:Value} {g:List D→Option Rv}:CoeFun (CallD K X f g) fun _=>X.K=K→aam X f (rcOf K g):=⟨CallD.go⟩
noncomputable def dz (g:List D→Option Rv) (m:M (List D)):M Rv:=m.bind fun ds=>lift (g ds)
theorem nq {O O1 O2:Addr→Prop} {F H F1 H1 F2 H2:Hp} {r:Rv} {v:V} (x:Ext O O1 F H F1 H1) (h:relR K r v H1 O1 F2 H2 O2):relR K r v H O F2 H2 O2:=by
  cases r with
  | v d=>exact h
  | fr l =>
    obtain ⟨a,vs,ev,ha,w⟩:=h
    refine ⟨a,vs,ev,?_,w⟩
    rcases ha with ha | ha
    · exact .inl (x.there a ha)
    · exact (x.own a ha).symm
  | tf d l =>
    obtain ⟨t,u,a,vs,ev,ht,hd,ha,w⟩:=h
    refine ⟨t,u,a,vs,ev,ht,hd,?_,w⟩
    rcases ha with ha | ha
    · exact .inl (x.there a ha)
    · exact (x.own a ha).symm
theorem ami {g:List D→Option Rv} {m:M (List D)} (σ:L2.St) (H:Hp) (Q:VK) (t:T K (relR K) (dz g m) σ H Q):tCB (rcOf K g) (TA' K m) σ H Q:=by
  obtain ⟨tg,F,ρ,r,ρ',G,em,q⟩:=t
  obtain ⟨ds,ρ1,e1,em⟩:=bh em
  obtain ⟨e2,rfl⟩:=jc em
  exact ⟨tg,F,ρ,ds,_,G,e1,fun vs H' F' G' x' bl=>⟨tg,F',_,σ,ds,r,G',bl,e2,fun v H2 F2 G2 x2 rr=>q v H2 F2 G2 (x'.trans x2) (nq x' rr)⟩⟩
section
variable {x:Str} {id Ty:String} {g:List D→Option Rv} {m:M (List D)}
theorem bu (hc:CallD K X (.builtin id) g) (hg:Gl X x) (hm:X.mg x=none) (hv:bootBuiltins x=some (.builtin id)) (ha:EA K X (e::es) m) (hn:x ≠ "__name__" := by decide) (hdb:(x==("__debug__" : Str))=false:=by decide)
    (he:starEach (e::es) X.env=(false,eval e X.env)::starEach es X.env:=by rfl) (hpl:(backTo pos (starEach es X.env)).any (·.1)=false:=by rfl):ER K X (.Call (.Name x p) (e::es) [] pos) (dz g m):=ER.mk fun hk=>PE.imp (aho (hc hk) hg hm hv (ha hk) hn hdb he hpl) ami
theorem gj (hc:CallD K X (.type Ty) g) (hg:Gl X x) (hm:X.mg x=none) (hv:bootBuiltins x=some (.type Ty)) (ha:EA K X (e::es) m) (hn:x ≠ "__name__" := by decide) (hdb:(x==("__debug__" : Str))=false:=by decide)
    (he:starEach (e::es) X.env=(false,eval e X.env)::starEach es X.env:=by rfl) (hpl:(backTo pos (starEach es X.env)).any (·.1)=false:=by rfl):ER K X (.Call (.Name x p) (e::es) [] pos) (dz g m):=ER.mk fun hk=>PE.imp (acz (hc hk) hg hm hv (ha hk) hn hdb he hpl) ami
end
theorem BorL.one {F H:Hp} {d:D} {vs:List V} (h:BorL K F H [d] vs):∃ v,vs=[v]∧Bor K F H d v:=by
  cases h with
  | cons h t=>cases t; exact ⟨_,rfl,h⟩
theorem BorL.two {F H:Hp} {d d':D} {vs:List V} (h:BorL K F H [d,d'] vs):∃ v v',vs=[v,v']∧Bor K F H d v∧Bor K F H d' v':=by
  cases h with
  | cons h t =>
    obtain ⟨v',rfl,h'⟩:=t.one
    exact ⟨_,_,rfl,h,h'⟩
noncomputable def g1 (f:D→Option Rv):List D→Option Rv
  | [d]=>f d
  | _=>none
noncomputable def g2 (f:D→D→Option Rv):List D→Option Rv
  | [d,d']=>f d d'
  | _=>none
theorem ag4 {f:D→Option Rv} {w:Value} (h:X.K=K→∀ (pins:List (Addr×Obj)) (s:Shared) (σ0:L2.St) (H:Hp) (x:V) (u:Value) (Q:VK) (tg:Nat→Addr) (F:Hp) (ρ:Ro) (σ:L2.St) (d:D) (r:Rv),Inv X pins σ0 H s→RelV x u→Good K tg F H ρ σ→Bor K F H d x→f d=some r→Res K tg F H ρ σ r Q →
    wpAny (model X.prog X.w) X.A (call w [u]) (EP X pins σ0 Q) X.xe s):CallD K X w (g1 f):=CallD.mk fun hk=>by
  intro pins s σ0 H xs us Q I r ⟨tg,F,ρ,σ,ds,rv,G,bl,eg,q⟩
  match ds,eg with
  | [d],eg =>
    obtain ⟨v,rfl,bv⟩:=bl.one
    obtain ⟨u,rfl,ru⟩:=vals1 r
    exact h hk pins s σ0 H v u Q tg F ρ σ d rv I ru G bv eg q
theorem gm:CallD K X (.builtin "len") (g1 fun d=>(itemsD d).map fun l=>.v (.int l.length)):=ag4 fun hk pins s σ0 H x u Q tg F ρ σ d r I ru G bd eg q=>by
  subst hk
  cases e:itemsD d with
  | none=>rw [e] at eg; cases eg
  | some l =>
    rw [e] at eg
    cases eg
    obtain ⟨a,vs,rfl,hl,hs⟩:=ae7 G.sub e bd
    have q':=Res.same G q (.int _)
    rw [hl.length] at q'
    exact ajr pins s σ0 H [.ref a] [u] Q I (.cons ru .nil) ⟨a,vs,rfl,hs,q'⟩
noncomputable def wj:List D→Option (List Bool)
  | []=>some []
  | .bl b::r=>(wj r).map (b :: ·)
  | _::_=>none
theorem ajw:∀ {l:List D} {bs:List Bool},wj l=some bs→l=bs.map D.bl
  | [],_,h=>by cases h; rfl
  | .bl b::r,bs,h=>by
    have h':(wj r).map (b :: ·)=some bs:=h
    cases e:wj r with
    | none=>rw [e] at h'; cases h'
    | some t =>
      rw [e] at h'
      cases h'
      rw [ajw e]
      rfl
  | .non::_,_,h=>by cases h
  | .int _::_,_,h=>by cases h
  | .str _::_,_,h=>by cases h
  | .tup _::_,_,h=>by cases h
  | .lst _::_,_,h=>by cases h
  | .kst _::_,_,h=>by cases h
  | .dct _::_,_,h=>by cases h
@[simp] theorem ab1 (bs:List Bool):wj (bs.map D.bl)=some bs:=by
  induction bs with
  | nil=>rfl
  | cons b r ih=>show (wj (r.map D.bl)).map (b :: ·)=_; rw [ih]; rfl
noncomputable def gAll:D→Option Rv
  | .lst l=>(wj l).map fun bs=>.v (.bl (bs.all id))
  | _=>none
theorem ajo (hc:X.calm=true):CallD K X (.builtin "all") (g1 gAll):=ag4 fun hk pins s σ0 H x u Q tg F ρ σ d r I ru G bd eg q=>by
  subst hk
  cases d with
  | lst l =>
    have eg:(wj l).map (fun bs=>Rv.v (.bl (bs.all id)))=some r:=eg
    cases e:wj l with
    | none=>rw [e] at eg; cases eg
    | some bs =>
      rw [e] at eg
      cases eg
      obtain ⟨a,vs,rfl,ea,hl⟩:=bd.lst G.sub
      rw [ajw e] at hl
      rw [hl.bl_inv] at ea
      exact asu hc pins s σ0 H [.ref a] [u] Q I (.cons ru .nil) ⟨a,bs,rfl,SqL.of ea,Res.same G q (.bl _)⟩
  | _=>cases eg
noncomputable def ase:D→Option Rv
  | .int i=>some (.v (.int i))
  | .bl k=>some (.v (.int (if k then 1 else 0)))
  | _=>none
theorem aze:CallD K X (.type "int") (g1 ase):=ag4 fun hk pins s σ0 H x u Q tg F ρ σ d r I ru G bd eg q=>by
  cases d with
  | int i =>
    cases eg
    obtain rfl:=bd.int
    exact ajs pins s σ0 H [_] [u] Q I (.cons ru .nil) (.inl ⟨i,rfl,Res.same G q (.int _)⟩)
  | bl k =>
    cases eg
    obtain rfl:=bd.bl
    exact ajs pins s σ0 H [_] [u] Q I (.cons ru .nil) (.inr ⟨k,rfl,Res.same G q (.int _)⟩)
  | _=>cases eg
theorem qg:CallD K X (.type "tuple") (g1 fun d=>(itemsD d).map fun l=>.v (.tup l)):=ag4 fun hk pins s σ0 H x u Q tg F ρ σ d r I ru G bd eg q=>by
  subst hk
  cases d with
  | tup l =>
    cases eg
    obtain ⟨a,vs,rfl,ea,hl⟩:=bd.tup
    exact aa0 pins s σ0 H [_] [u] Q I (.cons ru .nil) ⟨a,vs,rfl,.inr ⟨SqT.of (G.sub _ _ ea),Res.same G q (.tup ea hl)⟩⟩
  | lst l =>
    cases eg
    obtain ⟨a,vs,rfl,ea,hl⟩:=bd.lst G.sub
    exact aa0 pins s σ0 H [_] [u] Q I (.cons ru .nil) ⟨a,vs,rfl,.inl ⟨SqL.of ea,fun p hp=>Res.tup G q hl hp⟩⟩
  | kst l =>
    cases eg
    obtain ⟨a,vs,rfl,ea,hl⟩:=bd.kst
    exact aa0 pins s σ0 H [_] [u] Q I (.cons ru .nil) ⟨a,vs,rfl,.inl ⟨L2.Same.seq G.sub ea,fun p hp=>Res.tup G q hl hp⟩⟩
  | _=>cases eg
theorem ad9:CallD K X (.type "list") (g1 fun d=>(itemsD d).map fun l=>.fr l):=ag4 fun hk pins s σ0 H x u Q tg F ρ σ d r I ru G bd eg q=>by
  subst hk
  cases e:itemsD d with
  | none=>rw [e] at eg; cases eg
  | some l =>
    rw [e] at eg
    cases eg
    obtain ⟨a,vs,rfl,hl,hs⟩:=ae7 G.sub e bd
    exact ajq pins s σ0 H [_] [u] Q I (.cons ru .nil) ⟨a,vs,rfl,hs,fun p hp=>Res.lst G q hl hp⟩
theorem atm {f:D→D→Option Rv} {w:Value} (h:X.K=K→∀ (pins:List (Addr×Obj)) (s:Shared) (σ0:L2.St) (H:Hp) (x y:V) (u v:Value) (Q:VK) (tg:Nat→Addr) (F:Hp) (ρ:Ro) (σ:L2.St) (d d':D) (r:Rv),Inv X pins σ0 H s→RelV x u→RelV y v→Good K tg F H ρ σ→Bor K F H d x→Bor K F H d' y→f d d'=some r→Res K tg F H ρ σ r Q →
    wpAny (model X.prog X.w) X.A (call w [u,v]) (EP X pins σ0 Q) X.xe s):CallD K X w (g2 f):=CallD.mk fun hk=>by
  intro pins s σ0 H xs us Q I r ⟨tg,F,ρ,σ,ds,rv,G,bl,eg,q⟩
  match ds,eg with
  | [d,d'],eg =>
    obtain ⟨v,v',rfl,bv,bv'⟩:=bl.two
    obtain ⟨u,w,rfl,ru,rw'⟩:=vals2 r
    exact h hk pins s σ0 H v v' u w Q tg F ρ σ d d' rv I ru rw' G bv bv' eg q
theorem azd (hc:X.calm=true):CallD K X (.builtin "max") (g2 (gInt fun i j=>some (if j > i then j else i))):=atm fun hk pins s σ0 H x y u v Q tg F ρ σ d d' r I ru rv G bd bd' eg q=>by
  unfold gInt at eg
  split at eg
  · cases eg
    obtain rfl:=bd.int
    obtain rfl:=bd'.int
    exact ap6 hc pins s σ0 H [_,_] [u,v] Q I (.cons ru (.cons rv .nil)) ⟨_,_,rfl,Res.same G q (.int _)⟩
  · cases eg
theorem ajt:aam X (.builtin "divmod") (fun xs H Q=>∃ i j,xs=[.int i,.int j]∧(0 < j∧j < 1000000000000000000000000000000000000000000000000000000000000)∧∀ p,H p=none→Q (.ref p) (upd H p (.tup [.int (i / j),.int (i % j)]))):=by
  intro pins s σ H xs us Q I r h
  obtain ⟨i,j,rfl,hj,q⟩:=h
  obtain ⟨u,w',rfl,⟨t,rfl⟩,⟨t',rfl⟩⟩:=vals2 r
  have h1:=hj.1
  refine divmod_int (by omega) ?_ (.inl (ax1 hj.1 hj.2))
  rw [Int.fdiv_eq_ediv_of_nonneg i (by omega),Int.fmod_eq_emod_of_nonneg i (by omega)]
  refine ⟨.ref s.heap.objs.size,_,?_,rfl,q _ (I.hok.fresh (Nat.le_refl _))⟩
  exact I.laid (fun b o e=>Heap.get?_push_of_some _ e) (Nat.le_refl _) ⟨by simp only [List.length_cons,List.length_nil]; rw [sizeLine_eq]; decide,[.int (i / j) s.toks,.int (i % j) (s.toks+1)],.cons ⟨_,rfl⟩ (.cons ⟨_,rfl⟩ .nil),⟨_,Heap.get?_push_size s.heap rfl,rfl,rfl,0,rfl⟩⟩
noncomputable def ah3:D→D→Option Rv
  | .int i,.int j=>if 0 < j∧j < 1000000000000000000000000000000000000000000000000000000000000 then some (.v (.tup [.int (i / j),.int (i % j)])) else none
  | _,_=>none
theorem ap3:CallD K X (.builtin "divmod") (g2 ah3):=atm fun hk pins s σ0 H x y u v Q tg F ρ σ d d' r I ru rv G bd bd' eg q=>by
  unfold ah3 at eg
  split at eg
  · split at eg
    · rename_i hc
      cases eg
      obtain rfl:=bd.int
      obtain rfl:=bd'.int
      exact ajt pins s σ0 H [_,_] [u,v] Q I (.cons ru (.cons rv .nil)) ⟨_,_,rfl,hc,fun p hp=>Res.tup G q (.cons (.int _) (.cons (.int _) .nil)) hp⟩
    · cases eg
  · cases eg
inductive Ty where
  | int | bool | tuple | list | str | dict
noncomputable def Ty.nm:Ty→String
  | .int => "int" | .bool => "bool" | .tuple => "tuple" | .list => "list" | .str => "str" | .dict => "dict"
noncomputable def tyD:D→Value
  | .non=>.type "NoneType"
  | .bl _=>.type "bool"
  | .int _=>.type "int"
  | .str _=>.type "str"
  | .tup _=>.type "tuple"
  | .lst _=>.type "list"
  | .kst _=>.type "list"
  | .dct _=>.type "dict"
  | .exn _ _=>.type "NoneType"
noncomputable def isTy:Ty→D→Bool
  | .int,.int _=>true
  | .int,.bl _=>true
  | .bool,.bl _=>true
  | .tuple,.tup _=>true
  | .list,.lst _=>true
  | .list,.kst _=>true
  | .str,.str _=>true
  | .dict,.dct _=>true
  | _,_=>false
theorem atc (t:Ty) (d:D):PySem.W.kitOne K (tyD d) (.type t.nm)=some (isTy t d):=by
  cases d <;> cases t <;> kernel_rfl
theorem ap7 {X:Cx}:aam X (.builtin "isinstance") (fun xs H Q=>∃ F d x t,xs=[x,.ty (Ty.nm t)]∧Same F H∧Bor X.K F H d x∧Q (.bl (isTy t d)) H):=by
  intro pins s σ H xs us Q I r ⟨F,d,x,t,e,g,h,q⟩
  subst e
  obtain ⟨u,w',rfl,r1,r2⟩:=vals2 r
  obtain rfl:w'=Value.type t.nm:=r2
  have fin:∀ tk,EP X pins σ Q (.bool (isTy t d)) { s with toks:=tk }:=fun tk=>⟨.bl _,H,I.tok tk,rfl,q⟩
  have go:TyOf X.K H x (tyD d)→wpAny (model X.prog X.w) X.A (call (.builtin "isinstance") [u,.type t.nm]) (EP X pins σ Q) X.xe s:=fun ty=>ao6 I r1 ty (atc t d) fin
  cases d with
  | non=>obtain rfl:=h.non; exact go .non
  | bl b=>obtain rfl:=h.bl; exact go (.bl b)
  | int b=>obtain rfl:=h.int; exact go (.int b)
  | str b=>obtain rfl:=h.str; exact go (.str b)
  | tup b=>obtain ⟨a,vs,rfl,e,_⟩:=h.tup; exact go (.tup (g _ _ e))
  | lst b=>obtain ⟨a,vs,rfl,e,_⟩:=h.lst g; exact go (.lst e)
  | kst b =>
    obtain ⟨a,vs,rfl,e,_⟩:=h.kst
    cases (show u=Value.ref a from r1)
    obtain ⟨its,_,pl,_⟩:=I.list (L2.Same.seq g e)
    obtain ⟨o,ho,hc,n,hd⟩:=pl.isList
    exact PySem.W.kia_one PySem.W.kitx_list I.kIn ⟨o,ho,hc⟩ (atc t (.kst b)) (fun z=>nomatch z) fin
  | dct b =>
    rcases h with h | ⟨a,vs,l',e1,_⟩
    · cases h with
      | dct e h=>exact go (.dK (g _ _ e))
    · cases e1
  | exn c fs =>
    rcases h with h | ⟨a,vs,l',e1,_⟩
    · cases h with
      | @exn a C c dx fs e hc hk hf =>
        cases (show u=Value.ref a from r1)
        obtain ⟨⟨oe,ws,h1,h2,h3,h4⟩,_⟩:=(show za X.prog X.w H s.heap a (.ext (exO a C dx)) from I.hok a _ (g _ _ e))
        have hno:PySem.W.notCls oe=true:=by unfold PySem.W.notCls; rw [h4]
        have ia:∃ ox od,PySem.W.InstAt s.heap a ox C od:=by
          rcases hf with ⟨rfl,_⟩ | ⟨d,rfl,hd⟩
          · exact ⟨oe,none,h1,h2,hno,by rw [h3]; trivial⟩
          · obtain ⟨mA,⟨od,_,_,e1,_⟩,_⟩:=(show za X.prog X.w H s.heap d (.xd _) from I.hok d _ (g _ _ hd))
            exact ⟨oe,some od,h1,h2,hno,by rw [h3]; exact e1⟩
        have kq:PySem.W.kitOne X.K (.ref C) (.type t.nm)=some false:=by
          have h5:PySem.W.subIn X.K (.ref C) (.type t.nm)=some false:=hk.no _ (by cases t <;> simp [Ty.nm])
          have h6:PySem.W.kitMeta t.nm=true:=by cases t <;> kernel_rfl
          unfold PySem.W.kitOne PySem.W.kitCls
          rw [if_neg (by simp)]
          show (if PySem.W.kitMeta t.nm=true then PySem.W.subIn X.K (.ref C) (.type t.nm) else none)=some false
          rw [if_pos h6]
          exact h5
        have e7:isTy t (.exn c fs)=false:=by cases t <;> rfl
        exact PySem.W.kia_one (art hk) I.kIn ia kq (fun z=>nomatch z) fun tk=>e7▸fin tk
    · cases e1
noncomputable def mIsi (t:Ty) (m:M D):M D:=m.bind fun d=>ret (.bl (isTy t d))
theorem af3 {t:Ty} {tn:Expr} {m:M D} {x:Str} (ht:PE X tn (tC (.ty t.nm))) (hg:Gl X x) (hm:X.mg x=none) (hv:bootBuiltins x=some (.builtin "isinstance")) (h:EB K X e m) (hn:x ≠ "__name__" := by decide) (hdb:(x==("__debug__" : Str))=false:=by decide)
    (h1:starEach [tn] X.env=(false,eval tn X.env)::starEach [] X.env:=by rfl) (he:starEach [e,tn] X.env=(false,eval e X.env)::starEach [tn] X.env:=by rfl) (hpl:(backTo pos (starEach [tn] X.env)).any (·.1)=false:=by rfl) :
    EV K X (.Call (.Name x p) [e,tn] [] pos) (mIsi t m):=EV.mk fun hk=>by
  refine PE.imp (aho ap7 hg hm hv (aap (h hk) (aap ht agp h1) he) hn hdb he hpl) fun σ H Q ⟨tg,F,ρ,d,ρ',G,em,q⟩ => ?_
  obtain ⟨d1,ρ1,e1,em⟩:=bh em
  obtain ⟨rfl,rfl⟩:=j7 em
  subst hk
  exact ⟨tg,F,ρ,d1,_,G,e1,fun v H' F' G' x bv=>⟨F',d1,v,t,rfl,G'.sub,bv,q _ H' F' G' x (.bl _)⟩⟩
noncomputable def gIx (d i:D):Option Rv:=match i with
  | .int k=>(itemsD d).bind fun l=>(atI l k).map fun x=>.v x
  | _=>none
theorem azm {F:Hp} {l:List D} {vs:List V} {k:Int} {d:D} (h:IsL K F l vs) (e:atI l k=some d):∃ v,atI vs k=some v∧Is K F d v:=by
  unfold atI at e ⊢
  rw [h.length] at e
  cases q:ixN vs.length k with
  | none=>rw [q] at e; cases e
  | some j =>
    rw [q] at e
    obtain ⟨v,e1,e2⟩:=h.get (i:=j) e
    exact ⟨v,e1,e2⟩
theorem ixd:X.K=K→IxR X (rOf K gIx):=fun hk=>by
  intro value slice pins s σ0 H x y v u Q I rx ry ⟨tg,F,ρ,σ,d1,d2,r,G,b1,b2,eg,q⟩ hs
  subst hk
  cases d2 with
  | int k =>
    have eg:(itemsD d1).bind (fun l=>(atI l k).map fun x=>Rv.v x)=some r:=eg
    cases e:itemsD d1 with
    | none=>rw [e] at eg; cases eg
    | some l =>
      rw [e] at eg
      have eg:(atI l k).map (fun x=>Rv.v x)=some r:=eg
      cases e2:atI l k with
      | none=>rw [e2] at eg; cases eg
      | some d =>
        rw [e2] at eg
        cases eg
        obtain ⟨a,vs,rfl,hl,hq⟩:=ae7 G.sub e b1
        obtain rfl:=b2.int
        obtain ⟨z,hz,iz⟩:=azm hl e2
        rcases hq with hq | hq
        · exact avb value slice pins s σ0 H _ _ v u Q I rx ry ⟨a,vs,k,z,rfl,rfl,hq,hz,Res.same G q iz⟩ hs
        · exact aym value slice pins s σ0 H _ _ v u Q I rx ry ⟨a,vs,k,z,rfl,rfl,hq,hz,Res.same G q iz⟩ hs
  | _=>cases eg
theorem ju {m:M (D×D)} (h:E2 K X a b m) (hs:aqk b):ER K X (.Subscript a b pos) (mOp gIx m):=ER.mk fun hk=>by
  obtain ⟨ta,tb,ha,hb,h⟩:=h hk
  exact PE.imp (a1k (ixd hk) ha hb hs) (alw h)
noncomputable def TOp (K:PySem.W.Frag) (m:M (Option Int)):TO:=fun σ H Q=>∃ tg F ρ o ρ',Good K tg F H ρ σ∧m ρ=some (.ok o,ρ')∧∀ H' F',Good K tg F' H' ρ' σ→Ext (Own ρ σ) (Own ρ' σ) F H F' H'→Q o H'
structure EO (K:PySem.W.Frag) (X:Cx) (e:Option Expr) (m:M (Option Int)):Prop where
  go:X.K=K→PO X e (TOp K m)
instance {K:PySem.W.Frag} {X:Cx} {e:Option Expr} {m:M (Option Int)}:CoeFun (EO K X e m) fun _=>X.K=K→PO X e (TOp K m):=⟨EO.go⟩
theorem PO.imp {eo:Option Expr} {t t':TO} (h:PO X eo t) (w:∀ σ H Q,t' σ H Q→t σ H Q):PO X eo t':=fun pins s σ H Q I q=>h pins s σ H Q I (w σ H Q q)
theorem ah7:EO K X none (ret none):=EO.mk fun _=>PO.imp aud fun σ H Q hq0=>by
  obtain ⟨tg,F,ρ,o,ρ',G,em,q⟩:=hq0
  obtain ⟨rfl,rfl⟩:=j7 em
  exact q H F G (Ext.refl _ _ _)
noncomputable def asI:D→Option Int
  | .int i=>some i
  | _=>none
theorem amm {d:D} {k:Int} (h:asI d=some k):d=.int k:=by
  cases d with
  | int b=>cases h; rfl
  | _=>cases h
noncomputable def ai5 (m:M D):M (Option Int):=m.bind fun d=>lift ((asI d).map some)
theorem ad6 {m:M D} (h:EV K X e m):EO K X (some e) (ai5 m):=EO.mk fun hk=>PO.imp (auc (h hk)) fun σ H Q hq0=>by
  obtain ⟨tg,F,ρ,o,ρ',G,em,q⟩:=hq0
  obtain ⟨d,ρ1,e1,em⟩:=bh em
  obtain ⟨e2,rfl⟩:=jc em
  refine ⟨tg,F,ρ,d,_,G,e1,fun v H' F' G' x r => ?_⟩
  cases d with
  | int i =>
    cases e2
    cases r
    exact ⟨i,rfl,q H' F' G' x⟩
  | _=>cases e2
noncomputable def cutD (l:List D) (lo hi:Option Int):List D:=(l.drop (HT.sIx l.length 0 lo)).take (HT.sIx l.length l.length hi - HT.sIx l.length 0 lo)
theorem apv {F:Hp} {l:List D} {vs:List V} (h:IsL K F l vs) (lo hi:Option Int):IsL K F (cutD l lo hi) (cutV vs lo hi):=by
  unfold cutD cutV
  rw [h.length]
  exact (h.drop _).take _
noncomputable def gCut (d:D) (lo hi:Option Int):Option Rv:=match d with
  | .tup l=>some (.v (.tup (cutD l lo hi)))
  | .lst l=>some (.fr (cutD l lo hi))
  | .kst l=>some (.fr (cutD l lo hi))
  | _=>none
noncomputable def rsOf (K:PySem.W.Frag):V→Option Int→Option Int→Hp→VK→Prop:=fun x lo hi H Q=>∃ tg F ρ σ d r,Good K tg F H ρ σ∧Bor K F H d x∧gCut d lo hi=some r∧Res K tg F H ρ σ r Q
theorem sld (hk:X.K=K):SlR X (rsOf K):=by
  intro pins s σ0 H x v vl vu lo hi sl Q I rx hs pl pu ⟨tg,F,ρ,σ,d,r,G,bd,eg,q⟩
  subst hk
  cases d with
  | tup l =>
    cases eg
    obtain ⟨a,vs,rfl,ea,hl⟩:=bd.tup
    by_cases hw:HT.sIx vs.length 0 lo=0∧HT.sIx vs.length vs.length hi=vs.length
    · have ec:cutD l lo hi=l:=by
        unfold cutD
        rw [hl.length,hw.1,hw.2,List.drop_zero,Nat.sub_zero,←hl.length,List.take_length]
      rw [ec] at q
      cases rx
      obtain ⟨its,r,ht,hz⟩:=I.tuple (SqT.of (G.sub _ _ ea))
      have hlen:its.toArray.size=vs.length:=by rw [List.size_toArray]; exact r.length.symm
      refine ⟨"tuple", _,PyProof.Rows.slot_tuple_getitem.lookup,ht.typeIs,?_⟩
      exact acl ht hs pl pu (by rw [hlen]; exact hw.1) (by rw [hlen]; exact hw.2) ⟨.ref a,H,I,rfl,Res.same G q (.tup ea hl)⟩
    · exact awy pins s σ0 H _ v vl vu lo hi sl Q I rx hs pl pu ⟨a,vs,rfl,SqT.of (G.sub _ _ ea),hw,fun p hp=>Res.tup G q (apv hl lo hi) hp⟩
  | lst l =>
    cases eg
    obtain ⟨a,vs,rfl,ea,hl⟩:=bd.lst G.sub
    exact an9 pins s σ0 H _ v vl vu lo hi sl Q I rx hs pl pu ⟨a,vs,rfl,SqL.of ea,fun p hp=>Res.lst G q (apv hl lo hi) hp⟩
  | kst l =>
    cases eg
    obtain ⟨a,vs,rfl,ea,hl⟩:=bd.kst
    exact an9 pins s σ0 H _ v vl vu lo hi sl Q I rx hs pl pu ⟨a,vs,rfl,L2.Same.seq G.sub ea,fun p hp=>Res.lst G q (apv hl lo hi) hp⟩
  | _=>cases eg
noncomputable def mCut (m:M D) (ml mh:M (Option Int)):M Rv:=m.bind fun d=>ml.bind fun lo=>mh.bind fun hi=>lift (gCut d lo hi)
noncomputable def aox (i:Nat) (ml mh:M (Option Int)):M Rv:=(dq i).bind fun _=>ml.bind fun lo=>mh.bind fun hi=>(dq i).bind fun d=>lift (gCut d lo hi)
theorem atk {m:M D} {ml mh:M (Option Int)} {lo hi:Option Expr} (h:EV K X a m) (hl:EO K X lo ml) (hh:EO K X hi mh):ER K X (.Subscript a (.Slice lo hi none p2) pos) (mCut m ml mh):=ER.mk fun hk=>PE.imp (alu (sld hk) (h hk) (hl hk) (hh hk)) fun σ H Q hq0=>by
  obtain ⟨tg,F,ρ,r,ρ',G,em,q⟩:=hq0
  obtain ⟨d,ρ1,e1,em⟩:=bh em
  obtain ⟨o1,ρ2,e2,em⟩:=bh em
  obtain ⟨o2,ρ3,e3,em⟩:=bh em
  obtain ⟨e4,rfl⟩:=jc em
  refine ⟨tg,F,ρ,d,ρ1,G,e1,fun v H1 F1 G1 x1 r1=>⟨tg,F1,ρ1,o1,ρ2,G1,e2,fun H2 F2 G2 x2=>⟨tg,F2,ρ2,o2,_,G2,e3,fun H3 F3 G3 x3 => ?_⟩⟩⟩
  exact ⟨tg,F3,_,σ,d,r,G3,.inl ((r1.mono x2.sub).mono x3.sub),e4,fun v' H4 F4 G4 x4 rr=>q v' H4 F4 G4 (((x1.trans x2).trans x3).trans x4) (nq ((x1.trans x2).trans x3) rr)⟩
theorem ak3 {i:Nat} {ml mh:M (Option Int)} {lo hi:Option Expr} (h:PE X a (tVar i)) (hl:EO K X lo ml) (hh:EO K X hi mh):ER K X (.Subscript a (.Slice lo hi none p2) pos) (aox i ml mh):=ER.mk fun hk=>PE.imp (alu (sld hk) h (hl hk) (hh hk)) fun σ H Q hq0=>by
  obtain ⟨tg,F,ρ,r,ρ',G,em,q⟩:=hq0
  obtain ⟨d0,ρ0,e0,em⟩:=bh em
  obtain ⟨o1,ρ2,e2,em⟩:=bh em
  obtain ⟨o2,ρ3,e3,em⟩:=bh em
  obtain ⟨d,ρ4,e1,em⟩:=bh em
  obtain ⟨e4,rfl⟩:=jc em
  obtain ⟨rfl,v,hv,_⟩:=aa8 G e0
  refine ⟨v,hv,tg,F,ρ0,o1,ρ2,G,e2,fun H2 F2 G2 x2=>⟨tg,F2,ρ2,o2,_,G2,e3,fun H3 F3 G3 x3 => ?_⟩⟩
  obtain ⟨rfl,v',hv',b'⟩:=aa8 G3 e1
  rw [hv] at hv'
  cases hv'
  exact ⟨tg,F3,_,σ,d,r,G3,b',e4,fun v' H4 F4 G4 x4 rr=>q v' H4 F4 G4 ((x2.trans x3).trans x4) (nq (x2.trans x3) rr)⟩
end
end Dn
namespace Dn
open PySem PySem.Spec PyProof.Rows L2 Mn
inductive Fl where
  | nx | ret (r:Rv) | brk | cont | exc (x:Exn)
noncomputable abbrev Sd:=Ro→Option (Fl×Ro)
section
variable {K:PySem.W.Frag} {X:Cx} {e a b c tgt:Expr} {es:List Expr} {pos p p2:Pos} {st:Stmt} {ss:List Stmt}
noncomputable def FlOk (K:PySem.W.Frag) (tg:Nat→Addr) (ρ:Ro) (σ:L2.St) (F H:Hp) (E:Ends) (fl:Fl) (ρ':Ro):Prop:=match fl with
  | .nx=>∀ σ' H' F',Good K tg F' H' ρ' σ'→Ext (Own ρ σ) (Own ρ' σ') F H F' H'→E.nx σ' H'
  | .brk=>∀ σ' H' F',Good K tg F' H' ρ' σ'→Ext (Own ρ σ) (Own ρ' σ') F H F' H'→E.bk σ' H'
  | .cont=>∀ σ' H' F',Good K tg F' H' ρ' σ'→Ext (Own ρ σ) (Own ρ' σ') F H F' H'→E.ct σ' H'
  | .ret r=>∀ v σ' H' F',Good K tg F' H' ρ' σ'→Ext (Own ρ σ) (Own ρ' σ') F H F' H'→relR K r v H (Own ρ σ) F' H' (Own ρ' σ')→E.rt v H'
  | .exc _=>False
noncomputable def TSd (K:PySem.W.Frag) (g:Sd):TS:=fun E σ H=>∃ tg F ρ fl ρ',Good K tg F H ρ σ∧g ρ=some (fl,ρ')∧FlOk K tg ρ σ F H E fl ρ'
structure SV (K:PySem.W.Frag) (X:Cx) (st:Stmt) (g:Sd):Prop where
  go:X.K=K→PS X st (TSd K g)
instance {K:PySem.W.Frag} {X:Cx} {st:Stmt} {g:Sd}:CoeFun (SV K X st g) fun _=>X.K=K→PS X st (TSd K g):=⟨SV.go⟩
structure SVs (K:PySem.W.Frag) (X:Cx) (ss:List Stmt) (g:Sd):Prop where
  go:X.K=K→PSs X ss (TSd K g)
instance {K:PySem.W.Frag} {X:Cx} {ss:List Stmt} {g:Sd}:CoeFun (SVs K X ss g) fun _=>X.K=K→PSs X ss (TSd K g):=⟨SVs.go⟩
theorem PS.imp {t t':TS} (h:PS X st t) (w:∀ E σ H,t' E σ H→t E σ H):PS X st t':=fun pins s σ H E I q=>h pins s σ H E I (w E σ H q)
theorem PSs.imp {t t':TS} (h:PSs X ss t) (w:∀ E σ H,t' E σ H→t E σ H):PSs X ss t':=fun pins s σ H E I q=>h pins s σ H E I (w E σ H q)
theorem FlOk.back {tg:Nat→Addr} {ρ ρ1 ρ':Ro} {σ σ1:L2.St} {F H F1 H1:Hp} {E:Ends} {fl:Fl} (x:Ext (Own ρ σ) (Own ρ1 σ1) F H F1 H1) (h:FlOk K tg ρ σ F H E fl ρ'):FlOk K tg ρ1 σ1 F1 H1 E fl ρ':=by
  cases fl with
  | nx=>exact fun σ' H' F' G' x'=>h σ' H' F' G' (x.trans x')
  | brk=>exact fun σ' H' F' G' x'=>h σ' H' F' G' (x.trans x')
  | cont=>exact fun σ' H' F' G' x'=>h σ' H' F' G' (x.trans x')
  | ret r=>exact fun v σ' H' F' G' x' rr=>h v σ' H' F' G' (x.trans x') (nq x rr)
  | exc _=>exact h
noncomputable def dNx:Sd:=fun ρ=>some (.nx,ρ)
noncomputable def dBrk:Sd:=fun ρ=>some (.brk,ρ)
noncomputable def a3n:Sd:=fun ρ=>some (.cont,ρ)
noncomputable def dSeq (g k:Sd):Sd:=fun ρ=>match g ρ with
  | some (.nx,ρ1)=>k ρ1
  | r=>r
theorem jx:SVs K X [] dNx:=SVs.mk fun _=>PSs.imp at8 fun E σ H hq0=>by
  obtain ⟨tg,F,ρ,fl,ρ',G,em,q⟩:=hq0
  cases em
  exact q σ H F G (Ext.refl _ _ _)
theorem az {g:Sd} (h:SV K X st g):SVs K X [st] g:=SVs.mk fun hk=>at7 (h hk)
theorem ak {g k:Sd} (h:SV K X st g) (t:SVs K X ss k):SVs K X (st::ss) (dSeq g k):=SVs.mk fun hk=>PSs.imp (aq4 (h hk) (t hk)) fun E σ H hq0=>by
  obtain ⟨tg,F,ρ,fl,ρ',G,em,q⟩:=hq0
  unfold dSeq at em
  split at em
  · rename_i ρ1 e1
    exact ⟨tg,F,ρ,.nx,ρ1,G,e1,fun σ' H' F' G' x=>⟨tg,F',ρ1,fl,ρ',G',em,q.back x⟩⟩
  · rename_i hn
    refine ⟨tg,F,ρ,fl,ρ',G,em,?_⟩
    cases fl with
    | nx=>exact absurd em (hn ρ')
    | brk=>exact q
    | cont=>exact q
    | ret r=>exact q
    | exc _=>exact q
theorem aew:SV K X st (fun _=>none):=SV.mk fun _=>PS.imp aq6 fun E σ H ⟨tg,F,ρ,fl,ρ',G,em,q⟩=>by cases em
noncomputable def dM {α:Type} (m:M α) (k:α→Sd):Sd:=fun ρ=>match m ρ with
  | some (.ok x,ρ1)=>k x ρ1
  | some (.exc x,ρ1)=>some (.exc x,ρ1)
  | none=>none
theorem yw {α:Type} {m:M α} {k:α→Sd} {ρ ρ':Ro} {fl:Fl} {P:Prop} (h:dM m k ρ=some (fl,ρ')) (hx:FlOk K tg ρ0 σ0 F0 H0 E0' fl ρ') (go:∀ x ρ1,m ρ=some (.ok x,ρ1)→k x ρ1=some (fl,ρ')→P):P:=by
  unfold dM at h
  split at h
  · exact go _ _ (by assumption) h
  · cases h
    exact (show False from hx).elim
  · cases h
noncomputable def dRet (m:M Rv):Sd:=dM m fun r ρ=>some (.ret r,ρ)
theorem fu {m:M Rv} (h:ER K X e m):SV K X (.Return (some e) pos) (dRet m):=SV.mk fun hk=>PS.imp (axa (h hk)) fun E σ H ⟨tg,F,ρ,fl,ρ',G,em,q⟩=>yw em q fun r ρ1 e1 em=>by
  cases em
  exact ⟨tg,F,ρ,r,_,G,e1,fun v H' F' G' x rr=>q v σ H' F' G' x rr⟩
noncomputable def dIf (m:M Bool) (g k:Sd):Sd:=dM m fun z=>if z=true then g else k
theorem zb {m:M Bool} {g k:Sd} {ss':List Stmt} (h:ET K X c m) (h1:SVs K X ss g) (h2:SVs K X ss' k):SV K X (.If c ss ss' pos) (dIf m g k):=SV.mk fun hk=>PS.imp (a1g (h hk) (h1 hk) (h2 hk)) fun E σ H ⟨tg,F,ρ,fl,ρ',G,em,q⟩=>yw em q fun z ρ1 e1 em=>by
  refine ⟨tg,F,ρ,z,ρ1,G,e1,fun H' F' G' x => ?_⟩
  cases z with
  | true=>exact iteT ⟨tg,F',ρ1,fl,ρ',G',em,q.back x⟩
  | false=>exact iteF ⟨tg,F',ρ1,fl,ρ',G',em,q.back x⟩
noncomputable def ad8 {α:Type} (m:M α):Sd:=dM m fun _ ρ=>some (.nx,ρ)
theorem xr {m:M Rv} (h:ER K X e m) (hs:swapsWith e none pos.line X.env=pure false:=by rfl):SV K X (.Expr e pos) (ad8 m):=SV.mk fun hk=>PS.imp (aua (h hk) hs) fun E σ H ⟨tg,F,ρ,fl,ρ',G,em,q⟩=>yw em q fun r ρ1 e1 em=>by
  cases em
  exact ⟨tg,F,ρ,r,_,G,e1,fun v H' F' G' x rr=>q σ H' F' G' x⟩
section
variable {tg:Nat→Addr} {F H:Hp} {ρ:Ro} {σ:L2.St}
theorem akg {i:Nat} {s:Sl} {v:V} {b:Addr} (hl:ρ.length=σ.length) (h:Own (List.set ρ i s) (List.set σ i (some v)) b):Own ρ σ b∨((∃ t l,s=.own t l)∧v=.ref b):=by
  obtain ⟨j,⟨t,l,e⟩,q⟩:=h
  rw [List.getElem?_set] at e q
  by_cases hj:i=j
  · subst hj
    rw [if_pos rfl] at e q
    split at e
    · rename_i hi
      rw [if_pos (by rw [←hl]; exact hi)] at q
      cases e
      cases q
      exact .inr ⟨⟨t,l,rfl⟩,rfl⟩
    · cases e
  · rw [if_neg hj] at e q
    exact .inl ⟨j,⟨t,l,e⟩,q⟩
theorem Good.put (G:Good K tg F H ρ σ) {s:Sl} {v:V} (i:Nat) (h:SlOk K tg F H s (some v)) (n:∀ t l a,s=.own t l→v=.ref a→¬Own ρ σ a):Good K tg F H (List.set ρ i s) (List.set σ i (some v)) where
  sub:=G.sub
  len:=by rw [List.length_set,List.length_set]; exact G.len
  sl:=fun j s' o e q=>by
    rw [List.getElem?_set] at e q
    by_cases hj:i=j
    · subst hj
      rw [if_pos rfl] at e q
      split at e
      · rename_i hi
        rw [if_pos (by rw [←G.len]; exact hi)] at q
        cases e
        cases q
        exact h
      · cases e
    · rw [if_neg hj] at e q
      exact G.sl j s' o e q
  inj:=fun j k a ⟨⟨t,l,e⟩,q⟩ ⟨⟨t',l',e'⟩,q'⟩=>by
    rw [List.getElem?_set] at e q e' q'
    by_cases hj:i=j
    · subst hj
      rw [if_pos rfl] at e q
      by_cases hk:i=k
      · exact hk
      · rw [if_neg hk] at e' q'
        split at e
        · rename_i hi
          rw [if_pos (by rw [←G.len]; exact hi)] at q
          cases e
          cases q
          exact absurd ⟨k,⟨t',l',e'⟩,q'⟩ (n t l a rfl rfl)
        · cases e
    · rw [if_neg hj] at e q
      by_cases hk:i=k
      · subst hk
        rw [if_pos rfl] at e' q'
        split at e'
        · rename_i hi
          rw [if_pos (by rw [←G.len]; exact hi)] at q'
          cases e'
          cases q'
          exact absurd ⟨j,⟨t,l,e⟩,q⟩ (n t' l' a rfl rfl)
        · cases e'
      · rw [if_neg hk] at e' q'
        exact G.inj j k a ⟨⟨t,l,e⟩,q⟩ ⟨⟨t',l',e'⟩,q'⟩
noncomputable def Rv.sl:Rv→Sl
  | .v d=>.val d
  | .fr l=>.own none l
  | .tf _ _=>.emp
theorem Good.store {F0 H0:Hp} {O:Addr→Prop} (G:Good K tg F H ρ σ) (x:Ext O (Own ρ σ) F0 H0 F H) {r:Rv} {v:V} (i:Nat) (h:relR K r v H0 O F H (Own ρ σ)) :
    Good K tg F H (List.set ρ i r.sl) (List.set σ i (some v))∧Ext O (Own (List.set ρ i r.sl) (List.set σ i (some v))) F0 H0 F H:=by
  cases r with
  | v d =>
    refine ⟨G.put i ⟨v,rfl,h⟩ (fun t l a e=>by cases e),x.sub,x.new,x.keep,fun b w => ?_,x.there⟩
    rcases akg G.len w with w | ⟨⟨t,l,e⟩,_⟩
    · exact x.own b w
    · cases e
  | fr l =>
    obtain ⟨a,vs,rfl,ha,hf,hh,hl,hn⟩:=h
    refine ⟨G.put i ⟨a,vs,rfl,hf,hh,hl,fun k e=>by cases e⟩ (fun t l' b _ e2=>by cases e2; exact hn),x.sub,x.new,x.keep,fun b w => ?_,x.there⟩
    rcases akg G.len w with w | ⟨_,e⟩
    · exact x.own b w
    · cases e
      exact ha.symm
  | tf d l =>
    refine ⟨G.put i trivial (fun t l a e=>by cases e),x.sub,x.new,x.keep,fun b w => ?_,x.there⟩
    rcases akg G.len w with w | ⟨⟨t,l,e⟩,_⟩
    · exact x.own b w
    · cases e
end
noncomputable def dSet (i:Nat) (m:M Rv):Sd:=dM m fun r ρ=>some (.nx,List.set ρ i r.sl)
theorem di {i:Nat} {x:Str} {m:M Rv} (hN:X.N.Nodup) (hi:X.N[i]? = some x) (hx:Loc X.env.scope x) (h:ER K X e m) (hs:swapsWith e (some (.Name x p)) pos.line X.env=pure false:=by rfl) (hf:X.fn x=true∨X.env.scope.names.lookup x=some .local:=by first | exact .inl rfl | exact .inr rfl | assumption) :
    SV K X (.Assign [.Name x p] e pos) (dSet i m):=SV.mk fun hk=>PS.imp (aw9 hN hi hx (h hk) hs hf) fun E σ H ⟨tg,F,ρ,fl,ρ',G,em,q⟩=>yw em q fun r ρ1 e1 em=>by
  cases em
  refine ⟨tg,F,ρ,r,ρ1,G,e1,fun v H' F' G' x rr => ?_⟩
  obtain ⟨G2,x2⟩:=G'.store x i rr
  exact q _ H' F' G2 x2
noncomputable def TGd (K:PySem.W.Frag) (b:D→Ro→Option Ro):TG:=fun v σ H Q=>∃ tg F ρ d ρ',Good K tg F H ρ σ∧Is K F d v∧b d ρ=some ρ'∧∀ σ' H' F',Good K tg F' H' ρ' σ'→Ext (Own ρ σ) (Own ρ' σ') F H F' H'→Q σ' H'
structure GV (K:PySem.W.Frag) (X:Cx) (e:Expr) (b:D→Ro→Option Ro):Prop where
  go:X.K=K→PG X e (TGd K b)
instance {K:PySem.W.Frag} {X:Cx} {e:Expr} {b:D→Ro→Option Ro}:CoeFun (GV K X e b) fun _=>X.K=K→PG X e (TGd K b):=⟨GV.go⟩
theorem PG.imp {t t':TG} (h:PG X e t) (w:∀ v σ H Q,t' v σ H Q→t v σ H Q):PG X e t':=fun pins s σ H v u Q I r q=>h pins s σ H v u Q I r (w v σ H Q q)
noncomputable def cz (i:Nat):D→Ro→Option Ro:=fun d ρ=>some (List.set ρ i (.val d))
theorem Good.storeV {tg:Nat→Addr} {F H:Hp} {ρ:Ro} {σ:L2.St} (G:Good K tg F H ρ σ) {d:D} {v:V} (i:Nat) (h:Is K F d v):Good K tg F H (List.set ρ i (.val d)) (List.set σ i (some v))∧Ext (Own ρ σ) (Own (List.set ρ i (.val d)) (List.set σ i (some v))) F H F H :=
  G.store (r:=.v d) (Ext.refl _ _ _) i h
theorem cu {i:Nat} {x:Str} (hN:X.N.Nodup) (hi:X.N[i]? = some x) (hx:Loc X.env.scope x) (hf:X.fn x=true∨X.env.scope.names.lookup x=some .local:=by first | exact .inl rfl | exact .inr rfl | assumption):GV K X (.Name x pos) (cz i):=GV.mk fun _=>PG.imp (auk hN hi hx hf) fun v σ H Q hq0=>by
  obtain ⟨tg,F,ρ,d,ρ',G,h,em,q⟩:=hq0
  cases em
  obtain ⟨G2,x2⟩:=G.storeV i h
  exact q _ H F G2 x2
noncomputable def TGsd (K:PySem.W.Frag) (b:List D→Ro→Option Ro):TGs:=fun vs σ H Q=>∃ tg F ρ ds ρ',Good K tg F H ρ σ∧IsL K F ds vs∧b ds ρ=some ρ'∧∀ σ' H' F',Good K tg F' H' ρ' σ'→Ext (Own ρ σ) (Own ρ' σ') F H F' H'→Q σ' H'
structure GVs (K:PySem.W.Frag) (X:Cx) (es:List Expr) (b:List D→Ro→Option Ro):Prop where
  go:X.K=K→PGs X es (TGsd K b)
instance {K:PySem.W.Frag} {X:Cx} {es:List Expr} {b:List D→Ro→Option Ro}:CoeFun (GVs K X es b) fun _=>X.K=K→PGs X es (TGsd K b):=⟨GVs.go⟩
theorem PGs.imp {t t':TGs} (h:PGs X es t) (w:∀ v σ H Q,t' v σ H Q→t v σ H Q):PGs X es t':=fun pins s σ H v u Q I r q=>h pins s σ H v u Q I r (w v σ H Q q)
noncomputable def bNil:List D→Ro→Option Ro:=fun ds ρ=>match ds with
  | []=>some ρ
  | _=>none
noncomputable def j6 (b:D→Ro→Option Ro) (bs:List D→Ro→Option Ro):List D→Ro→Option Ro:=fun ds ρ=>match ds with
  | d::r=>(b d ρ).bind (bs r)
  | _=>none
theorem yg:GVs K X [] bNil:=GVs.mk fun _=>PGs.imp auj fun vs σ H Q hq0=>by
  obtain ⟨tg,F,ρ,ds,ρ',G,h,em,q⟩:=hq0
  cases ds with
  | nil=>cases em; cases h; exact ⟨rfl,q σ H F G (Ext.refl _ _ _)⟩
  | cons _ _=>cases em
theorem ik {b:D→Ro→Option Ro} {bs:List D→Ro→Option Ro} (h1:GV K X e b) (h2:GVs K X es bs) (hs:(assignEach (e::es) X.env).map (·.2)=assign e X.env::(assignEach es X.env).map (·.2):=by rfl):GVs K X (e::es) (j6 b bs):=GVs.mk fun hk=>PGs.imp (ara (h1 hk) (h2 hk) hs) fun vs σ H Q hq0=>by
  obtain ⟨tg,F,ρ,ds,ρ',G,h,em,q⟩:=hq0
  cases h with
  | nil=>cases em
  | @cons d v ds vs hd ht =>
    have em:(b d ρ).bind (bs ds)=some ρ':=em
    cases e1:b d ρ with
    | none=>rw [e1] at em; cases em
    | some ρ1 =>
      rw [e1] at em
      exact ⟨v,vs,rfl,tg,F,ρ,d,ρ1,G,hd,e1,fun σ' H' F' G' x=>⟨tg,F',ρ1,ds,ρ',G',ht.mono x.sub,em,fun σ2 H2 F2 G2 x2=>q σ2 H2 F2 G2 (x.trans x2)⟩⟩
noncomputable def bTup (n:Nat) (bs:List D→Ro→Option Ro):D→Ro→Option Ro:=fun d ρ=>match d with
  | .tup l=>if l.length=n then bs l ρ else none
  | _=>none
theorem abi {k n:Nat} {bs:List D→Ro→Option Ro} (hc:X.calm=true) (h:GVs K X es bs) (hn:(assignEach es X.env).length=n:=by rfl) (hst:(assignEach es X.env).findIdx? (·.1)=none:=by rfl):GV K X (.Tuple es k pos) (bTup n bs):=GV.mk fun hk=>PG.imp (axd hc (h hk) hn hst) fun v σ H Q hq0=>by
  obtain ⟨tg,F,ρ,d,ρ',G,hd,em,q⟩:=hq0
  cases hd with
  | @tup a vs ds e hl =>
    have em:(if ds.length=n then bs ds ρ else none)=some ρ':=em
    split at em
    · rename_i hz
      exact ⟨a,vs,rfl,SqT.of (G.sub _ _ e),by rw [←hl.length]; exact hz,tg,F,ρ,ds,ρ',G,hl,em,q⟩
    · cases em
  | _=>cases em
noncomputable def dAsg (m:M D) (b:D→Ro→Option Ro):Sd:=dM m fun d ρ=>(b d ρ).map fun ρ'=>(.nx,ρ')
theorem an5 {m:M D} {b:D→Ro→Option Ro} (h:EV K X e m) (hg:GV K X tgt b) (hs:swapsWithSole [tgt] e pos.line X.env=pure false:=by rfl) (hw:swappedStores [tgt] e X.env=pure none:=by rfl)
    (h1:(assignEach [tgt] X.env).map (·.2)=[assign tgt X.env]:=by rfl):SV K X (.Assign [tgt] e pos) (dAsg m b):=SV.mk fun hk=>PS.imp (as6 (h hk) (hg hk) hs hw h1) fun E σ H ⟨tg,F,ρ,fl,ρ',G,em,q⟩=>yw em q fun d ρ1 e1 em=>by
  refine ⟨tg,F,ρ,d,ρ1,G,e1,fun v H' F' G' x r => ?_⟩
  cases e2:b d ρ1 with
  | none=>rw [e2] at em; cases em
  | some ρ2 =>
    rw [e2] at em
    cases em
    exact ⟨tg,F',ρ1,d,_,G',r,e2,fun σ2 H2 F2 G2 x2=>q σ2 H2 F2 G2 (x.trans x2)⟩
noncomputable def dPar (i j:Nat) (m:M (List D)):Sd:=dM m fun ds ρ=>match ds with
  | [d,d']=>some (.nx,List.set (List.set ρ i (.val d)) j (.val d'))
  | _=>none
theorem Good.mut {tg:Nat→Addr} {F H:Hp} {ρ:Ro} {σ:L2.St} (G:Good K tg F H ρ σ) {i:Nat} {t:Option Nat} {l l':List D} {a:Addr} {ys:List V} (e:(ρ:List Sl)[i]? = some (.own t l)) (q:σ[i]? = some (some (.ref a))) (h:IsL K F l' ys) :
    Good K tg F (upd H a (.lst ys)) (List.set ρ i (.own t l')) σ∧Ext (Own ρ σ) (Own (List.set ρ i (.own t l')) σ) F H F (upd H a (.lst ys)):=by
  obtain ⟨a',vs,e1,hf,hh,hl,ht⟩:=G.sl i _ _ e q
  cases e1
  have ow:∀ j b,Owns (List.set ρ i (.own t l')) σ j b→Owns ρ σ j b:=fun j b ⟨⟨t2,l2,e2⟩,q2⟩=>by
    rw [List.getElem?_set] at e2
    by_cases hj:i=j
    · subst hj
      exact ⟨⟨t,l,e⟩,q2⟩
    · rw [if_neg hj] at e2
      exact ⟨⟨t2,l2,e2⟩,q2⟩
  have me:Own ρ σ a:=⟨i,⟨t,l,e⟩,q⟩
  refine ⟨⟨fun b o z => ?_,by rw [List.length_set]; exact G.len,fun j s o e2 q2 => ?_,fun j k b w1 w2=>G.inj j k b (ow _ _ w1) (ow _ _ w2)⟩,Same.refl F,fun _ _ z=>.inl z,fun b o z n => ?_,fun b ⟨j,w⟩=>.inl ⟨j,ow j b w⟩,fun b z => ?_⟩
  · have hb:b≠a:=fun z2=>by
      subst z2
      rw [hf] at z
      cases z
    rw [fc hb]
    exact G.sub b o z
  · rw [List.getElem?_set] at e2
    by_cases hj:i=j
    · subst hj
      rw [if_pos rfl] at e2
      split at e2
      · cases e2
        rw [q] at q2
        cases q2
        exact ⟨a,ys,rfl,hf,jh,h,ht⟩
      · cases e2
    · rw [if_neg hj] at e2
      have z:=G.sl j s o e2 q2
      cases s with
      | emp=>trivial
      | val d=>exact z
      | own t2 l2 =>
        obtain ⟨b,ws,e3,hf3,hh3,hl3,ht3⟩:=z
        have hb:b≠a:=fun z2=>by
          subst z2
          exact hj (G.inj i j b ⟨⟨t,l,e⟩,q⟩ ⟨⟨t2,l2,e2⟩,by rw [q2,e3]⟩)
        exact ⟨b,ws,e3,hf3,by rw [fc hb]; exact hh3,hl3,ht3⟩
  · have hb:b≠a:=fun z2=>n (z2▸me)
    rw [fc hb]
    exact z
  · by_cases hb:b=a
    · subst hb
      rw [jh] at z
      cases z
    · rw [fc hb] at z
      exact z
noncomputable def mOwn (i:Nat):M (List D):=fun ρ=>match ρ[i]? with
  | some (.own _ l)=>some (.ok l,ρ)
  | _=>none
theorem ac0 {tg:Nat→Addr} {F H:Hp} {ρ ρ':Ro} {σ:L2.St} (G:Good K tg F H ρ σ) {i:Nat} {l:List D} (em:mOwn i ρ=some (.ok l,ρ')):ρ'=ρ∧∃ t a xs,(ρ:List Sl)[i]? = some (.own t l)∧σ[i]? = some (some (.ref a))∧H a=some (.lst xs)∧IsL K F l xs:=by
  unfold mOwn at em
  split at em
  · rename_i t l' e'
    cases em
    obtain ⟨o,ho,a,vs,rfl,hf,hh,hl,_⟩:=G.at e'
    exact ⟨rfl,t,a,vs,e',ho,hh,hl⟩
  · cases em
noncomputable def ac7 (i:Nat) (l':List D):M Unit:=fun ρ=>match ρ[i]? with
  | some (.own t _)=>some (.ok (),List.set ρ i (.own t l'))
  | _=>none
noncomputable def mMut (i:Nat) (g:List D→List D→Option (D×List D)) (ms:M (List D)):M D:=(mOwn i).bind fun _=>ms.bind fun ds=>(mOwn i).bind fun l=>(lift (g l ds)).bind fun r=>(ac7 i r.2).bind fun _=>ret r.1
noncomputable def MutD (K:PySem.W.Frag) (r:V→List V→Hp→VK→Prop) (g:List D→List D→Option (D×List D)):Prop :=
  ∀ (F H:Hp) (a:Addr) (xs vs:List V) (l ds:List D) (d:D) (l':List D) (Q:VK),Same F H→H a=some (.lst xs)→xs.length≤capS→IsL K F l xs→IsL K F ds vs→g l ds=some (d,l')→(∀ v ys,Is K F d v→IsL K F l' ys→Q v (upd H a (.lst ys)))→r (.ref a) vs H Q
theorem ahx {tg:Nat→Addr} {F H:Hp} {ρ ρ2:Ro} {σ:L2.St} (G:Good K tg F H ρ σ) {i:Nat} {l':List D} {u:Unit} {a:Addr} {ys:List V} (e:ac7 i l' ρ=some (.ok u,ρ2)) (q:σ[i]? = some (some (.ref a))) (h:IsL K F l' ys) :
    Good K tg F (upd H a (.lst ys)) ρ2 σ∧Ext (Own ρ σ) (Own ρ2 σ) F H F (upd H a (.lst ys)):=by
  unfold ac7 at e
  split at e
  · rename_i t l e'
    cases e
    exact G.mut e' q h
  · cases e
theorem amc {i:Nat} {name:Str} {id:String} {r:V→List V→Hp→VK→Prop} {g:List D→List D→Option (D×List D)} {ms:M (List D)} {apos cpos:Pos} (hr:MutD K r g) (slot:Slot "list" name id) (hty:typeOf (.builtin id)=pure (.type "method_descriptor")) (hm:MtR X id r) (ho:PE X a (tVar i)) (ha:ED K X (e::es) ms)
    (hbase:attributeBase a name X.env (eval a X.env)=eval a X.env:=by rfl)
    (hfew:((backTo cpos (starEach (e::es) X.env)).all (fun x => !x.1)&&(backToKw cpos (keywordEach [] X.env)).all (fun x=>x.1.isSome)
      && decide ((e::es).length+([]:List Keyword).length+(if ([]:List Keyword).isEmpty then 0 else 1) < 30))=true:=by rfl)
    (hline:(apos.endLine==cpos.line)=true:=by rfl) (hs:starEach (e::es) X.env=(false,eval e X.env)::starEach es X.env:=by rfl) (hplain:(backTo cpos (starEach es X.env)).any (·.1)=false:=by rfl) :
    EV K X (.Call (.Attribute a name apos) (e::es) [] cpos) (mMut i g ms):=EV.mk fun hk=>by
  intro pins s σ H Q I ⟨tg,F,ρ,d,ρ',G,em,q⟩
  obtain ⟨l0,ρ0,e0,em1⟩:=bh em
  obtain ⟨ds,ρ1,e1,em2⟩:=bh em1
  obtain ⟨l,ρ2,e2,em3⟩:=bh em2
  obtain ⟨x,ρ3,e3,em4⟩:=bh em3
  obtain ⟨u,ρ4,e4,em5⟩:=bh em4
  obtain ⟨rfl,rfl⟩:=j7 em5
  obtain ⟨eg,rfl⟩:=jc e3
  obtain ⟨rfl,t0,b,xs0,es0,hv,hh0,hl0⟩:=ac0 G e0
  refine a1n (r:=fun x vs H Q=>(∀ b xs,x=.ref b→H b=some (.lst xs)→xs.length≤capS)→r x vs H Q) PySem.F.plainAttrs_list slot hty (fun pins s σ H x xs v us Q I rx rv h=>hm pins s σ H x xs v us Q I rx rv (h fun b xs _ hb => ?_)) ho (ha hk) hbase hfew hline hs hplain pins s σ H Q I ?_
  · obtain ⟨z,_⟩:=I.lstM hb
    rw [sizeLine_eq] at z
    exact z
  refine ⟨_,hv,.inl ⟨rfl,_,SqL.of hh0⟩,tg,F,ρ0,ds,ρ1,G,e1,fun vs H1 F1 G1 x1 r1 cap => ?_⟩
  obtain ⟨rfl,t,a',xs,es',hv',hh,hl⟩:=ac0 G1 e2
  rw [hv] at hv'
  cases hv'
  refine hr F1 H1 _ xs vs l ds x.1 x.2 Q G1.sub hh (cap _ _ rfl hh) hl r1 eg fun w ys iw il => ?_
  obtain ⟨G2,x2⟩:=ahx G1 e4 hv il
  exact q w _ F1 G2 (x1.trans x2) iw
noncomputable def ad2 (l ds:List D):Option (D×List D):=match ds with
  | [d]=>if l.length < capS then some (.non,l++[d]) else none
  | _=>none
theorem abu:MutD K aoi ad2:=by
  intro F H a xs vs l ds d l' Q g hh hc hl hd eg q
  match ds,eg with
  | [d1],eg =>
    have eg:(if l.length < capS then some (D.non,l++[d1]) else none)=some (d,l'):=eg
    split at eg
    · rename_i hz
      cases eg
      cases hd with
      | cons h t =>
        cases t
        exact ⟨a,xs,_,rfl,rfl,hh,by rw [sizeLine_eq,←hl.length]; exact hz,q _ _ .non (hl.append (.cons h .nil))⟩
    · cases eg
noncomputable def dSub (i:Nat) (mi m:M D):Sd:=dM m fun d=>dM (mOwn i) fun _=>dM mi fun k=>dM (mOwn i) fun l=>dM (lift ((asI k).bind (ixN l.length))) fun j=>dM (ac7 i (l.set j d)) fun _=>dNx
theorem aed {i:Nat} {mi m:M D} (h:EV K X e m) (ho:PE X a (tVar i)) (hi:EV K X b mi) (hs:swapsWithSole [.Subscript a b p] e pos.line X.env=pure false:=by rfl) (hw:swappedStores [.Subscript a b p] e X.env=pure none:=by rfl)
    (h1:(assignEach [.Subscript a b p] X.env).map (·.2)=[assign (.Subscript a b p) X.env]:=by rfl)
    (ha:∀ v,assign (.Subscript a b p) X.env v=(do
      let ov ←holding [v] (eval a X.env)
      let iv ←holding [v,ov] (eval b X.env)
      standAt p
      holding [v,ov,iv] (setItem ov iv v)
      release [v,ov,iv] []):=by intro _; rfl):SV K X (.Assign [.Subscript a b p] e pos) (dSub i mi m):=SV.mk fun hk=>PS.imp (as6 (h hk) (axe ho (hi hk) set_list ha) hs hw h1) fun E σ H ⟨tg,F,ρ,fl,ρ',G,em,q⟩ =>
  yw em q fun d ρ1 e1 em=>yw em q fun l0 ρ0 e0 em=>yw em q fun k ρ2 e2 em=>yw em q fun l ρ3 e3 em=>yw em q fun j ρ4 e4 em=>yw em q fun u ρ5 e5 em=>by
  cases em
  obtain ⟨e6,rfl⟩:=jc e4
  refine ⟨tg,F,ρ,d,ρ1,G,e1,fun v H1 F1 G1 x1 r1 => ?_⟩
  obtain ⟨rfl,t0,a0,xs0,es0,hv,hh0,hl0⟩:=ac0 G1 e0
  refine ⟨_,hv,tg,F1,_,k,ρ2,G1,e2,fun w H2 F2 G2 x2 r2 => ?_⟩
  obtain ⟨rfl,t,a1,xs,es1,hv',hh,hl⟩:=ac0 G2 e3
  rw [hv] at hv'
  cases hv'
  cases ek:asI k with
  | none=>rw [ek] at e6; cases e6
  | some n =>
    rw [ek] at e6
    obtain rfl:=amm ek
    cases r2
    obtain ⟨G3,x3⟩:=ahx G2 e5 hv (hl.set (r1.mono x2.sub) j)
    exact ⟨_,xs,n,j,rfl,rfl,hh,by rw [←hl.length]; exact e6,q _ _ F2 G3 ((x1.trans x2).trans x3)⟩
noncomputable def dAug (f:Int→Int→Int) (i:Nat) (m:M D):Sd:=dM (mVar i) fun x=>dM m fun y=>dM (lift ((asI x).bind fun n=>(asI y).map fun k=>D.int (f n k))) fun z ρ=>some (.nx,List.set ρ i (.val z))
end
end Dn
namespace Dn
open PySem PySem.Spec PyProof.Rows L2 Mn
section
variable {K:PySem.W.Frag} {X:Cx} {e a b c tgt iter elt:Expr} {es:List Expr} {pos p p2:Pos} {st:Stmt} {ss:List Stmt}
theorem _root_.Mn.ItOf.imp {J:It} {xs:List V} {S S':Hp→Prop} (Z:ItOf J xs S) (h:∀ H,S' H→S H):ItOf J xs S':=⟨fun i H q=>Z.go i H (h H q),fun i H x H' q=>Z.yld i H x H' (h H q),fun i H q=>Z.stop i H (h H q)⟩
noncomputable def Alt (K:PySem.W.Frag) (F:Hp) (d:D) (x:V) (H H':Hp):Prop:=(H'=H∧Is K F d x)∨∃ q vs ds,H q=none∧x=.ref q∧H'=upd H q (.tup vs)∧d=.tup ds∧IsL K F ds vs
structure ItD (K:PySem.W.Frag) (J:It) (l:List D) (F:Hp):Prop where
  go:∀ i H,Same F H→i < l.length→J.go i H
  yld:∀ i H x H' d,Same F H→J.yld i H x H'→l[i]? = some d→Alt K F d x H H'
  stop:∀ H,Same F H→J.stop l.length H
theorem ItD.of {J:It} {l:List D} {vs:List V} {F:Hp} (il:IsL K F l vs) (Z:ItOf J vs fun H2=>Same F H2):ItD K J l F where
  go:=fun i H s hi=>Z.go i H s (by rw [←il.length]; exact hi)
  yld:=fun i H x H' d s y hd=>by
    obtain ⟨v,hv,iv⟩:=il.get hd
    obtain ⟨e,z⟩:=Z.yld i H x H' s y
    have:=z (List.getElem?_eq_some_iff.mp hv).1
    rw [hv] at this
    cases this
    exact .inl ⟨e,iv⟩
  stop:=fun H s=>Z.stop _ H s (by rw [←il.length]; exact Nat.le_refl _)
theorem amn {tg:Nat→Addr} {O:Addr→Prop} {F H F1 F2 H2 H3:Hp} {ρ2:Ro} {σ2:L2.St} {d:D} {x:V} (G2:Good K tg F2 H2 ρ2 σ2) (x2:Ext O (Own ρ2 σ2) F H F2 H2) (s2:Same F1 F2) (a:Alt K F1 d x H2 H3) :
    ∃ F3,Good K tg F3 H3 ρ2 σ2∧Ext O (Own ρ2 σ2) F H F3 H3∧Same F1 F3∧Is K F3 d x∧Ext (Own ρ2 σ2) (Own ρ2 σ2) F2 H2 F3 H3:=by
  rcases a with ⟨rfl,id⟩ | ⟨q,vs,ds,hq,rfl,rfl,rfl,il⟩
  · exact ⟨F2,G2,x2,s2,id.mono s2,Ext.refl _ _ _⟩
  · have z:=G2.newX hq (.tup vs)
    exact ⟨_,G2.new hq _,x2.trans z,s2.trans z.sub,.tup jh (il.mono (s2.trans z.sub)),z⟩
theorem avz {J:It} {l:List D} {F:Hp} (Z:ItD K J l F) {g:TG} {tb:TS} {D':Ends} {σ:L2.St} {H:Hp} (Pv:Nat→L2.St→Hp→Prop) (h0:Pv 0 σ H) (hl:∀ i σ H,i≤l.length→Pv i σ H→Same F H)
    (hs:∀ i d x σ H H',l[i]? = some d→Pv i σ H→Alt K F d x H H'→g x σ H' fun σ2 H2=>tb { D' with nx:=Pv (i+1),ct:=Pv (i+1),bk:=D'.nx } σ2 H2) (hd:∀ σ H,Pv l.length σ H→D'.nx σ H) :
    ∃ W:Nat→Nat→L2.St→Hp→Prop,(∃ m,W 0 m σ H)∧∀ i m σ H,W i m σ H →
      (J.stop i H∧D'.nx σ H)∨(J.go i H∧∃ N:L2.St→Hp→Prop,(∀ σ' H',N σ' H'→∃ m',m' < m∧W (i+1) m' σ' H')∧∀ x H',J.yld i H x H'→g x σ H' fun σ2 H2=>tb { D' with nx:=N,ct:=N,bk:=D'.nx } σ2 H2):=by
  refine ⟨fun i m σ H=>m=l.length - i∧i≤l.length∧Pv i σ H,⟨l.length,by simp,Nat.zero_le _,h0⟩,?_⟩
  rintro i m σ H ⟨rfl,hi,p⟩
  have q:=hl i σ H hi p
  by_cases hlt:i < l.length
  · exact .inr ⟨Z.go i H q hlt,Pv (i+1),fun σ' H' p'=>⟨l.length - (i+1),by omega,rfl,hlt,p'⟩,fun x H' y=>hs i _ x σ H H' (List.getElem?_eq_getElem hlt) p (Z.yld i H x H' _ q y (List.getElem?_eq_getElem hlt))⟩
  · have e:i=l.length:=by omega
    subst e
    exact .inl ⟨Z.stop H q,hd σ H p⟩
theorem asq {J:It} {l:List D} {F:Hp} (Z:ItD K J l F) {d:Addr} {g:TG} {ti:TT} {te:TE} {Q:VK} {σ0:L2.St} {H1:Hp} (Pv:Nat→List V→L2.St→Hp→Prop) (h0:Pv 0 [] σ0 (upd H1 d (.lst [])))
    (hl:∀ i ys σ H,i≤l.length→Pv i ys σ H→Same F H∧H d=some (.lst ys))
    (hs:∀ i e x ys σ H H' (M:List V→L2.St→Hp→Prop),l[i]? = some e→Pv i ys σ H→Alt K F e x H H'→(∀ ys' σ' H',Pv (i+1) ys' σ' H'→M ys' σ' H') →
      g x σ H' fun σ4 H4=>ti σ4 H4 fun b H5=>if b=true then te σ4 H5 fun y H6=>H6 d=some (.lst ys)∧ys.length < sizeLine∧M (ys++[y]) σ4 (upd H6 d (.lst (ys++[y]))) else M ys σ4 H5)
    (hd:∀ ys σ H,Pv l.length ys σ H→Q (.ref d) H):azs J g ti te Q d σ0 H1:=by
  refine ⟨fun i m ys σ H=>m=l.length - i∧i≤l.length∧Pv i ys σ H,⟨l.length,by simp,Nat.zero_le _,h0⟩,?_⟩
  rintro i m ys σ H ⟨rfl,hi,p⟩
  obtain ⟨q,e⟩:=hl i ys σ H hi p
  refine ⟨e,?_⟩
  by_cases hlt:i < l.length
  · exact .inr ⟨Z.go i H q hlt,fun x H' y=>hs i _ x ys σ H H' (fun ys' σ' H'=>∃ m',m' < l.length - i∧(m'=l.length - (i+1)∧i+1≤l.length∧Pv (i+1) ys' σ' H')) (List.getElem?_eq_getElem hlt) p (Z.yld i H x H' _ q y (List.getElem?_eq_getElem hlt)) fun ys' σ' H' p'=>⟨l.length - (i+1),by omega,rfl,hlt,p'⟩⟩
  · have e:i=l.length:=by omega
    subst e
    exact .inl ⟨Z.stop H q,hd ys σ H p⟩
noncomputable def TIt (K:PySem.W.Frag) (m:M (List D)):TI:=fun σ H R=>∃ tg F ρ l ρ',Good K tg F H ρ σ∧m ρ=some (.ok l,ρ')∧∀ J H' F',Good K tg F' H' ρ' σ→Ext (Own ρ σ) (Own ρ' σ) F H F' H'→ItD K J l F'→R J H'
structure IT (K:PySem.W.Frag) (X:Cx) (tgt iter:Expr) (m:M (List D)):Prop where
  go:X.K=K→PI X tgt iter (TIt K m)
instance {K:PySem.W.Frag} {X:Cx} {tgt iter:Expr} {m:M (List D)}:CoeFun (IT K X tgt iter m) fun _=>X.K=K→PI X tgt iter (TIt K m):=⟨IT.go⟩
noncomputable def vq (m:M D):M (List D):=m.bind fun d=>lift (itemsD d)
theorem ye {m:M D} (h:EV K X iter m):IT K X tgt iter (vq m):=IT.mk fun hk=>by
  intro pins s σ H R I ⟨tg,F,ρ,l,ρ',G,em,q⟩
  obtain ⟨d,ρ1,e1,em⟩:=bh em
  obtain ⟨e2,rfl⟩:=jc em
  have h:=h hk
  subst hk
  cases d with
  | tup k =>
    cases e2
    refine axc h pins s σ H R I ⟨tg,F,ρ,_,_,G,e1,fun v H' F' G' x r => ?_⟩
    cases r with
    | @tup a vs _ e hl=>exact ⟨a,rfl,⟨vs,SqT.of (G'.sub _ _ e)⟩,q _ H' F' G' x (.of hl (ar0.imp fun H2 g=>SqT.of (g _ _ e)))⟩
  | lst k =>
    cases e2
    refine aon h pins s σ H R I ⟨tg,F,ρ,_,_,G,e1,fun v H' F' G' x r => ?_⟩
    cases r with
    | @lst a vs _ e hl=>exact ⟨a,rfl,⟨vs,SqL.of (G'.sub _ _ e)⟩,q _ H' F' G' x (.of hl (al2.imp fun H2 g=>SqL.of (g _ _ e)))⟩
  | kst k =>
    cases e2
    refine aon h pins s σ H R I ⟨tg,F,ρ,_,_,G,e1,fun v H' F' G' x r => ?_⟩
    cases r with
    | @kst a vs _ e hl=>exact ⟨a,rfl,⟨vs,L2.Same.seq G'.sub e⟩,q _ H' F' G' x (.of hl (al2.imp fun H2 g=>L2.Same.seq g e))⟩
  | _=>cases e2
noncomputable def jj (lo:Int) (n:Nat):List D:=(List.range n).map fun i=>D.int (lo+(i:Nat))
theorem alp {F:Hp} (lo:Int) (n:Nat):IsL K F (jj lo n) (ups lo n):=by
  have e1:jj lo n=((List.range n).map fun i=>lo+((i:Nat):Int)).map D.int:=by unfold jj; rw [List.map_map]; rfl
  have e2:ups lo n=((List.range n).map fun i=>lo+((i:Nat):Int)).map V.int:=by unfold ups; rw [List.map_map]; rfl
  rw [e1,e2]
  exact aez _
theorem azq {j:Int} (h:j.natAbs < 4611686018427387904) : -2 ^ 62≤j∧j < 2 ^ 62:=by
  have e:(2:Int) ^ 62=4611686018427387904:=by decide
  rw [e]
  omega
noncomputable def u6:List D→Option (List D)
  | [.int j]=>if j.natAbs < 4611686018427387904 then some (jj 0 j.toNat) else none
  | _=>none
noncomputable def avk:List D→Option (List D)
  | [.int i,.int j]=>if i.natAbs < 4611686018427387904∧j.natAbs < 4611686018427387904 then some (jj i (j - i).toNat) else none
  | _=>none
noncomputable def mGet {α β:Type} (g:α→Option β) (m:M α):M β:=m.bind fun ds=>lift (g ds)
theorem v4 {m:M (List D)} (hg:Gl X "range") (hm:X.mg "range" = none) (h:ED K X [a] m) (hs:starEach [a] X.env=[(false,eval a X.env)]:=by rfl):IT K X tgt (.Call (.Name "range" p) [a] [] pos) (mGet u6 m):=IT.mk fun hk=>by
  intro pins s σ H R I ⟨tg,F,ρ,l,ρ',G,em,q⟩
  obtain ⟨ds,ρ1,e1,em⟩:=bh em
  obtain ⟨e2,rfl⟩:=jc em
  refine aom hg hm (h hk) hs pins s σ H R I ⟨tg,F,ρ,ds,_,G,e1,fun vs H' F' G' x r => ?_⟩
  unfold u6 at e2
  split at e2
  · split at e2
    · rename_i j hc
      cases e2
      cases r with
      | cons h t =>
        cases t
        cases h
        exact ⟨_,rfl,(azq hc).1,(azq hc).2,q _ H' F' G' x (.of (alp 0 _) (ar3.imp fun _ _=>trivial))⟩
    · cases e2
  · cases e2
noncomputable def forD (b:D→Ro→Option Ro) (g:Sd):List D→Sd
  | [],ρ=>some (.nx,ρ)
  | d::ds,ρ=>match b d ρ with
    | none=>none
    | some ρ1=>match g ρ1 with
      | some (.nx,ρ2)=>forD b g ds ρ2
      | some (.cont,ρ2)=>forD b g ds ρ2
      | some (.brk,ρ2)=>some (.nx,ρ2)
      | some (.ret r,ρ2)=>some (.ret r,ρ2)
      | some (.exc x,ρ2)=>some (.exc x,ρ2)
      | none=>none
noncomputable def dFor (m:M (List D)) (b:D→Ro→Option Ro) (g:Sd):Sd:=dM m (forD b g)
theorem xq {m:M (List D)} {b:D→Ro→Option Ro} {g:Sd} (hp:PassesOwn (model X.prog X.w) X.A X.env X.xe) (hc:X.calm=true) (hi:IT K X tgt iter m) (hg:GV K X tgt b) (hb:SVs K X ss g)
    (hs:∀ x,foldedSetIterable iter X.env x=pure x:=by intro _; rfl):SV K X (.For tgt iter ss [] pos) (dFor m b g):=SV.mk fun hk=>PS.imp (axb hp hc (hi hk) (hg hk) (hb hk) hs) fun E σ H ⟨tg,F,ρ,fl,ρ',G,em,q⟩=>yw em q fun l ρ1 e1 em=>by
  refine ⟨tg,F,ρ,l,ρ1,G,e1,fun J H1 F1 G1 x1 Z => ?_⟩
  refine avz Z (fun i σ2 H2=>∃ F2 ρ2,Good K tg F2 H2 ρ2 σ2∧Ext (Own ρ σ) (Own ρ2 σ2) F H F2 H2∧Same F1 F2∧forD b g (l.drop i) ρ2=some (fl,ρ')) ⟨F1,ρ1,G1,x1,Same.refl _,em⟩ (fun i σ2 H2 _ ⟨F2,ρ2,G2,_,s2,_⟩=>s2.trans G2.sub) ?_ ?_
  · rintro i d x σ2 H2' H2 hd ⟨F2',ρ2,G2',x2',s2',em2⟩ al
    obtain ⟨F2,G2,x2,s2,id,_⟩:=amn G2' x2' s2' al
    have hlt:i < l.length:=(List.getElem?_eq_some_iff.mp hd).1
    have ed:l[i]=d:=(List.getElem?_eq_some_iff.mp hd).2
    rw [List.drop_eq_getElem_cons hlt,ed] at em2
    unfold forD at em2
    split at em2
    · cases em2
    · rename_i ρ3 e3
      refine ⟨tg,F2,ρ2,d,ρ3,G2,id,e3,fun σ3 H3 F3 G3 x3 => ?_⟩
      have again:∀ {ρ4:Ro},forD b g (l.drop (i+1)) ρ4=some (fl,ρ')→∀ σ' H' F',Good K tg F' H' ρ4 σ'→Ext (Own ρ3 σ3) (Own ρ4 σ') F3 H3 F' H' →
          ∃ F2 ρ2,Good K tg F2 H' ρ2 σ'∧Ext (Own ρ σ) (Own ρ2 σ') F H F2 H'∧Same F1 F2∧forD b g (l.drop (i+1)) ρ2=some (fl,ρ') :=
        fun {ρ4} e4 σ' H' F' G' x'=>⟨F',ρ4,G',(x2.trans x3).trans x',(s2.trans x3.sub).trans x'.sub,e4⟩
      split at em2
      · rename_i ρ4 e4
        exact ⟨tg,F3,ρ3,.nx,ρ4,G3,e4,again em2⟩
      · rename_i ρ4 e4
        exact ⟨tg,F3,ρ3,.cont,ρ4,G3,e4,again em2⟩
      · rename_i ρ4 e4
        cases em2
        exact ⟨tg,F3,ρ3,.brk,_,G3,e4,fun σ' H' F' G' x'=>q σ' H' F' G' ((x2.trans x3).trans x')⟩
      · rename_i r ρ4 e4
        cases em2
        exact ⟨tg,F3,ρ3,.ret r,_,G3,e4,fun v σ' H' F' G' x' rr=>q v σ' H' F' G' ((x2.trans x3).trans x') (nq (x2.trans x3) rr)⟩
      · cases em2
        exact (show False from q).elim
      · cases em2
  · rintro σ2 H2 ⟨F2,ρ2,G2,x2,s2,em2⟩
    rw [List.drop_eq_nil_of_le (Nat.le_refl _)] at em2
    cases em2
    exact q σ2 H2 F2 G2 x2
noncomputable def whileD (c:M Bool) (g:Sd):Nat→Sd
  | 0,_=>none
  | n+1,ρ=>match c ρ with
    | some (.ok true,ρ1)=>match g ρ1 with
      | some (.nx,ρ2)=>whileD c g n ρ2
      | some (.cont,ρ2)=>whileD c g n ρ2
      | some (.brk,ρ2)=>some (.nx,ρ2)
      | some (.ret r,ρ2)=>some (.ret r,ρ2)
      | some (.exc x,ρ2)=>some (.exc x,ρ2)
      | none=>none
    | some (.ok false,ρ1)=>some (.nx,ρ1)
    | some (.exc x,ρ1)=>some (.exc x,ρ1)
    | none=>none
theorem zg {m:M Bool} {g:Sd} (n:Nat) (hp:PassesOwn (model X.prog X.w) X.A X.env X.xe) (hc:ET K X c m) (hb:SVs K X ss g):SV K X (.While c ss [] pos) (whileD m g n):=SV.mk fun hk=>PS.imp (aq5 hp (hc hk) (hb hk)) fun E σ H hq0=>by
  obtain ⟨tg,F,ρ,fl,ρ',G,em,q⟩:=hq0
  refine ⟨fun k σ2 H2=>∃ F2 ρ2,Good K tg F2 H2 ρ2 σ2∧Ext (Own ρ σ) (Own ρ2 σ2) F H F2 H2∧whileD m g k ρ2=some (fl,ρ'),⟨n,F,ρ,G,Ext.refl _ _ _,em⟩,?_⟩
  rintro k σ2 H2 ⟨F2,ρ2,G2,x2,em2⟩
  cases k with
  | zero=>cases em2
  | succ k =>
    unfold whileD at em2
    split at em2
    · rename_i ρ3 e3
      refine ⟨tg,F2,ρ2,true,ρ3,G2,e3,fun H3 F3 G3 x3=>iteT ?_⟩
      refine ⟨fun σ' H'=>∃ F2 ρ2,Good K tg F2 H' ρ2 σ'∧Ext (Own ρ σ) (Own ρ2 σ') F H F2 H'∧whileD m g k ρ2=some (fl,ρ'),fun σ' H' h=>⟨k,Nat.lt_succ_self k,h⟩,?_⟩
      split at em2
      · rename_i ρ4 e4
        exact ⟨tg,F3,ρ3,.nx,ρ4,G3,e4,fun σ' H' F' G' x'=>⟨F',ρ4,G',(x2.trans x3).trans x',em2⟩⟩
      · rename_i ρ4 e4
        exact ⟨tg,F3,ρ3,.cont,ρ4,G3,e4,fun σ' H' F' G' x'=>⟨F',ρ4,G',(x2.trans x3).trans x',em2⟩⟩
      · rename_i ρ4 e4
        cases em2
        exact ⟨tg,F3,ρ3,.brk,_,G3,e4,fun σ' H' F' G' x'=>q σ' H' F' G' ((x2.trans x3).trans x')⟩
      · rename_i r ρ4 e4
        cases em2
        exact ⟨tg,F3,ρ3,.ret r,_,G3,e4,fun v σ' H' F' G' x' rr=>q v σ' H' F' G' ((x2.trans x3).trans x') (nq (x2.trans x3) rr)⟩
      · cases em2
        exact (show False from q).elim
      · cases em2
    · rename_i ρ3 e3
      cases em2
      exact ⟨tg,F2,ρ2,false,_,G2,e3,fun H3 F3 G3 x3=>iteF (q σ2 H3 F3 G3 (x2.trans x3))⟩
    · cases em2
      exact (show False from q).elim
    · cases em2
end
end Dn
namespace Dn
open PySem PySem.Spec PyProof.Rows L2 Mn
noncomputable def ai9 (ρ:Ro) (i:Nat) (o:Option Nat) (d:Option D):Sl:=match o with
  | some j=>match ρ[j]? with
    | some (.val d)=>.val d
    | some (.own _ l)=>.own (some i) l
    | _=>.emp
  | none=>match d with
    | some d=>.val d
    | none=>.emp
noncomputable def lend (ρ:Ro) (js:List (Option Nat)) (ds:List (Option D)):Ro:=(List.zip js ds).mapIdx fun i p=>ai9 ρ i p.1 p.2
noncomputable def okJs (ρ:Ro):List (Option Nat)→Bool
  | []=>true
  | none::r=>okJs ρ r
  | some j::r=>(match ρ[j]? with
    | some (.own _ _) => !r.contains (some j)
    | _=>true)&&okJs ρ r
theorem ahw {ρ:Ro}:∀ {js:List (Option Nat)} {i i' j:Nat} {t:Option Nat} {l:List D},okJs ρ js=true→js[i]? = some (some j)→js[i']? = some (some j)→ρ[j]? = some (.own t l)→i=i'
  | [],_,_,_,_,_,_,h,_,_=>by simp at h
  | o::r,0,0,_,_,_,_,_,_,_=>rfl
  | o::r,0,i'+1,j,t,l,hk,h,h',e=>by
    simp at h h'
    subst h
    unfold okJs at hk
    rw [e,Bool.and_eq_true] at hk
    have:=List.mem_of_getElem? h'
    simp [this] at hk
  | o::r,i+1,0,j,t,l,hk,h,h',e=>by
    simp at h h'
    subst h'
    unfold okJs at hk
    rw [e,Bool.and_eq_true] at hk
    have:=List.mem_of_getElem? h
    simp [this] at hk
  | none::r,i+1,i'+1,j,t,l,hk,h,h',e=>by
    rw [ahw (js:=r) (i:=i) (i':=i') (j:=j) (by unfold okJs at hk; exact hk) (by simpa using h) (by simpa using h') e]
  | some k::r,i+1,i'+1,j,t,l,hk,h,h',e=>by
    unfold okJs at hk
    rw [Bool.and_eq_true] at hk
    rw [ahw (js:=r) (i:=i) (i':=i') (j:=j) hk.2 (by simpa using h) (by simpa using h') e]
noncomputable def putS (js:List (Option Nat)) (ps:Ro) (j:Nat) (s:Sl):Sl:=match js.findIdx? (fun o=>o==some j) with
  | none=>s
  | some i=>match s with
    | .own t _=>match ps[i]? with
      | some (.own (some i') l')=>if i'=i then .own t l' else .emp
      | _=>.emp
    | s=>s
noncomputable def putB (ρ:Ro) (js:List (Option Nat)) (ps:Ro):Ro:=ρ.mapIdx fun j s=>putS js ps j s
noncomputable def tgOf (τ:L2.St) (i:Nat):Addr:=match τ[i]? with
  | some (some (.ref a))=>a
  | _=>0
section
variable {K:PySem.W.Frag} {tg:Nat→Addr} {F H F' H':Hp} {ρ ps:Ro} {σ τ:L2.St} {js:List (Option Nat)} {ds:List (Option D)} {O':Addr→Prop}
theorem al1 {i:Nat} {s:Sl} (h:(lend ρ js ds:List Sl)[i]? = some s):∃ o d,js[i]? = some o∧ds[i]? = some d∧s=ai9 ρ i o d:=by
  unfold lend at h
  rw [List.getElem?_mapIdx] at h
  cases e:(List.zip js ds)[i]? with
  | none=>rw [e] at h; cases h
  | some p =>
    rw [e] at h
    cases h
    rw [List.getElem?_zip_eq_some] at e
    exact ⟨p.1,p.2,e.1,e.2,rfl⟩
theorem arp {i:Nat} {t:Option Nat} {l:List D} (h:(lend ρ js ds:List Sl)[i]? = some (.own t l)):∃ j t',js[i]? = some (some j)∧ρ[j]? = some (.own t' l)∧t=some i:=by
  obtain ⟨o,d,e1,e2,e3⟩:=al1 h
  unfold ai9 at e3
  cases o with
  | none=>cases d <;> cases e3
  | some j =>
    simp only at e3
    cases e:ρ[j]? with
    | none=>rw [e] at e3; cases e3
    | some s =>
      rw [e] at e3
      cases s with
      | emp=>cases e3
      | val _=>cases e3
      | own t' l'=>cases e3; exact ⟨j,t',e1,e,rfl⟩
structure Lent (K:PySem.W.Frag) (F:Hp) (σ τ:L2.St) (js:List (Option Nat)) (ds:List (Option D)):Prop where
  l1:τ.length=js.length
  l2:ds.length=js.length
  h1:∀ (i j:Nat) (o:Option V),js[i]? = some (some j)→σ[j]? = some o→τ[i]? = some o
  h2:∀ (i:Nat) (d:D),js[i]? = some none→ds[i]? = some (some d)→∃ v,τ[i]? = some (some v)∧Is K F d v
theorem Good.σ_at (G:Good K tg F H ρ σ) {j:Nat} {s:Sl} (e:(ρ:List Sl)[j]? = some s):∃ o,σ[j]? = some o:=by
  obtain ⟨o,h,_⟩:=G.at e
  exact ⟨o,h⟩
theorem ac8 (G:Good K tg F H ρ σ) (L:Lent K F σ τ js ds) {i:Nat} {a:Addr} (h:Owns (lend ρ js ds) τ i a):∃ j,js[i]? = some (some j)∧Owns ρ σ j a:=by
  obtain ⟨⟨t,l,e⟩,q⟩:=h
  obtain ⟨j,t',e1,e2,_⟩:=arp e
  obtain ⟨o,ho⟩:=G.σ_at e2
  have:=L.h1 i j o e1 ho
  rw [q] at this
  cases this
  exact ⟨j,e1,⟨t',l,e2⟩,ho⟩
theorem ai8 (G:Good K tg F H ρ σ) (hk:okJs ρ js=true) (L:Lent K F σ τ js ds):Good K (tgOf τ) F H (lend ρ js ds) τ where
  sub:=G.sub
  len:=by
    unfold lend
    rw [List.length_mapIdx,List.length_zip,L.l2,L.l1]
    omega
  sl:=fun i s o e q=>by
    obtain ⟨oj,d,e1,e2,rfl⟩:=al1 e
    unfold ai9
    cases oj with
    | none =>
      cases d with
      | none=>trivial
      | some d =>
        obtain ⟨v,h1,h2⟩:=L.h2 i d e1 e2
        rw [q] at h1
        cases h1
        exact ⟨v,rfl,h2⟩
    | some j =>
      simp only
      cases e3:ρ[j]? with
      | none=>trivial
      | some s =>
        obtain ⟨o',ho,w⟩:=G.at e3
        have:=L.h1 i j o' e1 ho
        rw [q] at this
        cases this
        cases s with
        | emp=>trivial
        | val d=>exact w
        | own t l =>
          obtain ⟨a,vs,rfl,hf,hh,hl,_⟩:=w
          refine ⟨a,vs,rfl,hf,hh,hl,fun k e => ?_⟩
          cases e
          unfold tgOf
          rw [q]
  inj:=fun i i' a w w'=>by
    obtain ⟨j,e,v⟩:=ac8 G L w
    obtain ⟨j',e',v'⟩:=ac8 G L w'
    have:=G.inj j j' a v v'
    subst this
    obtain ⟨⟨t,l,z⟩,_⟩:=v
    exact ahw hk e e' z
structure Fin (K:PySem.W.Frag) (F' H':Hp) (τ:L2.St) (ps:Ro) (O':Addr→Prop):Prop where
  at':∀ (i:Nat) (l:List D),(ps:List Sl)[i]? = some (.own (some i) l)→O' (tgOf τ i)∧F' (tgOf τ i)=none∧∃ vs,H' (tgOf τ i)=some (.lst vs)∧IsL K F' l vs
theorem ahn {j:Nat} {s:Sl} (h:(putB ρ js ps:List Sl)[j]? = some s):∃ s0:Sl,(ρ:List Sl)[j]? = some s0∧((∃ t l,s0=Sl.own t l∧∃ i:Nat,js[i]? = some (some j)∧((∃ l',(ps:List Sl)[i]? = some (Sl.own (some i) l')∧s=Sl.own t l')∨s=Sl.emp)) ∨
    (s=s0∧∀ t l,s0=Sl.own t l→∀ i:Nat,js[i]? ≠ some (some j))):=by
  unfold putB at h
  rw [List.getElem?_mapIdx] at h
  cases e:(ρ:List Sl)[j]? with
  | none=>rw [e] at h; cases h
  | some s0 =>
    rw [e] at h
    refine ⟨s0,rfl,?_⟩
    have h:putS js ps j s0=s:=Option.some.inj h
    unfold putS at h
    cases ei:js.findIdx? (fun o=>o==some j) with
    | none =>
      rw [ei] at h
      have h:s0=s:=h
      refine .inr ⟨h.symm,fun _ _ _ i z => ?_⟩
      rw [List.findIdx?_eq_none_iff] at ei
      have:=ei _ (List.mem_of_getElem? z)
      simp at this
    | some i =>
      rw [ei] at h
      cases s0 with
      | emp=>exact .inr ⟨(show Sl.emp=s from h).symm,fun t l z=>by cases z⟩
      | val d=>exact .inr ⟨(show Sl.val d=s from h).symm,fun t l z=>by cases z⟩
      | own t l =>
        refine .inl ⟨t,l,rfl,i,?_,?_⟩
        · obtain ⟨hi,hb,_⟩:=List.findIdx?_eq_some_iff_getElem.mp ei
          rw [List.getElem?_eq_getElem hi]
          exact congrArg some (eq_of_beq hb)
        · have h:(match (ps:List Sl)[i]? with
            | some (.own (some i') l')=>if i'=i then Sl.own t l' else .emp
            | _=>.emp)=s:=h
          cases ep:(ps:List Sl)[i]? with
          | none=>rw [ep] at h; exact .inr h.symm
          | some sp =>
            rw [ep] at h
            cases sp with
            | emp=>exact .inr h.symm
            | val _=>exact .inr h.symm
            | own t' l' =>
              cases t' with
              | none=>exact .inr h.symm
              | some i' =>
                have h2:(if i'=i then Sl.own t l' else .emp)=s:=h
                by_cases z:i'=i
                · subst z
                  rw [if_pos rfl] at h2
                  exact .inl ⟨l',rfl,h2.symm⟩
                · rw [if_neg z] at h2
                  exact .inr h2.symm
theorem adl {j:Nat} {a:Addr} (h:Owns (putB ρ js ps) σ j a):Owns ρ σ j a:=by
  obtain ⟨⟨t,l,e⟩,q⟩:=h
  obtain ⟨s0,e0,h | ⟨rfl,_⟩⟩:=ahn e
  · obtain ⟨t',l',rfl,i,_,⟨l2,_,z⟩ | z⟩:=h
    · exact ⟨⟨t',l',e0⟩,q⟩
    · cases z
  · exact ⟨⟨t,l,e0⟩,q⟩
theorem aj1 (G:Good K tg F H ρ σ) (L:Lent K F σ τ js ds) (x:Ext (Own (lend ρ js ds) τ) O' F H F' H') (s':Same F' H') (fin:Fin K F' H' τ ps O'):Good K tg F' H' (putB ρ js ps) σ where
  sub:=s'
  len:=by
    unfold putB
    rw [List.length_mapIdx]
    exact G.len
  sl:=fun j s o e q=>by
    obtain ⟨s0,e0,h | ⟨rfl,hn⟩⟩:=ahn e
    · obtain ⟨t,l,rfl,i,ei,⟨l',ep,rfl⟩ | rfl⟩:=h
      · obtain ⟨a,vs,rfl,hf,hh,hl,ht⟩:=G.sl j _ _ e0 q
        obtain ⟨_,hf',ws,hh',hl'⟩:=fin.at' i l' ep
        have:=L.h1 i j _ ei q
        have et:tgOf τ i=a:=by
          unfold tgOf
          rw [this]
        rw [et] at hf' hh'
        exact ⟨a,ws,rfl,hf',hh',hl',ht⟩
      · trivial
    · have w:=G.sl j _ _ e0 q
      cases s with
      | emp=>trivial
      | val d =>
        obtain ⟨v,h1,h2⟩:=w
        exact ⟨v,h1,h2.mono x.sub⟩
      | own t l =>
        obtain ⟨a,vs,rfl,hf,hh,hl,ht⟩:=w
        have no:¬Own (lend ρ js ds) τ a:=fun ⟨i,z⟩=>by
          obtain ⟨j',e1,v⟩:=ac8 G L z
          have:=G.inj j' j a v ⟨⟨t,l,e0⟩,q⟩
          subst this
          exact hn t l rfl i e1
        refine ⟨a,vs,rfl,?_,x.keep a _ hh no,hl.mono x.sub,ht⟩
        cases z:F' a with
        | none=>rfl
        | some o =>
          rcases x.new a o z with z | z | z
          · rw [hf] at z; cases z
          · rw [hh] at z; cases z
          · exact absurd z no
  inj:=fun i j a w w'=>G.inj i j a (adl w) (adl w')
theorem aar (G:Good K tg F H ρ σ) (L:Lent K F σ τ js ds) {a:Addr} (h:Own (lend ρ js ds) τ a):Own ρ σ a:=by
  obtain ⟨i,h⟩:=h
  obtain ⟨j,_,h⟩:=ac8 G L h
  exact ⟨j,h⟩
theorem aml (G:Good K tg F H ρ σ) (L:Lent K F σ τ js ds) (x:Ext (Own (lend ρ js ds) τ) O' F H F' H'):Ext (Own ρ σ) (Own (putB ρ js ps) σ) F H F' H' where
  sub:=x.sub
  new:=fun a o e=>by
    rcases x.new a o e with z | z | z
    · exact .inl z
    · exact .inr (.inl z)
    · exact .inr (.inr (aar G L z))
  keep:=fun a o e n=>x.keep a o e fun z=>n (aar G L z)
  own:=fun a ⟨j,w⟩=>.inl ⟨j,adl w⟩
  there:=x.there
theorem aqe (G:Good K tg F H ρ σ) (L:Lent K F σ τ js ds) (fin:Fin K F' H' τ ps O') {a:Addr} (ha:H a=none∨Own (lend ρ js ds) τ a) (hn:¬O' a):¬Own (putB ρ js ps) σ a:=fun ⟨j,w⟩=>by
  have v:=adl w
  obtain ⟨⟨t,l2,e⟩,q⟩:=w
  obtain ⟨s0,e0,z | ⟨rfl,hno⟩⟩:=ahn e
  · obtain ⟨t',l',rfl,i,ei,⟨l3,ep,z⟩ | z⟩:=z
    · have et:tgOf τ i=a:=by
        unfold tgOf
        rw [L.h1 i j _ ei q]
      have:=(fin.at' i l3 ep).1
      rw [et] at this
      exact hn this
    · cases z
  · rcases ha with ha | ⟨i,z⟩
    · obtain ⟨a',vs',ea,_,e2,_⟩:=G.sl j _ _ e0 q
      cases ea
      rw [ha] at e2
      cases e2
    · obtain ⟨j',e1,v'⟩:=ac8 G L z
      have:=G.inj j' j a v' v
      subst this
      exact hno t l2 rfl i e1
theorem asy (G:Good K tg F H ρ σ) (L:Lent K F σ τ js ds) (fin:Fin K F' H' τ ps O') {r:Rv} {v:V} (h:relR K r v H (Own (lend ρ js ds) τ) F' H' O'):relR K r v H (Own ρ σ) F' H' (Own (putB ρ js ps) σ):=by
  cases r with
  | v d=>exact h
  | fr l =>
    obtain ⟨a,vs,rfl,ha,hf,hh,hl,hn⟩:=h
    exact ⟨a,vs,rfl,ha.imp id (aar G L),hf,hh,hl,aqe G L fin ha hn⟩
  | tf d l =>
    obtain ⟨t,u,a,vs,rfl,ht,hd,ha,hf,hh,hl,hn⟩:=h
    exact ⟨t,u,a,vs,rfl,ht,hd,ha.imp id (aar G L),hf,hh,hl,aqe G L fin ha hn⟩
end
end Dn
namespace Dn
open PySem PySem.Spec PyProof.Rows L2 Mn
noncomputable abbrev Fd:=Ro→Option (Out Rv×Ro)
noncomputable def fnD (nl np:Nat) (g:Sd):Fd:=fun as=>match g (as++List.replicate (nl - np) .emp) with
  | some (.ret r,ρ)=>some (.ok r,ρ.take np)
  | some (.nx,ρ)=>some (.ok (.v .non),ρ.take np)
  | some (.exc x,ρ)=>some (.exc x,ρ.take np)
  | _=>none
noncomputable def spOf (K:PySem.W.Frag) (n:Nat) (f:Fd):Sp:=fun vs H Q _=>vs.length=n∧∃ F as r ps,Good K (tgOf (vs.map some)) F H as (vs.map some)∧f as=some (.ok r,ps) ∧
  ∀ v H' F' O',Same F' H'→Ext (Own as (vs.map some)) O' F H F' H'→Fin K F' H' (vs.map some) ps O'→relR K r v H (Own as (vs.map some)) F' H' O'→Q v H'
section
variable {K:PySem.W.Frag}
theorem aur {as:Ro} {τ:L2.St} {n:Nat} {a:Addr} (hl:as.length=τ.length) (h:Own (as++List.replicate n .emp) (τ++List.replicate n none) a):Own as τ a:=by
  obtain ⟨i,⟨t,l,e⟩,q⟩:=h
  by_cases hi:i < as.length
  · rw [List.getElem?_append_left hi] at e
    rw [List.getElem?_append_left (by omega)] at q
    exact ⟨i,⟨t,l,e⟩,q⟩
  · rw [List.getElem?_append_right (by omega),List.getElem?_replicate] at e
    split at e <;> cases e
theorem arh {as:Ro} {τ:L2.St} {n:Nat} {a:Addr} (hl:as.length=τ.length) (h:Own as τ a):Own (as++List.replicate n .emp) (τ++List.replicate n none) a:=by
  obtain ⟨i,⟨t,l,e⟩,q⟩:=h
  have hi:=(List.getElem?_eq_some_iff.mp e).1
  exact ⟨i,⟨t,l,by rw [List.getElem?_append_left hi]; exact e⟩,by rw [List.getElem?_append_left (by omega)]; exact q⟩
theorem agq {as:Ro} {τ:L2.St} {n:Nat} (hl:as.length=τ.length):Own (as++List.replicate n .emp) (τ++List.replicate n none)=Own as τ:=funext fun a=>propext ⟨aur hl,arh hl⟩
theorem Good.app {tg:Nat→Addr} {F H:Hp} {as:Ro} {τ:L2.St} (G:Good K tg F H as τ) (n:Nat):Good K tg F H (as++List.replicate n .emp) (τ++List.replicate n none) where
  sub:=G.sub
  len:=by rw [List.length_append,List.length_append,G.len,List.length_replicate,List.length_replicate]
  sl:=fun i s o e q=>by
    have hl:=G.len
    by_cases hi:i < as.length
    · rw [List.getElem?_append_left hi] at e
      rw [List.getElem?_append_left (by omega)] at q
      exact G.sl i s o e q
    · rw [List.getElem?_append_right (by omega),List.getElem?_replicate] at e
      split at e
      · cases e; trivial
      · cases e
  inj:=fun i j a w w'=>by
    have hl:=G.len
    have f:∀ k,Owns (as++List.replicate n .emp) (τ++List.replicate n none) k a→Owns as τ k a:=fun k ⟨⟨t,l,e⟩,q⟩=>by
      by_cases hi:k < as.length
      · rw [List.getElem?_append_left hi] at e
        rw [List.getElem?_append_left (by omega)] at q
        exact ⟨⟨t,l,e⟩,q⟩
      · rw [List.getElem?_append_right (by omega),List.getElem?_replicate] at e
        split at e <;> cases e
    exact G.inj i j a (f i w) (f j w')
theorem a3d {P:Program} {w:World} {mg:Str→Option Value} {base:Heap} {x qual:Str} {st:Stmt} {f:Addr} {fd:FuncData} {N ps:List Str} {k:Nat} {g:Sd} (F:Fun K x qual st f fd) (S:FnScope N ps (ao st))
    (body:∀ (cdv:Value) (A:Around) (outer:List Env) (s:Shared) (H:Hp) (E:XK),Room k (A.deeper (envOfC qual (ao st) s.heap.objs.size f cdv))→SVs K (cxOf CX0 P w K mg base N qual (ao st) f cdv A outer s H E).nox (cj st) g) :
    FnOk P w K mg base CX0 (k+1) f fd ps (spOf K ps.length (fnD N.length ps.length g)):=by
  refine F.ok S (fun vs H Q E h=>h.1) (fun cdv A outer s H vs Q E hr h=>⟨_,body cdv A outer s H E hr rfl,?_⟩)
  obtain ⟨hn,F,as,r,ps',G,em,q⟩:=h
  have hl:as.length=(vs.map some).length:=G.len
  have G1:=G.app (N.length - vs.length)
  have es:start N vs=vs.map some++List.replicate (N.length - vs.length) none:=rfl
  rw [es]
  unfold fnD at em
  rw [←hn] at em
  have fin:∀ {ρ':Ro} {σ':L2.St} {F' H':Hp},Good K (tgOf (vs.map some)) F' H' ρ' σ'→Fin K F' H' (vs.map some) (ρ'.take vs.length) (Own ρ' σ'):=fun {ρ' σ' F' H'} G'=>⟨fun i l e=>by
    have hi:=(List.getElem?_eq_some_iff.mp e).1
    rw [List.length_take] at hi
    rw [List.getElem?_take_of_lt (by omega)] at e
    obtain ⟨o,ho,a,ws,rfl,hf,hh,hl,ht⟩:=G'.at e
    rw [ht i rfl]
    exact ⟨⟨i,⟨_,_,e⟩,ho⟩,hf,ws,hh,hl⟩⟩
  split at em
  · rename_i r' ρ' e
    cases em
    refine ⟨_,F,_,.ret r,ρ',G1,e,fun v σ' H' F' G' x' rr => ?_⟩
    rw [agq hl] at x' rr
    exact q v H' F' (Own ρ' σ') G'.sub x' (fin G') rr
  · rename_i ρ' e
    cases em
    refine ⟨_,F,_,.nx,ρ',G1,e,fun σ' H' F' G' x' => ?_⟩
    rw [agq hl] at x'
    exact q .non H' F' (Own ρ' σ') G'.sub x' (fin G') .non
  · cases em
  · cases em
end
section
variable {K:PySem.W.Frag} {X:Cx} {e a b c tgt iter elt:Expr} {es:List Expr} {pos p p2:Pos}
inductive AR (K:PySem.W.Frag) (F:Hp) (σ:L2.St):List (Option Nat)→List (Option D)→List V→Prop
  | nil:AR K F σ [] [] []
  | ex {d:D} {v:V} {js:List (Option Nat)} {ds:List (Option D)} {vs:List V} (h:Is K F d v) (t:AR K F σ js ds vs):AR K F σ (none::js) (some d::ds) (v::vs)
  | nm {j:Nat} {v:V} {js:List (Option Nat)} {ds:List (Option D)} {vs:List V} (h:σ[j]? = some (some v)) (t:AR K F σ js ds vs):AR K F σ (some j::js) (none::ds) (v::vs)
theorem AR.lent {F:Hp} {σ:L2.St}:∀ {js:List (Option Nat)} {ds:List (Option D)} {vs:List V},AR K F σ js ds vs→Lent K F σ (vs.map some) js ds
  | _,_,_,.nil=>⟨rfl,rfl,fun i j o h=>by simp at h,fun i d h=>by simp at h⟩
  | _,_,_,.ex h t=>by
    have L:=t.lent
    refine ⟨by simp [by simpa using L.l1],by simp [L.l2],fun i j o h q => ?_,fun i d h q => ?_⟩
    · cases i with
      | zero=>simp at h
      | succ i=>simpa using L.h1 i j o (by simpa using h) q
    · cases i with
      | zero=>simp at q; subst q; exact ⟨_,rfl,‹_›⟩
      | succ i=>simpa using L.h2 i d (by simpa using h) (by simpa using q)
  | _,_,_,.nm h t=>by
    have L:=t.lent
    refine ⟨by simp [by simpa using L.l1],by simp [L.l2],fun i j o h' q => ?_,fun i d h' q => ?_⟩
    · cases i with
      | zero =>
        simp at h'
        subst h'
        rw [h] at q
        cases q
        rfl
      | succ i=>simpa using L.h1 i j o (by simpa using h') q
    · cases i with
      | zero=>simp at h'
      | succ i=>simpa using L.h2 i d (by simpa using h') (by simpa using q)
theorem AR.length {F:Hp} {σ:L2.St} {js:List (Option Nat)} {ds:List (Option D)} {vs:List V} (h:AR K F σ js ds vs):vs.length=js.length:=by
  have:=h.lent.l1
  simpa using this
theorem AR.mono {F F':Hp} {σ:L2.St} (g:Same F F'):∀ {js:List (Option Nat)} {ds:List (Option D)} {vs:List V},AR K F σ js ds vs→AR K F' σ js ds vs
  | _,_,_,.nil=>.nil
  | _,_,_,.ex h t=>.ex (h.mono g) (t.mono g)
  | _,_,_,.nm h t=>.nm h (t.mono g)
noncomputable def TAg (K:PySem.W.Frag) (js:List (Option Nat)) (m:M (List (Option D))):TA:=fun σ H Q=>∃ tg F ρ ds ρ',Good K tg F H ρ σ∧m ρ=some (.ok ds,ρ')∧∀ vs H' F',Good K tg F' H' ρ' σ→Ext (Own ρ σ) (Own ρ' σ) F H F' H'→AR K F' σ js ds vs→Q vs H'
structure EG (K:PySem.W.Frag) (X:Cx) (es:List Expr) (js:List (Option Nat)) (m:M (List (Option D))):Prop where
  go:X.K=K→PA X es (TAg K js m)
instance {K:PySem.W.Frag} {X:Cx} {es:List Expr} {js:List (Option Nat)} {m:M (List (Option D))}:CoeFun (EG K X es js m) fun _=>X.K=K→PA X es (TAg K js m):=⟨EG.go⟩
noncomputable def jb:M (List (Option D)):=ret []
noncomputable def bj (m:M D) (ms:M (List (Option D))):M (List (Option D)):=m.bind fun d=>ms.bind fun ds=>ret (some d::ds)
noncomputable def f9 (j:Nat) (ms:M (List (Option D))):M (List (Option D)):=(dq j).bind fun _=>ms.bind fun ds=>ret (none::ds)
theorem dj:EG K X [] [] jb:=EG.mk fun _=>PA.imp agp fun σ H Q hq0=>by
  obtain ⟨tg,F,ρ,ds,ρ',G,em,q⟩:=hq0
  obtain ⟨rfl,rfl⟩:=j7 em
  exact q [] H F G (Ext.refl _ _ _) .nil
theorem eg_v {m:M D} {js:List (Option Nat)} {ms:M (List (Option D))} (h:EV K X e m) (t:EG K X es js ms) (hs:starEach (e::es) X.env=(false,eval e X.env)::starEach es X.env:=by rfl):EG K X (e::es) (none::js) (bj m ms):=EG.mk fun hk=>PA.imp (aap (h hk) (t hk) hs) fun σ H Q hq0=>by
  obtain ⟨tg,F,ρ,ds,ρ',G,em,q⟩:=hq0
  obtain ⟨d,ρ1,e1,em⟩:=bh em
  obtain ⟨r,ρ2,e2,em⟩:=bh em
  obtain ⟨rfl,rfl⟩:=j7 em
  exact ⟨tg,F,ρ,d,ρ1,G,e1,fun v H1 F1 G1 x1 r1=>⟨tg,F1,ρ1,r,_,G1,e2,fun vs H2 F2 G2 x2 r2=>q _ H2 F2 G2 (x1.trans x2) (.ex (r1.mono x2.sub) r2)⟩⟩
theorem eg_n {j:Nat} {js:List (Option Nat)} {ms:M (List (Option D))} (h:PE X e (tVar j)) (t:EG K X es js ms) (hs:starEach (e::es) X.env=(false,eval e X.env)::starEach es X.env:=by rfl):EG K X (e::es) (some j::js) (f9 j ms):=EG.mk fun hk=>PA.imp (aap h (t hk) hs) fun σ H Q hq0=>by
  obtain ⟨tg,F,ρ,ds,ρ',G,em,q⟩:=hq0
  obtain ⟨d0,ρ0,e0,em⟩:=bh em
  obtain ⟨r,ρ2,e2,em⟩:=bh em
  obtain ⟨rfl,rfl⟩:=j7 em
  obtain ⟨rfl,v,hv,_⟩:=aa8 G e0
  exact ⟨v,hv,tg,F,ρ0,r,_,G,e2,fun vs H2 F2 G2 x2 r2=>q _ H2 F2 G2 x2 (.nm hv r2)⟩
noncomputable def mFn (f:Fd) (js:List (Option Nat)) (ms:M (List (Option D))):M Rv:=ms.bind fun ds ρ=>if okJs ρ js=true then match f (lend ρ js ds) with
    | some (.ok r,ps)=>some (.ok r,putB ρ js ps)
    | some (.exc x,ps)=>some (.exc x,putB ρ js ps)
    | none=>none
  else none
theorem aya {f:Fd} {js:List (Option Nat)} {ms:M (List (Option D))} {ρ ρ':Ro} {r:Rv} (h:mFn f js ms ρ=some (.ok r,ρ')):∃ ds ρ1 ps,ms ρ=some (.ok ds,ρ1)∧okJs ρ1 js=true∧f (lend ρ1 js ds)=some (.ok r,ps)∧ρ'=putB ρ1 js ps:=by
  obtain ⟨ds,ρ1,e1,em⟩:=bh h
  have em:(if okJs ρ1 js=true then match f (lend ρ1 js ds) with
    | some (.ok r,ps)=>some (Out.ok r,putB ρ1 js ps)
    | some (.exc x,ps)=>some (.exc x,putB ρ1 js ps)
    | none=>none
    else none)=some (.ok r,ρ'):=em
  split at em
  · rename_i hk
    split at em
    · rename_i r' ps e2
      cases em
      exact ⟨ds,ρ1,ps,e1,hk,e2,rfl⟩
    · cases em
    · cases em
  · cases em
theorem je {f:Fd} {n k:Nat} {x:Str} {pn:List Str} {js:List (Option Nat)} {ms:M (List (Option D))} (F:Dfn X.prog X.w X.K X.mg X.base x pn k (spOf K n f)) (hr:Room k X.A) (hg:Gl X x) (ha:EG K X (e::es) js ms) (hn:js.length=n:=by rfl) (hdb:(x==("__debug__" : Str))=false:=by decide)
    (he:starEach (e::es) X.env=(false,eval e X.env)::starEach es X.env:=by rfl) (hpl:(backTo pos (starEach es X.env)).any (·.1)=false:=by rfl):ER K X (.Call (.Name x p) (e::es) [] pos) (mFn f js ms):=ER.mk fun hk=>PE.imp (a1m F hr hg (ha hk) hdb he hpl) fun σ H Q hq0=>by
  obtain ⟨tg,F,ρ,r,ρ',G,em,q⟩:=hq0
  obtain ⟨ds,ρ1,ps,e1,hj,e2,rfl⟩:=aya em
  refine ⟨tg,F,ρ,ds,ρ1,G,e1,fun vs H1 F1 G1 x1 ar => ?_⟩
  have L:=ar.lent
  show spOf K n f (vs++[]) H1 Q E0
  rw [List.append_nil]
  refine ⟨by rw [ar.length]; exact hn,F1,_,r,ps,ai8 G1 hj L,e2,fun v H' F' O' s' x' fin rr => ?_⟩
  exact q v H' F' (aj1 G1 L x' s' fin) (x1.trans (aml G1 L x')) (nq x1 (asy G1 L fin rr))
structure EIf (K:PySem.W.Frag) (X:Cx) (ifs:List Expr) (m:M Bool):Prop where
  go:X.K=K→PIf X ifs (TB K m)
instance {K:PySem.W.Frag} {X:Cx} {ifs:List Expr} {m:M Bool}:CoeFun (EIf K X ifs m) fun _=>X.K=K→PIf X ifs (TB K m):=⟨EIf.go⟩
theorem yr:EIf K X [] (ret true):=EIf.mk fun _ pins s σ H Q I hq0=>by
  obtain ⟨tg,F,ρ,k,ρ',G,em,q⟩:=hq0
  obtain ⟨rfl,rfl⟩:=j7 em
  exact auf pins s σ H Q I (q H F G (Ext.refl _ _ _))
theorem af5 {m:M Bool} (h:ET K X c m):EIf K X [c] m:=EIf.mk fun hk=>aue (h hk)
noncomputable def compD (b:D→Ro→Option Ro) (mc:M Bool) (me:M D):List D→List D→M (List D)
  | [],ys=>ret ys
  | d::ds,ys=>fun ρ=>match b d ρ with
    | none=>none
    | some ρ1=>(mc.bind fun k=>if k=true then me.bind fun y=>compD b mc me ds (ys++[y]) else compD b mc me ds ys) ρ1
theorem af7 {b:D→Ro→Option Ro} {mc:M Bool} {me:M D}:∀ {l ys yf:List D} {ρ ρ':Ro},compD b mc me l ys ρ=some (.ok yf,ρ')→ys.length≤yf.length
  | [],ys,yf,ρ,ρ',h=>by
    obtain ⟨rfl,_⟩:=j7 (show ret ys ρ=_ from h)
    exact Nat.le_refl _
  | d::ds,ys,yf,ρ,ρ',h=>by
    unfold compD at h
    split at h
    · cases h
    · obtain ⟨k,ρ2,e2,h⟩:=bh h
      split at h
      · obtain ⟨y,ρ3,e3,h⟩:=bh h
        have:=af7 h
        rw [List.length_append] at this
        omega
      · exact af7 h
noncomputable def z6 (src:List (Option Nat)) (mi:M (List D)) (b:D→Ro→Option Ro) (mc:M Bool) (me:M D):M Rv:=mi.bind fun l ρ=>if okJs ρ src=true then match compD b mc me l [] (lend ρ src (src.map fun _=>none)) with
    | some (.ok ys,ps)=>if ys.length≤capS then some (.ok (.fr ys),putB ρ src ps) else none
    | some (.exc x,ps)=>some (.exc x,putB ρ src ps)
    | none=>none
  else none
theorem aro {src:List (Option Nat)} {mi:M (List D)} {b:D→Ro→Option Ro} {mc:M Bool} {me:M D} {ρ ρ':Ro} {r:Rv} (h:z6 src mi b mc me ρ=some (.ok r,ρ')):∃ l ρ1 ys ps,mi ρ=some (.ok l,ρ1)∧okJs ρ1 src=true∧compD b mc me l [] (lend ρ1 src (src.map fun _=>none))=some (.ok ys,ps)∧ys.length≤capS∧r=.fr ys∧ρ'=putB ρ1 src ps:=by
  obtain ⟨l,ρ1,e1,em⟩:=bh h
  have em:(if okJs ρ1 src=true then match compD b mc me l [] (lend ρ1 src (src.map fun _=>none)) with
    | some (.ok ys,ps)=>if ys.length≤capS then some (Out.ok (Rv.fr ys),putB ρ1 src ps) else none
    | some (.exc x,ps)=>some (.exc x,putB ρ1 src ps)
    | none=>none
    else none)=some (.ok r,ρ'):=em
  split at em
  · rename_i hk
    split at em
    · rename_i ys ps e2
      split at em
      · rename_i hz
        cases em
        exact ⟨l,ρ1,ys,ps,e1,hk,e2,hz,rfl,rfl⟩
      · cases em
    · cases em
    · cases em
  · cases em
theorem aok {F:Hp} {σ:L2.St} (src:List (Option Nat)):Lent K F σ (pick src σ) src (src.map fun _=>none):=by
  refine ⟨by simp [pick],by simp,fun i j o h q => ?_,fun i d h q => ?_⟩
  · unfold pick
    rw [List.getElem?_map,h]
    show some ((σ[j]?).bind id)=some o
    rw [q]
    rfl
  · rw [List.getElem?_map,h] at q
    cases q
theorem Ext.upd {O O':Addr→Prop} {F H F' H':Hp} {d:Addr} {o:HO} (x:Ext O O' F H F' H') (h:H d=none):Ext O O' F H F' (upd H' d o) :=
  ⟨x.sub,x.new,fun a u e n=>by rw [fc (jz e h)]; exact x.keep a u e n,x.own,fun a e=>by
    by_cases ha:a=d
    · subst ha; exact h
    · rw [fc ha] at e; exact x.there a e⟩
theorem Good.upd {tg:Nat→Addr} {F H:Hp} {ρ:Ro} {σ:L2.St} {d:Addr} (G:Good K tg F H ρ σ) (hf:F d=none) (hn:¬Own ρ σ d) (o:HO):Good K tg F (upd H d o) ρ σ :=
  G.grow (Same.refl F) (fun b u e=>by
    have hb:b≠d:=fun z=>by
      subst z
      rw [hf] at e
      cases e
    rw [fc hb]
    exact G.sub b u e) fun a w=>⟨(G.ownAt w).1,by
    have hb:a≠d:=fun z=>hn (z▸w)
    rw [fc hb]⟩
theorem amg {mi:M (List D)} {bb:D→Ro→Option Ro} {mc:M Bool} {me:M D} {src:List (Option Nat)} (σ:L2.St) (H:Hp) (Q:VK) (t:T K (relR K) (z6 src mi bb mc me) σ H Q):atz (TIt K mi) (TGd K bb) (TB K mc) (T K (relD K) me) src σ H Q:=by
  obtain ⟨tg,F,ρ,r,ρ',G,em,q⟩:=t
  obtain ⟨l,ρ1,yf,ps,e1,hj,e2,hz,rfl,rfl⟩:=aro em
  refine ⟨tg,F,ρ,l,ρ1,G,e1,fun J H1 F1 G1 x1 Z dd hd => ?_⟩
  have L:Lent K F1 σ (pick src σ) src (src.map fun _=>none):=aok src
  have Gl:=ai8 G1 hj L
  have own0:¬Own (lend ρ1 src (src.map fun _=>none)) (pick src σ) dd:=fun z=>Gl.own_ne hd z rfl
  refine asq Z (fun i ys σc Hc=>∃ Fc ρc yd,Good K (tgOf (pick src σ)) Fc Hc ρc σc∧Ext (Own (lend ρ1 src (src.map fun _=>none)) (pick src σ)) (Own ρc σc) F1 H1 Fc Hc∧Fc dd=none∧¬Own ρc σc dd∧Hc dd=some (.lst ys)∧IsL K Fc yd ys∧compD bb mc me (l.drop i) yd ρc=some (.ok yf,ps))
    ⟨F1,_,[],Gl.upd (G1.freeF hd) own0 _,(Ext.refl _ _ _).upd hd,G1.freeF hd,own0,jh,.nil,e2⟩ ?_ ?_ ?_
  · rintro i ys σc Hc _ ⟨Fc,ρc,yd,Gc,xc,_,_,hdd,_,_⟩
    exact ⟨xc.sub.trans Gc.sub,hdd⟩
  · rintro i d x ys σc Hc0 Hc M hdl ⟨Fc0,ρc,yd,Gc0,xc0,fd0,od0,hdd0,iy0,ec⟩ al hM
    obtain ⟨Fc,Gc,xc,_,idl,xa⟩:=amn Gc0 xc0 xc0.sub al
    have iy:=iy0.mono xa.sub
    have hlt:i < l.length:=(List.getElem?_eq_some_iff.mp hdl).1
    have edl:l[i]=d:=(List.getElem?_eq_some_iff.mp hdl).2
    rw [List.drop_eq_getElem_cons hlt,edl] at ec
    unfold compD at ec
    have step:∀ {F2 H2:Hp} {ρ2 ρ3:Ro} {σ2 σ3:L2.St} {F3 H3:Hp},F2 dd=none→¬Own ρ2 σ2 dd→H2 dd=some (.lst ys)→Ext (Own ρ2 σ2) (Own ρ3 σ3) F2 H2 F3 H3→F3 dd=none∧¬Own ρ3 σ3 dd∧H3 dd=some (.lst ys):=fun {F2 H2 ρ2 ρ3 σ2 σ3 F3 H3} h1 h2 h3 x3=>by
      refine ⟨?_,fun z => ?_,x3.keep _ _ h3 h2⟩
      · cases z:F3 dd with
        | none=>rfl
        | some o =>
          rcases x3.new _ _ z with z | z | z
          · rw [h1] at z; cases z
          · rw [h3] at z; cases z
          · exact absurd z h2
      · rcases x3.own _ z with z | z
        · exact h2 z
        · rw [h3] at z; cases z
    obtain ⟨fd,od,hdd⟩:=step fd0 od0 hdd0 xa
    split at ec
    · cases ec
    · rename_i ρ2 eb
      refine ⟨_,Fc,ρc,d,ρ2,Gc,idl,eb,fun σ2 H2 F2 G2 x2 => ?_⟩
      obtain ⟨k,ρ3,ek,ec⟩:=bh ec
      obtain ⟨fd2,od2,hdd2⟩:=step fd od hdd x2
      refine ⟨_,F2,ρ2,k,ρ3,G2,ek,fun H3 F3 G3 x3 => ?_⟩
      obtain ⟨fd3,od3,hdd3⟩:=step fd2 od2 hdd2 x3
      cases k with
      | false =>
        refine iteF (hM _ _ _ ⟨F3,ρ3,yd,G3,(xc.trans x2).trans x3,fd3,od3,hdd3,(iy.mono x2.sub).mono x3.sub,ec⟩)
      | true =>
        obtain ⟨y,ρ4,ey,ec⟩:=bh ec
        refine iteT ⟨_,F3,ρ3,y,ρ4,G3,ey,fun v H4 F4 G4 x4 iv => ?_⟩
        obtain ⟨fd4,od4,hdd4⟩:=step fd3 od3 hdd3 x4
        refine ⟨hdd4,?_,hM _ _ _ ⟨F4,ρ4,yd++[y],G4.upd fd4 od4 _,(((xc.trans x2).trans x3).trans x4).upd hd,fd4,od4,jh,?_,ec⟩⟩
        · have:=af7 ec
          rw [List.length_append,iy.length] at this
          rw [sizeLine_eq]
          exact Nat.lt_of_lt_of_le (by simpa using Nat.lt_succ_self ys.length) (Nat.le_trans this hz)
        · exact (((iy.mono x2.sub).mono x3.sub).mono x4.sub).append (.cons iv .nil)
  · rintro ys σc Hc ⟨Fc,ρc,yd,Gc,xc,fd,od,hdd,iy,ec⟩
    rw [List.drop_eq_nil_of_le (Nat.le_refl _)] at ec
    obtain ⟨rfl,rfl⟩:=j7 (show ret yd ρc=_ from ec)
    have fin:Fin K Fc Hc (pick src σ) ps (Own ps σc):=⟨fun i l' e=>by
      obtain ⟨o,ho,a,ws,rfl,hf,hh,hl,ht⟩:=Gc.at e
      rw [ht i rfl]
      exact ⟨⟨i,⟨_,_,e⟩,ho⟩,hf,ws,hh,hl⟩⟩
    refine q _ Hc Fc (aj1 G1 L xc Gc.sub fin) (x1.trans (aml G1 L xc)) ⟨dd,ys,rfl,.inl (x1.there dd hd),fd,hdd,iy,fun ⟨j,w⟩ => ?_⟩
    exact G1.own_ne hd ⟨j,adl w⟩ rfl
theorem um {ifs:List Expr} {scope:Scope} {mi:M (List D)} {bb:D→Ro→Option Ro} {mc:M Bool} {me:M D} (fr N:List Str) (src:List (Option Nat)) (hc:X.calm=true) (hi:IT K X tgt iter mi)
    (hg:∀ fp s H,GV K (cxC X N scope fr fp s H) tgt bb) (ht:∀ fp s H,EIf K (cxC X N scope fr fp s H) ifs mc) (he:∀ fp s H,EV K (cxC X N scope fr fp s H) elt me)
    (hok:ag3 X.env X.N scope fr N src=true:=by rfl) (hkind:scope.kind=.function:=by rfl) (hclos:closureFor scope X.env=pure (aal X.env fr):=by rfl)
    (hs:∀ x,foldedSetIterable iter X.env x=pure x:=by intro _; rfl):ER K X (.ListComp elt [⟨tgt,iter,ifs,0⟩] scope pos) (z6 src mi bb mc me):=ER.mk fun hk=>by
  have hkc:∀ fp s H,(cxC X N scope fr fp s H).K=K:=fun _ _ _=>hk
  refine PE.imp (aun fr N src hc (hi hk) (fun fp s H=>(hg fp s H).go (hkc _ _ _)) (fun fp s H=>(ht fp s H).go (hkc _ _ _)) (fun fp s H=>(he fp s H).go (hkc _ _ _)) hok hkind hclos hs) amg
end
end Dn
namespace Mn
open PySem PySem.Spec PyProof.Rows L2
theorem at9 {X:Cx} {tg iter elt:Expr} {ifs:List Expr} {scope:Scope} {cpos pos px:Pos} {wi:TI} {g:TG} {ti:TT} {te:TE} {i:Nat} {x:Str} (fr N:List Str) (src:List (Option Nat)) (hN:X.N.Nodup) (hxi:X.N[i]? = some x) (hx:Loc X.env.scope x) (hc:X.calm=true) (hi:PI X tg iter wi)
    (hg:∀ fp s H,PG (cxC X N scope fr fp s H) tg g) (ht:∀ fp s H,PIf (cxC X N scope fr fp s H) ifs ti) (he:∀ fp s H,PE (cxC X N scope fr fp s H) elt te)
    (hsw:swapsWith (.ListComp elt [⟨tg,iter,ifs,0⟩] scope cpos) (some (.Name x px)) pos.line X.env=pure true:=by rfl)
    (hok:ag3 X.env X.N scope fr N src=true:=by rfl) (hkind:scope.kind=.function:=by rfl) (hclos:closureFor scope X.env=pure (aal X.env fr):=by rfl)
    (hs:∀ x,foldedSetIterable iter X.env x=pure x:=by intro _; rfl) (hf:X.fn x=true∨X.env.scope.names.lookup x=some .local:=by first | exact .inl rfl | exact .inr rfl | assumption) :
    PS X (.Assign [.Name x px] (.ListComp elt [⟨tg,iter,ifs,0⟩] scope cpos) pos) (tAsg (atz wi g ti te src) (avl i)):=by
  have C:=CompOk.of hok
  intro pins s σ H D I h
  rw [exec_Assign_Name_used _ _ _ _ hsw]
  refine wpAny_bind (wpAny_standAt (wpAny_bind ?_))
  show wpAny _ _ (comprehension (.ListComp elt [⟨tg,iter,ifs,0⟩] scope cpos) scope X.env (firstIterPos [⟨tg,iter,ifs,0⟩] cpos) (newList []) (firstAsync [⟨tg,iter,ifs,0⟩]) (firstIter [⟨tg,iter,ifs,0⟩] X.env) (some (assign (.Name x px) X.env)) >>= fun _=>pure ()) _ _ _
  refine wpAny_bind (wpAny_comprehension_free (use:=some (assign (.Name x px) X.env)) (Q:=fun _ s'=>wpAny (model X.prog X.w) X.A (pure ()) (fun _ s''=>wpAny (model X.prog X.w) X.A (pure Flow.next) (SP X pins D) X.xe s'') X.xe s') rfl hs hclos hkind C.loc (wpAny_mono (hi pins s σ H _ I h) (fun v s1 h1=>wpAny_mono h1 (fun itv s2 h2 => ?_) fun _ _ e=>e) fun _ _ e=>e))
  obtain ⟨it,fp,tn,J,H2,e,I2,T,st2,f2,q2⟩:=h2
  subst e
  have hd0:H2 s2.heap.objs.size=none:=I2.hok.fresh (Nat.le_refl _)
  obtain ⟨W,⟨m0,w0⟩,turn⟩:=q2 s2.heap.objs.size hd0
  refine wpAny_newObj_type ?_
  generalize hs3:({ s2 with heap:=s2.heap.push { cls:=.type "list", dict:=none,data:=.seq ([]:List Value).toArray } }:Shared)=s3
  have keep2:∀ b o,s2.heap.get? b=some o→s3.heap.get? b=some o:=fun b o e=>by rw [←hs3]; exact Heap.get?_push_of_some _ e
  have I3:Inv X pins σ (upd H2 s2.heap.objs.size (.lst [])) s3:=by
    rw [←hs3]
    exact I2.laid (t':=s2.toks) (fun b u q=>Heap.get?_push_of_some _ q) (Nat.le_refl _) ⟨Nat.zero_le _,[],0,.nil,Heap.get?_push_size _ rfl⟩
  have ne0:∀ b∈fp,b≠s2.heap.objs.size:=fun b hb=>by
    obtain ⟨o,e,_⟩:=T.obj _ _ st2 b hb
    exact Nat.ne_of_lt (Heap.lt_size e)
  have f3:∀ b∈fp,FpOk X pins (upd H2 s2.heap.objs.size (.lst [])) b:=fun b hb=>⟨by rw [fc (ne0 b hb)]; exact (f2 b hb).1,(f2 b hb).2⟩
  have lt3:∀ b∈fp,b < s3.heap.objs.size:=fun b hb=>by
    obtain ⟨o,e,_⟩:=T.obj _ _ st2 b hb
    exact Heap.lt_size (keep2 b o e)
  refine wpAny_newFunctionEnv C.cell (by intro y hy; simp at hy) (fun h₁ hns₁ hsb₁ => ?_) hkind
  have keep3:∀ b o,s3.heap.get? b=some o→h₁.get? b=some o:=fun b o e=>hsb₁.extBut b o (Nat.ne_of_lt (Heap.lt_size e)) (Heap.get?_push_of_some _ e)
  have st4:tn 0 h₁:=T.keep _ _ _ st2 fun b hb o e=>keep3 b o (keep2 b o e)
  have I4:=al4 (tk:=s3.toks+([]:List (Str×Value)).length) I3 C hkind f3 lt3 hns₁ keep3
  have loop:=ajn (X:=cxC X N scope fr fp s3 (upd H2 s2.heap.objs.size (.lst []))) (iter:=iter) (scope:=scope) (pos:=cpos) (d:=s2.heap.objs.size) (Q:=fun v H1=>D.nx (σ.set i (some v)) H1)
    (R:=compPost (model X.prog X.w) X.A X.xe (some (assign (.Name x px) X.env)) (fun _ s'=>wpAny (model X.prog X.w) X.A (pure ()) (fun _ s''=>wpAny (model X.prog X.w) X.A (pure Flow.next) (SP X pins D) X.xe s'') X.xe s') (.ref s2.heap.objs.size) s3.heap.objs.size) hc rfl T
    (fun H' hn b hb=>⟨hn b hb,Nat.ne_of_lt (lt3 b hb),I4.ok.exfs b hb,.inl hb,(I4.ok.exf b hb).2,fun p hp=>absurd (show p∈([]:List (Addr×Obj)) from hp) (by simp)⟩)
    (hg fp s3 _) (ht fp s3 _) (he fp s3 _) turn w0 I4 st4 (fun b hb=>(f3 b hb).1) (fun σ' H' s' I6 qn=>by
      obtain ⟨m6,hn6,_⟩:=I6.loc
      have fC:FpOk X pins H' s3.heap.objs.size:=I3.fpOk (Nat.le_refl _) I6.free
      have I7:Inv X pins σ H' s':=al5 I3 f3 I6 (Heap.SameBut.refl ..)
      refine wpAny_assign_Name (aih I7 hN hxi hx (v:=.ref s2.heap.objs.size) rfl (fun s8 I8 ⟨a,sb,ha⟩ => ?_) hf)
      have hne:s3.heap.objs.size≠a:=by
        rcases ha with rfl | ha
        · exact fC.2.1
        · exact (fC.2.2.2.2.1 x a ha).symm
      obtain ⟨o6,es6,ep6,g6,r6⟩:=hn6
      refine ⟨m6,⟨o6,es6,ep6,(sb.2 _ hne).trans g6,r6⟩,fun h9 sb9=>wpAny_pure (wpAny_pure ⟨_,H',?_,qn⟩)⟩
      exact I8.turned (t':=s8.toks) (it:=s3.heap.objs.size) (fun b o hb e=>(sb9.2 b hb).trans e) fC.1 fC.2.1 fC.2.2.2.1 fC.2.2.2.2.1 fC.2.2.2.2.2)
  exact codeAny_compStart_list loop (T.self _ 0 _ _ _ st4 loop)
end Mn
namespace Dn
open PySem PySem.Spec PyProof.Rows L2 Mn
section
variable {K:PySem.W.Frag} {X:Cx} {tgt iter elt:Expr} {pos p:Pos}
theorem an4 {i:Nat} {x:Str} {ifs:List Expr} {scope:Scope} {cpos:Pos} {mi:M (List D)} {bb:D→Ro→Option Ro} {mc:M Bool} {me:M D} (fr N:List Str) (src:List (Option Nat)) (hN:X.N.Nodup) (hxi:X.N[i]? = some x) (hx:Loc X.env.scope x) (hc:X.calm=true) (hi:IT K X tgt iter mi)
    (hg:∀ fp s H,GV K (cxC X N scope fr fp s H) tgt bb) (ht:∀ fp s H,EIf K (cxC X N scope fr fp s H) ifs mc) (he:∀ fp s H,EV K (cxC X N scope fr fp s H) elt me)
    (hsw:swapsWith (.ListComp elt [⟨tgt,iter,ifs,0⟩] scope cpos) (some (.Name x p)) pos.line X.env=pure true:=by rfl)
    (hok:ag3 X.env X.N scope fr N src=true:=by rfl) (hkind:scope.kind=.function:=by rfl) (hclos:closureFor scope X.env=pure (aal X.env fr):=by rfl)
    (hs:∀ x,foldedSetIterable iter X.env x=pure x:=by intro _; rfl) (hf:X.fn x=true∨X.env.scope.names.lookup x=some .local:=by first | exact .inl rfl | exact .inr rfl | assumption) :
    SV K X (.Assign [.Name x p] (.ListComp elt [⟨tgt,iter,ifs,0⟩] scope cpos) pos) (dSet i (z6 src mi bb mc me)):=SV.mk fun hk=>by
  have hkc:∀ fp s H,(cxC X N scope fr fp s H).K=K:=fun _ _ _=>hk
  refine PS.imp (at9 fr N src hN hxi hx hc (hi hk) (fun fp s H=>(hg fp s H).go (hkc _ _ _)) (fun fp s H=>(ht fp s H).go (hkc _ _ _)) (fun fp s H=>(he fp s H).go (hkc _ _ _)) hsw hok hkind hclos hs hf) fun E σ H ⟨tg,F,ρ,fl,ρ',G,em,q⟩=>yw em q fun r ρ1 e1 em => ?_
  cases em
  refine amg σ H _ ⟨tg,F,ρ,r,ρ1,G,e1,fun v H' F' G' x rr => ?_⟩
  obtain ⟨G2,x2⟩:=G'.store x i rr
  exact q _ H' F' G2 x2
end
end Dn
namespace Dn
open PySem PySem.Spec PyProof.Rows L2 Mn
@[irreducible] noncomputable def fuel:Nat:=1000000000
section
variable {K:PySem.W.Frag} {X:Cx} {e a b c:Expr} {es:List Expr} {pos p p2:Pos}
noncomputable def apf (neg:Bool):D→List D→Option D
  | .int i,[.int x,.int y]=>some (.bl (if neg then !(decide (x≤i)&&decide (i < y)) else (decide (x≤i)&&decide (i < y))))
  | _,_=>none
noncomputable def ax7 (neg:Bool) (m1:M D) (m2:M (List D)):M D:=m1.bind fun x=>m2.bind fun ds=>lift (apf neg x ds)
noncomputable def isN:D→Bool
  | .non=>true
  | _=>false
noncomputable def mIsN (neg:Bool) (m:M D):M D:=m.bind fun d=>ret (.bl (if neg then !isN d else isN d))
end
noncomputable def alf (f:Fd):Prop:=∀ ns:List Int,ns.length≤63→∃ ps,f [.val (.kst (ns.map D.int))]=some (.ok (.v (.bl true)),ps)
theorem awx {K:PySem.W.Frag} {f:Fd} (h:alf f) (H:Hp) (a:Addr) (ns:List Int) (hn:ns.length≤63) (hS:SqL K H a (ns.map V.int)):spOf K 1 f [.ref a] H (fun v _=>v=.bl true) fun _ _ _=>False:=by
  obtain ⟨ps,e⟩:=h ns hn
  refine ⟨rfl,H,_,_,ps,⟨Same.refl H,rfl,fun i s o e1 e2 => ?_,fun i j b ⟨⟨t,l,e1⟩,_⟩ _=>by cases i <;> simp at e1⟩,e,fun v H' F' O' _ _ _ rr => ?_⟩
  · cases i with
    | zero =>
      simp at e1 e2
      subst e1 e2
      exact ⟨_,rfl,.kst hS (aez ns)⟩
    | succ i=>simp at e1
  · have rr:Is K F' (.bl true) v:=rr
    cases rr
    rfl
theorem walk {l:PySem.W.OpenLaw} {q:Program} {loose:List Str} {XP:(Str→Option Value)→Heap→Prop} {YP:World→Heap→Prop} {d:DefRec} {K:Params→PySem.W.Frag} {f:Fd} {k:Nat} (ht:alf f) (hn:l.most=some 63) (hdf:d.params.defaults=[]) (hr:Room k callerA)
    (hY:∀ (w:World) (h:Heap),YP w h→(K w.params).In h)
    (F:∀ (w:World) (mg:Str→Option Value) (fa:Addr) (h:Heap),(K w.params).In h→h.Ns mainGlobals mg→mg d.name=some (.ref fa) →
      ∃ fd:FuncData,(∀ (s:Shared) (u:Value),BindsTo s fd ⟨[u],[]⟩ [("script", u)])∧∀ base:Heap,(K w.params).In base→base.Ns mainGlobals mg→FnOk l.prog w (K w.params) mg base CX0 k fa fd ["script"] (spOf (K w.params) 1 f)) :
    PySem.W.WalkO q loose XP YP l.row.toRowW d [] (fun f vs=>PySem.call f vs) :=
  L2.ato (n:=63) (k:=k) (x := "script") (CX:=fun _=>CX0) (sp:=fun w=>spOf (K w.params) 1 f) hn (by decide) hdf hr hY F (fun _ H a ns hl _ hS=>awx ht H a ns hl hS) fun _ _ _ _ _ z=>z
end Dn
namespace Dn
open PySem L2 Mn
section
variable {α β:Type} (ρ:Ro)
@[simp] theorem a4d (a:α):ret a ρ=some (.ok a,ρ):=rfl
@[simp] theorem a2k (o:Option α):lift o ρ=match o with
  | some a=>some (.ok a,ρ)
  | none=>none:=rfl
@[simp] theorem a3t (m:M α) (k:α→M β):M.bind m k ρ=match m ρ with
  | some (.ok a,ρ1)=>k a ρ1
  | some (.exc x,ρ1)=>some (.exc x,ρ1)
  | none=>none:=rfl
@[simp] theorem v_ap (m:M D):M.v m ρ=(m.bind fun d=>ret (.v d)) ρ:=rfl
@[simp] theorem d_ap (m:M Rv):M.d m ρ=(m.bind fun r=>ret r.d) ρ:=rfl
@[simp] theorem a4x (d:D):(Rv.v d).d=d:=rfl
@[simp] theorem a4c (l:List D):(Rv.fr l).d=.lst l:=rfl
@[simp] theorem a4b (d:D) (l:List D):(Rv.tf d l).d=.tup [d,.lst l]:=rfl
@[simp] theorem a4w (d:D):(Rv.v d).sl=.val d:=rfl
@[simp] theorem a4a (l:List D):(Rv.fr l).sl=.own none l:=rfl
@[simp] theorem a1r (i:Nat):mVar i ρ=match ρ[i]? with
  | some (.val d)=>some (.ok d,ρ)
  | some (.own none l)=>some (.ok (.lst l),ρ.set i (.val (.lst l)))
  | _=>none:=rfl
@[simp] theorem azv (i:Nat):dq i ρ=match ρ[i]? with
  | some (.val d)=>some (.ok d,ρ)
  | some (.own _ l)=>some (.ok (.lst l),ρ)
  | _=>none:=rfl
@[simp] theorem az2 (i:Nat):ai6 i ρ=match ρ[i]? with
  | some (.val d)=>some (.ok (.v d),ρ)
  | some (.own none l)=>some (.ok (.fr l),ρ.set i .emp)
  | _=>none:=rfl
@[simp] theorem a1v (i:Nat):mOwn i ρ=match ρ[i]? with
  | some (.own _ l)=>some (.ok l,ρ)
  | _=>none:=rfl
@[simp] theorem ax3 (i:Nat) (l':List D):ac7 i l' ρ=match ρ[i]? with
  | some (.own t _)=>some (.ok (),List.set ρ i (.own t l'))
  | _=>none:=rfl
@[simp] theorem az0 (m1 m2:M D):gr m1 m2 ρ=(m1.bind fun x=>m2.bind fun y=>ret (x,y)) ρ:=rfl
@[simp] theorem ax4 (i:Nat) (m2:M D):bw i m2 ρ=((dq i).bind fun _=>m2.bind fun y=>(dq i).bind fun x=>ret (x,y)) ρ:=rfl
@[simp] theorem a4h (g:D→D→Option Rv) (m:M (D×D)):mOp g m ρ=(m.bind fun p=>lift (g p.1 p.2)) ρ:=rfl
@[simp] theorem a4f (g:D→Option D) (m:M D):mUn g m ρ=(m.bind fun d=>lift (g d)) ρ:=rfl
@[simp] theorem a2j (m1 m2:M D):mAnd m1 m2 ρ=(m1.bind fun d=>(lift (asB d)).bind fun k=>if k=true then m2 else ret (.bl false)) ρ:=rfl
@[simp] theorem a4g (m1 m2:M D):mOr m1 m2 ρ=(m1.bind fun d=>(lift (asB d)).bind fun k=>if k=true then ret (.bl true) else m2) ρ:=rfl
@[simp] theorem azx (m:M D):aae m ρ=(m.bind fun d=>lift (asB d)) ρ:=rfl
@[simp] theorem ax2 (g:D→D→Option Rv) (m:M (D×D)):jk g m ρ=aae (mOp g m).d ρ:=rfl
@[simp] theorem az1 (m:M Bool):ab8 m ρ=(m.bind fun k=>ret (!k)) ρ:=rfl
@[simp] theorem a0a (m1 m2:M Bool):au8 m1 m2 ρ=(m1.bind fun k=>if k=true then m2 else ret false) ρ:=rfl
@[simp] theorem a1w (m1 m2:M Bool):mOrB m1 m2 ρ=(m1.bind fun k=>if k=true then ret true else m2) ρ:=rfl
@[simp] theorem a4i (m:M Bool) (m1 m2:M α):mIf m m1 m2 ρ=(m.bind fun k=>if k=true then m1 else m2) ρ:=rfl
@[simp] theorem a4l (c:Prop) [Decidable c] (m1 m2:M α):(if c then m1 else m2) ρ=if c then m1 ρ else m2 ρ:=by split <;> rfl
@[simp] theorem a2q (c:Prop) [Decidable c] (m1 m2:Sd):(if c then m1 else m2) ρ=if c then m1 ρ else m2 ρ:=by split <;> rfl
@[simp] theorem a4v (b:Bool):asB (.bl b)=some b:=rfl
@[simp] theorem a3y (b:Int):asI (.int b)=some b:=rfl
@[simp] theorem a2x (b:Bool):gNot (.bl b)=some (.bl (!b)):=rfl
@[simp] theorem a0e (b:Int):gNeg (.int b)=some (.int (-b)):=rfl
@[simp] theorem a0s (i j:Int):gAdd (.int i) (.int j)=some (.v (.int (i+j))):=rfl
@[simp] theorem a0q (l k:List D):gAdd (.tup l) (.tup k)=if l.length+k.length≤capS then some (.v (.tup (l++k))) else none:=rfl
@[simp] theorem a0r (l k:List D):gAdd (.lst l) (.lst k)=if l.length+k.length≤capS then some (.fr (l++k)) else none:=rfl
@[simp] theorem a0i (f:Int→Int→Option Int) (i j:Int):gInt f (.int i) (.int j)=(f i j).map fun k=>.v (.int k):=rfl
@[simp] theorem a3g (i j:Int):fSub i j=some (i - j):=rfl
@[simp] theorem a0g (i j:Int):gMul (.int i) (.int j)=(fMul i j).map fun k=>.v (.int k):=rfl
@[simp] theorem al7 (l:List D) (k:Int):gMul (.tup l) (.int k)=if k=1 then some (.v (.tup l)) else if l≠[]∧2≤k∧k < 9223372036854775808∧l.length*k.toNat≤capS then some (.v (.tup (List.replicate k.toNat l).flatten)) else none:=rfl
@[simp] theorem a0f (l:List D) (k:Int):gMul (.lst l) (.int k)=if k.natAbs < 9223372036854775808∧l.length*k.toNat≤capS then some (.fr (List.replicate k.toNat l).flatten) else none:=rfl
@[simp] theorem a0n (f:Int→Int→Bool) (i j:Int):gCmp f (.int i) (.int j)=some (.v (.bl (f i j))):=rfl
@[simp] theorem a2d (t:Ty) (m:M D):mIsi t m ρ=(m.bind fun d=>ret (.bl (isTy t d))) ρ:=rfl
@[simp] theorem aye (f g:Int→Int→Bool) (m1 m2 m3:M D):agr f g m1 m2 m3 ρ=(m1.bind fun x=>m2.bind fun y=>match x,y with
  | .int i,.int j=>if f i j=true then m3.bind fun z=>match z with
    | .int k=>ret (.bl (g j k))
    | _=>lift none
    else ret (.bl false)
  | _,_=>lift none) ρ:=rfl
@[simp] theorem a1x:mNil ρ=some (.ok [],ρ):=rfl
@[simp] theorem az7 (m:M D) (ms:M (List D)):cg m ms ρ=(m.bind fun d=>ms.bind fun ds=>ret (d::ds)) ρ:=rfl
@[simp] theorem ayd (i:Nat) (ms:M (List D)):dm i ms ρ=((dq i).bind fun _=>ms.bind fun ds=>(dq i).bind fun d=>ret (d::ds)) ρ:=rfl
@[simp] theorem a1s (m:M (List D)):mTup m ρ=(m.bind fun ds=>lift (gTup ds)) ρ:=rfl
@[simp] theorem a2a (m:M (List D)):mLst m ρ=(m.bind fun ds=>lift (gLst ds)) ρ:=rfl
@[simp] theorem az9 (g:List D→Option Rv) (m:M (List D)):dz g m ρ=(m.bind fun ds=>lift (g ds)) ρ:=rfl
@[simp] theorem a4o (f:D→Option Rv) (d:D):g1 f [d]=f d:=rfl
@[simp] theorem a4n (f:D→D→Option Rv) (d d':D):g2 f [d,d']=f d d':=rfl
@[simp] theorem ayo (l:List D):itemsD (.tup l)=some l:=rfl
@[simp] theorem ayp (l:List D):itemsD (.lst l)=some l:=rfl
@[simp] theorem ayq (l:List D):itemsD (.kst l)=some l:=rfl
@[simp] theorem a0p (l:List D):gAll (.lst l)=(wj l).map fun bs=>.v (.bl (bs.all id)):=rfl
@[simp] theorem ayw (i:Int):ase (.int i)=some (.v (.int i)):=rfl
@[simp] theorem a0j (i:Bool):ase (.bl i)=some (.v (.int (if i then 1 else 0))):=rfl
@[simp] theorem a3a (d:D) (k:Int):gIx d (.int k)=(itemsD d).bind fun l=>(atI l k).map fun x=>.v x:=rfl
@[simp] theorem a2i (m:M D) (ml mh:M (Option Int)):mCut m ml mh ρ=(m.bind fun d=>ml.bind fun lo=>mh.bind fun hi=>lift (gCut d lo hi)) ρ:=rfl
@[simp] theorem az6 (i:Nat) (ml mh:M (Option Int)):aox i ml mh ρ=((dq i).bind fun _=>ml.bind fun lo=>mh.bind fun hi=>(dq i).bind fun d=>lift (gCut d lo hi)) ρ:=rfl
@[simp] theorem azz (m:M D):ai5 m ρ=(m.bind fun d=>lift ((asI d).map some)) ρ:=rfl
@[simp] theorem a0k (l:List D) (lo hi:Option Int):gCut (.tup l) lo hi=some (.v (.tup (cutD l lo hi))):=rfl
@[simp] theorem a0l (l:List D) (lo hi:Option Int):gCut (.lst l) lo hi=some (.fr (cutD l lo hi)):=rfl
@[simp] theorem a0m (l:List D) (lo hi:Option Int):gCut (.kst l) lo hi=some (.fr (cutD l lo hi)):=rfl
@[simp] theorem ax6 (neg:Bool) (m1:M D) (m2:M (List D)):ax7 neg m1 m2 ρ=(m1.bind fun x=>m2.bind fun ds=>lift (apf neg x ds)) ρ:=rfl
@[simp] theorem awl (neg:Bool) (i x y:Int):apf neg (.int i) [.int x,.int y]=some (.bl (if neg then !(decide (x≤i)&&decide (i < y)) else (decide (x≤i)&&decide (i < y)))):=rfl
@[simp] theorem a2e (neg:Bool) (m:M D):mIsN neg m ρ=(m.bind fun d=>ret (.bl (if neg then !isN d else isN d))) ρ:=rfl
@[simp] theorem ax5 (m:M D):vq m ρ=(m.bind fun d=>lift (itemsD d)) ρ:=rfl
@[simp] theorem a2g (g:α→Option β) (m:M α):mGet g m ρ=(m.bind fun ds=>lift (g ds)) ρ:=rfl
@[simp] theorem aky (j:Int):u6 [.int j]=if j.natAbs < 4611686018427387904 then some (jj 0 j.toNat) else none:=rfl
@[simp] theorem avj (i j:Int):avk [.int i,.int j]=if i.natAbs < 4611686018427387904∧j.natAbs < 4611686018427387904 then some (jj i (j - i).toNat) else none:=rfl
@[simp] theorem avt (i j:Int):ah3 (.int i) (.int j)=if 0 < j∧j < 1000000000000000000000000000000000000000000000000000000000000 then some (.v (.tup [.int (i / j),.int (i % j)])) else none:=rfl
@[simp] theorem a1y (i:Nat) (g:List D→List D→Option (D×List D)) (ms:M (List D)):mMut i g ms ρ=((mOwn i).bind fun _=>ms.bind fun ds=>(mOwn i).bind fun l=>(lift (g l ds)).bind fun r=>(ac7 i r.2).bind fun _=>ret r.1) ρ:=rfl
@[simp] theorem avx (l:List D) (d:D):ad2 l [d]=if l.length < capS then some (.non,l++[d]) else none:=rfl
@[simp] theorem az5:jb ρ=some (.ok [],ρ):=rfl
@[simp] theorem ax9 (m:M D) (ms:M (List (Option D))):bj m ms ρ=(m.bind fun d=>ms.bind fun ds=>ret (some d::ds)) ρ:=rfl
@[simp] theorem ax8 (j:Nat) (ms:M (List (Option D))):f9 j ms ρ=((dq j).bind fun _=>ms.bind fun ds=>ret (none::ds)) ρ:=rfl
@[simp] theorem a4j (f:Fd) (js:List (Option Nat)) (ms:M (List (Option D))):mFn f js ms ρ=(ms.bind fun ds ρ=>if okJs ρ js=true then match f (lend ρ js ds) with
    | some (.ok r,ps)=>some (.ok r,putB ρ js ps)
    | some (.exc x,ps)=>some (.exc x,putB ρ js ps)
    | none=>none
  else none) ρ:=rfl
@[simp] theorem az8 (src:List (Option Nat)) (mi:M (List D)) (b:D→Ro→Option Ro) (mc:M Bool) (me:M D):z6 src mi b mc me ρ=(mi.bind fun l ρ=>if okJs ρ src=true then match compD b mc me l [] (lend ρ src (src.map fun _=>none)) with
    | some (.ok ys,ps)=>if ys.length≤capS then some (.ok (.fr ys),putB ρ src ps) else none
    | some (.exc x,ps)=>some (.exc x,putB ρ src ps)
    | none=>none
  else none) ρ:=rfl
@[simp] theorem azu:okJs ρ []=true:=rfl
@[simp] theorem axz (r:List (Option Nat)):okJs ρ (none::r)=okJs ρ r:=rfl
@[simp] theorem axy (j:Nat) (r:List (Option Nat)):okJs ρ (some j::r)=((match ρ[j]? with
    | some (.own _ _) => !r.contains (some j)
    | _=>true)&&okJs ρ r):=rfl
@[simp] theorem lend_eq (js:List (Option Nat)) (ds:List (Option D)):lend ρ js ds=(List.zip js ds).mapIdx fun i p=>ai9 ρ i p.1 p.2:=rfl
@[simp] theorem awj (i j:Nat) (d:Option D):ai9 ρ i (some j) d=match ρ[j]? with
    | some (.val d)=>.val d
    | some (.own _ l)=>.own (some i) l
    | _=>.emp:=rfl
@[simp] theorem a2l (i:Nat) (d:D):ai9 ρ i none (some d)=.val d:=rfl
@[simp] theorem a2m (i:Nat):ai9 ρ i none none=.emp:=rfl
@[simp] theorem a1f (js:List (Option Nat)) (ps:Ro):putB ρ js ps=ρ.mapIdx fun j s=>putS js ps j s:=rfl
@[simp] theorem a1e (js:List (Option Nat)) (ps:Ro) (j:Nat) (s:Sl):putS js ps j s=match js.findIdx? (fun o=>o==some j) with
  | none=>s
  | some i=>match s with
    | .own t _=>match ps[i]? with
      | some (.own (some i') l')=>if i'=i then .own t l' else .emp
      | _=>.emp
    | s=>s:=rfl
@[simp] theorem a4q (nl np:Nat) (g:Sd):fnD nl np g ρ=match g (ρ++List.replicate (nl - np) .emp) with
  | some (.ret r,ρ)=>some (.ok r,ρ.take np)
  | some (.nx,ρ)=>some (.ok (.v .non),ρ.take np)
  | some (.exc x,ρ)=>some (.exc x,ρ.take np)
  | _=>none:=rfl
@[simp] theorem a4t:dNx ρ=some (.nx,ρ):=rfl
@[simp] theorem a3o:dBrk ρ=some (.brk,ρ):=rfl
@[simp] theorem a0v:a3n ρ=some (.cont,ρ):=rfl
@[simp] theorem a3j (g k:Sd):dSeq g k ρ=match g ρ with
  | some (.nx,ρ1)=>k ρ1
  | r=>r:=rfl
@[simp] theorem a4y (m:M α) (k:α→Sd):dM m k ρ=match m ρ with
  | some (.ok x,ρ1)=>k x ρ1
  | some (.exc x,ρ1)=>some (.exc x,ρ1)
  | none=>none:=rfl
@[simp] theorem a3k (m:M Rv):dRet m ρ=dM m (fun r ρ=>some (.ret r,ρ)) ρ:=rfl
@[simp] theorem a4u (m:M Bool) (g k:Sd):dIf m g k ρ=dM m (fun z=>if z=true then g else k) ρ:=rfl
@[simp] theorem a0u (m:M α):ad8 m ρ=dM m (fun _ ρ=>some (.nx,ρ)) ρ:=rfl
@[simp] theorem a3i (i:Nat) (m:M Rv):dSet i m ρ=dM m (fun r ρ=>some (.nx,List.set ρ i r.sl)) ρ:=rfl
@[simp] theorem a3r (m:M D) (b:D→Ro→Option Ro):dAsg m b ρ=dM m (fun d ρ=>(b d ρ).map fun ρ'=>(.nx,ρ')) ρ:=rfl
@[simp] theorem a3l (i j:Nat) (m:M (List D)):dPar i j m ρ=dM m (fun ds ρ=>match ds with
  | [d,d']=>some (.nx,List.set (List.set ρ i (.val d)) j (.val d'))
  | _=>none) ρ:=rfl
@[simp] theorem a3h (i:Nat) (mi m:M D):dSub i mi m ρ=(dM m fun d=>dM (mOwn i) fun _=>dM mi fun k=>dM (mOwn i) fun l=>dM (lift ((asI k).bind (ixN l.length))) fun j=>dM (ac7 i (l.set j d)) fun _=>dNx) ρ:=rfl
@[simp] theorem a3p (f:Int→Int→Int) (i:Nat) (m:M D):dAug f i m ρ=(dM (mVar i) fun x=>dM m fun y=>dM (lift ((asI x).bind fun n=>(asI y).map fun k=>D.int (f n k))) fun z ρ=>some (.nx,List.set ρ i (.val z))) ρ:=rfl
@[simp] theorem a3m (m:M (List D)) (b:D→Ro→Option Ro) (g:Sd):dFor m b g ρ=dM m (forD b g) ρ:=rfl
@[simp] theorem a0y (i:Nat) (d:D):cz i d ρ=some (List.set ρ i (.val d)):=rfl
@[simp] theorem a3w:bNil [] ρ=some ρ:=rfl
@[simp] theorem a0z (b:D→Ro→Option Ro) (bs:List D→Ro→Option Ro) (d:D) (r:List D):j6 b bs (d::r) ρ=(b d ρ).bind (bs r):=rfl
@[simp] theorem a3v (n:Nat) (bs:List D→Ro→Option Ro) (l:List D):bTup n bs (.tup l) ρ=if l.length=n then bs l ρ else none:=rfl
end
section
variable (c:Prop) [Decidable c] (b:Bool) (ρ:Ro)
@[simp] theorem a2p:(if c then some (Out.ok (D.bl b),ρ) else some (Out.ok (D.bl false),ρ))=some (.ok (.bl (decide c&&b)),ρ):=by by_cases h:c <;> simp [h]
@[simp] theorem a4k:(if c then some (Out.ok (D.bl true),ρ) else some (Out.ok (D.bl b),ρ))=some (.ok (.bl (decide c||b)),ρ):=by by_cases h:c <;> simp [h]
@[simp] theorem a0b:(if c then some (Out.ok b,ρ) else some (Out.ok false,ρ))=some (.ok (decide c&&b),ρ):=by by_cases h:c <;> simp [h]
@[simp] theorem a2o:(if c then some (Out.ok true,ρ) else some (Out.ok b,ρ))=some (.ok (decide c||b),ρ):=by by_cases h:c <;> simp [h]
end
@[simp] theorem b8 {n:Nat} (h:n≤1000):n≤capS:=Nat.le_trans h (by decide)
@[simp] theorem a2w (ds:List D):gTup ds=if ds.length≤capS then some (.tup ds) else none:=rfl
@[simp] theorem a2y (ds:List D):gLst ds=if ds.length≤capS then some (.fr ds) else none:=rfl
@[simp] theorem ala {α:Type} (l:List α) (f:α→Bool):wj (l.map fun d=>D.bl (f d))=some (l.map f):=by
  have:=ab1 (l.map f)
  rw [List.map_map] at this
  exact this
noncomputable def acj (s:Sl):List D→Sl
  | []=>s
  | d::r=>acj (.val d) r
theorem adi {me:M D} {rest:Ro} {f:D→D}:∀ {l:List D} {ys:List D} {s:Sl},(∀ d∈l,me (.val d::rest)=some (.ok (f d),.val d::rest))→compD (cz 0) (ret true) me l ys (s::rest)=some (.ok (ys++l.map f),acj s l::rest)
  | [],ys,s,_=>by simp [compD,acj]
  | d::r,ys,s,h=>by
    have h1:=h d (List.mem_cons_self ..)
    have ih:=adi (me:=me) (rest:=rest) (f:=f) (l:=r) (ys:=ys++[f d]) (s:=.val d) fun x hx=>h x (List.mem_cons_of_mem _ hx)
    simp [compD,h1,ih,acj]
theorem uc {mc:M Bool} {me:M D} {rest:Ro} {p:D→Bool} {f:D→D}:∀ {l:List D} {ys:List D} {s:Sl},(∀ d∈l,mc (.val d::rest)=some (.ok (p d),.val d::rest))→(∀ d∈l,p d=true→me (.val d::rest)=some (.ok (f d),.val d::rest)) →
    compD (cz 0) mc me l ys (s::rest)=some (.ok (ys++(l.filter p).map f),acj s l::rest)
  | [],ys,s,_,_=>by simp [compD,acj]
  | d::r,ys,s,hc,h=>by
    have h0:=hc d (List.mem_cons_self ..)
    cases hp:p d with
    | true =>
      have h1:=h d (List.mem_cons_self ..) hp
      have ih:=uc (mc:=mc) (me:=me) (rest:=rest) (p:=p) (f:=f) (l:=r) (ys:=ys++[f d]) (s:=.val d) (fun x hx=>hc x (List.mem_cons_of_mem _ hx)) fun x hx=>h x (List.mem_cons_of_mem _ hx)
      simp [compD,h0,h1,ih,acj,hp]
    | false =>
      have ih:=uc (mc:=mc) (me:=me) (rest:=rest) (p:=p) (f:=f) (l:=r) (ys:=ys) (s:=.val d) (fun x hx=>hc x (List.mem_cons_of_mem _ hx)) fun x hx=>h x (List.mem_cons_of_mem _ hx)
      simp [compD,h0,ih,acj,hp]
@[simp] theorem a0t (b:D→Ro→Option Ro) (g:Sd) (ρ:Ro):forD b g [] ρ=some (.nx,ρ):=rfl
theorem mz (b:D→Ro→Option Ro) (g:Sd) (d:D) (ds:List D) (ρ:Ro):forD b g (d::ds) ρ=match b d ρ with
    | none=>none
    | some ρ1=>match g ρ1 with
      | some (.nx,ρ2)=>forD b g ds ρ2
      | some (.cont,ρ2)=>forD b g ds ρ2
      | some (.brk,ρ2)=>some (.nx,ρ2)
      | some (.ret r,ρ2)=>some (.ret r,ρ2)
      | some (.exc x,ρ2)=>some (.exc x,ρ2)
      | none=>none:=rfl
@[simp] theorem a3f {α:Type} (p:α→Bool) (a:α) (l:List α):List.findIdx? p (a::l)=if p a=true then some 0 else (List.findIdx? p l).map (· + 1):=by
  rw [List.findIdx?_cons]
@[simp] theorem a4r {α:Type} (p:α→Bool):List.findIdx? p ([]:List α)=none:=rfl
theorem apw (ns:List Int) (lo hi:Option Int):∃ ms:List Int,cutD (ns.map D.int) lo hi=ms.map D.int∧ms.length≤ns.length:=by
  refine ⟨(ns.drop (HT.sIx ns.length 0 lo)).take (HT.sIx ns.length ns.length hi - HT.sIx ns.length 0 lo),?_,?_⟩
  · unfold cutD
    rw [List.length_map,List.map_take,List.map_drop]
  · rw [List.length_take,List.length_drop]
    omega
theorem aau {b:D→Ro→Option Ro} {g:Sd} (Inv:Nat→Ro→Prop):∀ {l:List D} {ρ:Ro} (k:Nat),Inv k ρ→(∀ i d ρ,l[i]? = some d→Inv (k+i) ρ→∃ ρ1 ρ2,b d ρ=some ρ1∧(g ρ1=some (.nx,ρ2)∨g ρ1=some (.cont,ρ2))∧Inv (k+i+1) ρ2) →
    ∃ ρ',forD b g l ρ=some (.nx,ρ')∧Inv (k+l.length) ρ'
  | [],ρ,k,h0,_=>⟨ρ,rfl,h0⟩
  | d::r,ρ,k,h0,hs=>by
    obtain ⟨ρ1,ρ2,e1,e2,h1⟩:=hs 0 d ρ rfl h0
    obtain ⟨ρ',e3,h3⟩:=aau (b:=b) (g:=g) Inv (l:=r) (ρ:=ρ2) (k+1) h1 fun i x ρ hx hi=>by
      have:=hs (i+1) x ρ (by simpa using hx) ((show k+(i+1)=k+1+i by omega)▸hi)
      have e:k+(i+1)+1=k+1+i+1:=by omega
      rw [e] at this
      exact this
    refine ⟨ρ',?_,?_⟩
    · rw [mz,e1]
      rcases e2 with e2 | e2 <;> simp only [e2] <;> exact e3
    · have e:k+(d::r).length=k+1+r.length:=by simp; omega
      rw [e]
      exact h3
theorem uo {b:D→Ro→Option Ro} {mc:M Bool} {me:M D} (Inv:Nat→List D→Ro→Prop):∀ {l:List D} {ys:List D} {ρ:Ro} (k:Nat),Inv k ys ρ →
    (∀ i d ys ρ,l[i]? = some d→Inv (k+i) ys ρ→∃ ρ1 ρ2 z,b d ρ=some ρ1∧mc ρ1=some (.ok z,ρ2)∧((z=false∧Inv (k+i+1) ys ρ2)∨(z=true∧∃ y ρ3,me ρ2=some (.ok y,ρ3)∧Inv (k+i+1) (ys++[y]) ρ3))) →
    ∃ ys' ρ',compD b mc me l ys ρ=some (.ok ys',ρ')∧Inv (k+l.length) ys' ρ'
  | [],ys,ρ,k,h0,_=>⟨ys,ρ,rfl,h0⟩
  | d::r,ys,ρ,k,h0,hs=>by
    obtain ⟨ρ1,ρ2,z,e1,e2,h1⟩:=hs 0 d ys ρ rfl h0
    have nxt:∀ {ys':List D} {ρ':Ro},Inv (k+0+1) ys' ρ'→∃ ys2 ρ2,compD b mc me r ys' ρ'=some (.ok ys2,ρ2)∧Inv (k+1+r.length) ys2 ρ2:=fun {ys' ρ'} hi =>
      uo (b:=b) (mc:=mc) (me:=me) Inv (l:=r) (ys:=ys') (ρ:=ρ') (k+1) hi fun i x ys ρ hx hi=>by
        have:=hs (i+1) x ys ρ (by simpa using hx) ((show k+(i+1)=k+1+i by omega)▸hi)
        have e:k+(i+1)+1=k+1+i+1:=by omega
        rw [e] at this
        exact this
    have el:k+(d::r).length=k+1+r.length:=by simp; omega
    rw [el]
    rcases h1 with ⟨rfl,h1⟩ | ⟨rfl,y,ρ3,e3,h1⟩
    · obtain ⟨ys2,ρ4,e4,h4⟩:=nxt h1
      exact ⟨ys2,ρ4,by simp [compD,e1,e2,e4],h4⟩
    · obtain ⟨ys2,ρ4,e4,h4⟩:=nxt h1
      exact ⟨ys2,ρ4,by simp [compD,e1,e2,e3,e4],h4⟩
@[simp] theorem a3b (neg:Bool) (a b:Int):gEq neg (.int a) (.int b)=some (.v (.bl (if neg then !(a==b) else (a==b)))):=rfl
@[simp] theorem a4m (neg:Bool) (a b:Bool):gEq neg (.bl a) (.bl b)=some (.v (.bl (if neg then !(a==b) else (a==b)))):=rfl
end Dn
namespace Dn
open PySem PySem.Spec PyProof.Rows L2 Mn
section
variable {K:PySem.W.Frag} {X:Cx} {e a b c:Expr} {es:List Expr} {pos p p2:Pos}
noncomputable def aaf:List D→Option (List Int)
  | []=>some []
  | .int i::r=>(aaf r).map (i :: ·)
  | _::_=>none
theorem ah1:∀ {l:List D} {ns:List Int},aaf l=some ns→l=ns.map D.int
  | [],_,h=>by cases h; rfl
  | .int b::r,bs,h=>by
    have h':(aaf r).map (b :: ·)=some bs:=h
    cases e:aaf r with
    | none=>rw [e] at h'; cases h'
    | some t =>
      rw [e] at h'
      cases h'
      rw [ah1 e]
      rfl
  | .non::_,_,h=>by cases h
  | .bl _::_,_,h=>by cases h
  | .str _::_,_,h=>by cases h
  | .tup _::_,_,h=>by cases h
  | .lst _::_,_,h=>by cases h
  | .kst _::_,_,h=>by cases h
  | .dct _::_,_,h=>by cases h
@[simp] theorem aje (ns:List Int):aaf (ns.map D.int)=some ns:=by
  induction ns with
  | nil=>rfl
  | cons b r ih=>show (aaf (r.map D.int)).map (b :: ·)=_; rw [ih]; rfl
noncomputable def insI (x:Int):List Int→List Int
  | []=>[x]
  | y::r=>if x≤y then x::y::r else y::insI x r
noncomputable def sortI:List Int→List Int
  | []=>[]
  | x::r=>insI x (sortI r)
theorem insI_perm (x:Int):∀ l:List Int,(insI x l).Perm (x::l)
  | []=>.refl _
  | y::r=>by
    unfold insI
    split
    · exact .refl _
    · exact ((insI_perm x r).cons y).trans (.swap x y r)
theorem sortI_perm:∀ l:List Int,(sortI l).Perm l
  | []=>.refl _
  | x::r=>(insI_perm x (sortI r)).trans ((sortI_perm r).cons x)
theorem aft (x:Int):∀ {l:List Int},l.Pairwise (· ≤ ·)→(insI x l).Pairwise (· ≤ ·)
  | [],_=>by simp [insI]
  | y::r,h=>by
    unfold insI
    rw [List.pairwise_cons] at h
    split
    · rename_i hxy
      rw [List.pairwise_cons,List.pairwise_cons]
      refine ⟨fun z hz => ?_,h⟩
      rcases List.mem_cons.mp hz with rfl | hz
      · exact hxy
      · exact Int.le_trans hxy (h.1 z hz)
    · rename_i hxy
      rw [List.pairwise_cons]
      refine ⟨fun z hz => ?_,aft x h.2⟩
      rcases List.mem_cons.mp ((insI_perm x r).mem_iff.mp hz) with rfl | hz
      · omega
      · exact h.1 z hz
theorem aee:∀ l:List Int,(sortI l).Pairwise (· ≤ ·)
  | []=>.nil
  | x::r=>aft x (aee r)
theorem agk:∀ {l k:List Int},l.Perm k→l.Pairwise (· ≤ ·)→k.Pairwise (· ≤ ·)→l=k
  | [],k,h,_,_=>h.nil_eq
  | x::r,[],h,_,_=>absurd h.length_eq (by simp)
  | x::r,y::t,h,hl,hk=>by
    rw [List.pairwise_cons] at hl hk
    have e:x=y:=by
      have h1:x∈y::t:=h.mem_iff.mp (List.mem_cons_self ..)
      have h2:y∈x::r:=h.mem_iff.mpr (List.mem_cons_self ..)
      rcases List.mem_cons.mp h1 with h1 | h1
      · exact h1
      · rcases List.mem_cons.mp h2 with h2 | h2
        · exact h2.symm
        · have a:=hk.1 x h1
          have b:=hl.1 y h2
          omega
    subst e
    rw [agk ((List.perm_cons x).mp h) hl.2 hk.2]
theorem aqz {l k:List Int} (h:l.Perm k) (hs:l.Pairwise (· ≤ ·)):l=sortI k:=agk (h.trans (sortI_perm k).symm) hs (aee k)
theorem aec:∀ {ns:List Int} {us:List Value},IntsAre us ns→Vals (ns.map V.int) us
  | _,_,.nil=>.nil
  | _,_,.cons n t h=>.cons ⟨t,rfl⟩ (aec h)
noncomputable def apd:D→Option Rv
  | .lst l=>(aaf l).bind fun ns=>if ns.length < 64 then some (.fr ((sortI ns).map D.int)) else none
  | _=>none
noncomputable def apg (l ds:List D):Option (D×List D):=match ds with
  | [.lst k]=>if l.length+k.length≤capS then some (.non,l++k) else none
  | [.tup k]=>if l.length+k.length≤capS then some (.non,l++k) else none
  | _=>none
@[simp] theorem avr (l k:List D):apg l [.lst k]=if l.length+k.length≤capS then some (.non,l++k) else none:=rfl
@[simp] theorem avq (l k:List D):apg l [.tup k]=if l.length+k.length≤capS then some (.non,l++k) else none:=rfl
end
end Dn
namespace Dn
open PySem PySem.Spec PyProof.Rows L2 Mn
section
variable {K:PySem.W.Frag} {X:Cx} {e a b c:Expr} {es:List Expr} {pos p p2:Pos}
noncomputable def adk (lt:Int→Int→Bool):List Int→Int
  | []=>0
  | x::r=>r.foldl (fun m y=>if lt y m=true then y else m) x
theorem aqd (lt:Int→Int→Bool) (ns:List Int):∀ k,k < ns.length→argBest (fun i j=>lt (ns.getD i 0) (ns.getD j 0)) k≤k∧ns.getD (argBest (fun i j=>lt (ns.getD i 0) (ns.getD j 0)) k) 0=adk lt (ns.take (k+1))
  | 0,h=>by
    cases ns with
    | nil=>simp at h
    | cons x r=>exact ⟨Nat.le_refl _,rfl⟩
  | k+1,h=>by
    obtain ⟨h1,h2⟩:=aqd lt ns k (by omega)
    have ht:ns.take (k+1+1)=ns.take (k+1)++[ns.getD (k+1) 0]:=by
      rw [List.take_add_one,List.getElem?_eq_getElem h]
      simp [List.getD,List.getElem?_eq_getElem h]
    have hb:adk lt (ns.take (k+1+1))=if lt (ns.getD (k+1) 0) (adk lt (ns.take (k+1)))=true then ns.getD (k+1) 0 else adk lt (ns.take (k+1)):=by
      rw [ht]
      cases ns with
      | nil=>simp at h
      | cons x r=>simp [adk,List.foldl_append]
    have ha:argBest (fun i j=>lt (ns.getD i 0) (ns.getD j 0)) (k+1)=if lt (ns.getD (k+1) 0) (ns.getD (argBest (fun i j=>lt (ns.getD i 0) (ns.getD j 0)) k) 0)=true then k+1 else argBest (fun i j=>lt (ns.getD i 0) (ns.getD j 0)) k:=rfl
    rw [hb,←h2,ha]
    by_cases hc:lt (ns.getD (k+1) 0) (ns.getD (argBest (fun i j=>lt (ns.getD i 0) (ns.getD j 0)) k) 0)=true
    · rw [if_pos hc,if_pos hc]
      exact ⟨Nat.le_refl _,rfl⟩
    · rw [if_neg hc,if_neg hc]
      exact ⟨by omega,rfl⟩
theorem asx (lt:Int→Int→Bool) (ns:List Int) (h:ns≠[]):argBest (fun i j=>lt (ns.getD i 0) (ns.getD j 0)) (ns.length - 1) < ns.length∧ns.getD (argBest (fun i j=>lt (ns.getD i 0) (ns.getD j 0)) (ns.length - 1)) 0=adk lt ns:=by
  have hl:0 < ns.length:=List.length_pos_iff.mpr h
  obtain ⟨h1,h2⟩:=aqd lt ns (ns.length - 1) (by omega)
  refine ⟨by omega,?_⟩
  rw [h2,show ns.length - 1+1=ns.length by omega,List.take_length]
noncomputable def ay0 (lt:Int→Int→Bool):D→Option Rv
  | .lst l=>(aaf l).bind fun ns=>if ns=[] then none else some (.v (.int (adk lt ns)))
  | .tup l=>(aaf l).bind fun ns=>if ns=[] then none else some (.v (.int (adk lt ns)))
  | _=>none
theorem ak0 {lt:Int→Int→Bool} {d:D} {r:Rv} (h:ay0 lt d=some r):∃ ns:List Int,ns≠[]∧r=.v (.int (adk lt ns))∧(d=.lst (ns.map D.int)∨d=.tup (ns.map D.int)):=by
  have go:∀ l,(aaf l).bind (fun ns=>if ns=[] then none else some (Rv.v (.int (adk lt ns))))=some r→∃ ns:List Int,ns≠[]∧r=.v (.int (adk lt ns))∧l=ns.map D.int:=fun l h=>by
    cases e:aaf l with
    | none=>rw [e] at h; cases h
    | some ns =>
      rw [e] at h
      have h:(if ns=[] then none else some (Rv.v (.int (adk lt ns))))=some r:=h
      split at h
      · cases h
      · rename_i hn
        cases h
        exact ⟨ns,hn,rfl,ah1 e⟩
  cases d with
  | lst l=>obtain ⟨ns,h1,h2,rfl⟩:=go l h; exact ⟨ns,h1,h2,.inl rfl⟩
  | tup l=>obtain ⟨ns,h1,h2,rfl⟩:=go l h; exact ⟨ns,h1,h2,.inr rfl⟩
  | _=>cases h
theorem afs {ns:List Int} {its:List Value} (rv:Vals (ns.map V.int) its) (i:Nat) (v:Value) (h:its.toArray[i]? = some v):∃ t,v=.int (ns.getD i 0) t:=by
  have h:its[i]? = some v:=by simpa using h
  have hi:i < its.length:=(List.getElem?_eq_some_iff.mp h).1
  have hl:=rv.length
  rw [List.length_map] at hl
  have hi':i < ns.length:=by omega
  obtain ⟨u,hu,t,rfl⟩:=rv.get (i:=i) (x:=V.int ns[i]) (by rw [List.getElem?_map,List.getElem?_eq_getElem hi']; rfl)
  rw [h] at hu
  cases hu
  exact ⟨t,by simp [List.getD,List.getElem?_eq_getElem hi']⟩
noncomputable def avm:D→Option Rv:=ay0 fun i j=>decide (i < j)
theorem av8 (hc:X.calm=true):CallD K X (.builtin "min") (g1 avm):=ag4 fun hk pins s σ0 H x u Q tg F ρ σ d r I ru G bd eg q=>by
  subst hk
  obtain ⟨ns,hn,rfl,hd⟩:=ak0 eg
  have q':=Res.same G q (.int _)
  obtain ⟨hb1,hb2⟩:=asx (fun i j=>decide (i < j)) ns hn
  have fin:∀ {its:List Value} (rv:Vals (ns.map V.int) its) {v:Value} {h':Heap} {tk:Nat},its.toArray[argBest (fun i j=>decide (ns.getD i 0 < ns.getD j 0)) (its.toArray.size - 1)]? = some v→(∀ b o,s.heap.get? b=some o→h'.get? b=some o)→EP X pins σ0 Q v { s with heap:=h',toks:=tk }:=fun {its} rv {v h' tk} hv hk=>by
    have hl:=rv.length
    rw [List.length_map] at hl
    rw [List.size_toArray,←hl] at hv
    obtain ⟨t,rfl⟩:=afs rv _ v hv
    exact ⟨.int (adk (fun i j=>decide (i < j)) ns),H,I.kept hk,⟨t,by rw [hb2]⟩,q'⟩
  rcases hd with rfl | rfl
  · obtain ⟨a,vs,rfl,ea,hl⟩:=bd.lst G.sub
    rw [hl.int_inv] at ea
    cases ru
    obtain ⟨its,rv,pl,_⟩:=I.list (SqL.of ea)
    have hl':=pl.isList
    have hlt:a < s.heap.objs.size:=by obtain ⟨_,e,_⟩:=hl'; exact Heap.lt_size e
    have hlen:=rv.length
    rw [List.length_map] at hlen
    refine call_min_walk (wpAny_pyIter_list hl' ⟨s.heap.objs.size,[s.heap.objs.size,a],[s.heap.objs.size],its.toArray.size,_,_,_,rfl,Walks.list (A:=X.A.in1) (I.ok.hd hc) _ a (Nat.ne_of_lt hlt) its.toArray,
      ⟨⟨_,Heap.get?_push_size _ rfl,rfl,rfl⟩,hl'.push _⟩,fun b hb => ?_,?_,CmpOf.ints_lt (fun i=>ns.getD i 0) (fun i v=>afs rv i v),fun v h' tk hP hk=>fin rv hP (LSm.kept_iter hk)⟩)
    · have hs:∀ o:Obj,(s.heap.push o).objs.size=s.heap.objs.size+1:=fun o=>Heap.size_push ..
      show b < (s.heap.push _).objs.size
      rw [hs]
      rcases List.mem_cons.mp hb with hb | hb
      · exact hb▸Nat.lt_succ_self _
      · have hb:b=a:=by simpa using hb
        exact hb▸Nat.lt_succ_of_lt hlt
    · rw [List.size_toArray,←hlen]
      exact List.length_pos_iff.mpr hn
  · obtain ⟨a,vs,rfl,ea,hl⟩:=bd.tup
    rw [hl.int_inv] at ea
    cases ru
    obtain ⟨its,rv,pl,_⟩:=I.tuple (SqT.of (G.sub _ _ ea))
    have hlt:a < s.heap.objs.size:=by obtain ⟨_,e,_⟩:=pl; exact Heap.lt_size e
    have hlen:=rv.length
    rw [List.length_map] at hlen
    refine call_min_walk (wpAny_pyIter_tuple pl ⟨s.heap.objs.size,[s.heap.objs.size,a],[s.heap.objs.size],its.toArray.size,_,_,_,rfl,Walks.tuple (A:=X.A.in1) (I.ok.hd hc) _ a (Nat.ne_of_lt hlt) its.toArray,
      ⟨⟨_,Heap.get?_push_size _ rfl,rfl,rfl⟩,pl.push _⟩,fun b hb => ?_,?_,CmpOf.ints_lt (fun i=>ns.getD i 0) (fun i v=>afs rv i v),fun v h' tk hP hk=>fin rv hP (LSm.kept_iter hk)⟩)
    · have hs:∀ o:Obj,(s.heap.push o).objs.size=s.heap.objs.size+1:=fun o=>Heap.size_push ..
      show b < (s.heap.push _).objs.size
      rw [hs]
      rcases List.mem_cons.mp hb with hb | hb
      · exact hb▸Nat.lt_succ_self _
      · have hb:b=a:=by simpa using hb
        exact hb▸Nat.lt_succ_of_lt hlt
    · rw [List.size_toArray,←hlen]
      exact List.length_pos_iff.mpr hn
end
end Dn
namespace Dn
open PySem PySem.Spec PyProof.Rows L2 Mn
section
variable {K:PySem.W.Frag} {X:Cx} {e a b c:Expr} {es:List Expr} {pos p p2:Pos}
noncomputable def a1z (i:Nat) (g:D→List D→Option D) (ms:M (List D)):M D:=(dq i).bind fun d0=>(lift (match d0 with
  | .lst _=>some ()
  | _=>none)).bind fun _=>ms.bind fun ds=>(dq i).bind fun d=>lift (g d ds)
noncomputable def ati (d:D) (ds:List D):Option D:=match d,ds with
  | .lst l,[x]=>if okD 30 x&&l.all (okD 30) then some (.int (l.countP fun y=>eqD y x)) else none
  | _,_=>none
noncomputable def avu (d:D) (ds:List D):Option D:=match d,ds with
  | .tup l,[x]=>if okD 30 x&&l.all (okD 30) then some (.int (l.countP fun y=>eqD y x)) else none
  | _,_=>none
theorem PE.or {t1 t2:TE} (h1:PE X e t1) (h2:PE X e t2):PE X e fun σ H Q=>t1 σ H Q∨t2 σ H Q:=fun pins s σ H Q I h=>h.elim (h1 pins s σ H Q I) (h2 pins s σ H Q I)
noncomputable def ah4 (d:D) (ds:List D):Option D:=match d with
  | .lst _=>ati d ds
  | .tup _=>avu d ds
  | _=>none
noncomputable def ayc (i:Nat) (ms:M (List D)):M D:=(dq i).bind fun d0=>ms.bind fun ds=>(dq i).bind fun d=>(lift (match d0,d with
  | .lst _,.lst _=>some ()
  | .tup _,.tup _=>some ()
  | _,_=>none)).bind fun _=>lift (ah4 d ds)
noncomputable def ayx (d:D) (ds:List D):Option D:=match d,ds with
  | .lst l,[x]=>if okD 30 x&&l.all (okD 30) then (l.findIdx? fun y=>eqD y x).map fun i=>.int i else none
  | _,_=>none
noncomputable def insD (l:List D) (k:Int) (d:D):List D:=let j:=if k < 0 then (k+(l.length:Int)).toNat else min k.toNat l.length; l.take j++d::l.drop j
noncomputable def avo (l ds:List D):Option (D×List D):=match ds with
  | [.int k,d]=>if -9223372036854775808≤k∧k < 9223372036854775808∧l.length < capS then some (.non,insD l k d) else none
  | _=>none
section
variable (ρ:Ro)
@[simp] theorem az3 (i:Nat) (g:D→List D→Option D) (ms:M (List D)):a1z i g ms ρ=((dq i).bind fun d0=>(lift (match d0 with
  | .lst _=>some ()
  | _=>none)).bind fun _=>ms.bind fun ds=>(dq i).bind fun d=>lift (g d ds)) ρ:=rfl
@[simp] theorem awn (l:List D) (x:D):ati (.lst l) [x]=if okD 30 x&&l.all (okD 30) then some (.int (l.countP fun y=>eqD y x)) else none:=rfl
@[simp] theorem awk (l:List D) (x:D):ayx (.lst l) [x]=if okD 30 x&&l.all (okD 30) then (l.findIdx? fun y=>eqD y x).map (fun i=>D.int i) else none:=rfl
@[simp] theorem avn (l:List D) (k:Int) (d:D):avo l [.int k,d]=if -9223372036854775808≤k∧k < 9223372036854775808∧l.length < capS then some (.non,insD l k d) else none:=rfl
end
end
end Dn
namespace En
open PySem PySem.Builtin
noncomputable def It1 (k:Bool) (h:Heap) (it l:Addr) (i:Nat):Prop:=cond k (h.IsTupleIter it l i) (h.IsListIter it l i)
noncomputable def Sq1 (k:Bool) (h:Heap) (l:Addr) (xs:Array Value):Prop:=cond k (h.IsTuple l xs) (h.IsList l xs)
section
variable {prog:Program} {w:World} {A:Around} {E:Value→Shared→Prop} {s:Shared}
theorem auz {it t:Addr} {i:Nat} {xs:Array Value} {x:Value} {Q:Value→Shared→Prop} (h1:s.heap.IsTupleIter it t i) (h2:s.heap.IsTuple t xs) (hx:xs[i]? = some x)
    (q:∀ h',h'.IsTupleIter it t (i+1)→Heap.SameBut it s.heap h'→Q x { s with heap:=h' }):wpAny (model prog w) A (SmallTypes.nextOf (.ref it)) Q E s:=by
  obtain ⟨o1,e1,c1,d1⟩:=id h1
  obtain ⟨o2,e2,_,k2,d2⟩:=h2
  have nn:¬((Value.ref t==Value.none)=true):=Bool.false_ne_true
  unfold SmallTypes.nextOf
  refine wpAny_bind (wpAny_callSpecial?_slot (name:=Str.ofString "__next__") h1.typeIs F.slot_tuple_iterator_next (wpAny_call_entry F.slot_tuple_iterator_next h1.typeIs F.entry_tuple_iterator_next ?_ (F.args_tuple_iterator_next_1 _)))
  refine wpAny_bind (m:=field (.ref it) 0) (wpAny_field e1 d1 (x:=.ref t) rfl ?_)
  show wpAny _ _ (if (Value.ref t==Value.none)=true then _ else (field (.ref it) 1 >>= _)) _ _ s; rw [if_neg nn]
  refine wpAny_bind (m:=field (.ref it) 1) (wpAny_field e1 d1 (x:=.int i 0) rfl ?_)
  refine wpAny_bind (m:=seqItems? (.ref t)) (wpAny_seqItems e2 d2 ?_)
  simp only [Int.toNat_natCast,hx]; refine wpAny_bind (wpAny_setField e1 d1 (by simp) (wpAny_pure ⟨x,rfl,wpAny_pure (q _ ?_ (Heap.SameBut.update ..))⟩))
  refine ⟨_,Heap.get?_update_self _ e1 (Obj.isFreed_of_fields (Obj.data_mapFields d1 _)),(Obj.cls_mapFields ..).trans c1,?_⟩
  rw [Obj.data_mapFields d1]; simp [rawInt]
theorem av5 {it t:Addr} {i:Nat} {xs:Array Value} {Q:Value→Shared→Prop} (hh:A.handled=none) (h1:s.heap.IsTupleIter it t i) (h2:s.heap.IsTuple t xs) (hx:xs[i]? = none)
    (q:∀ h' e,Heap.ExtBut it s.heap h'→(∃ o,h'.get? e=some o∧o.cls=.type "StopIteration")→E (.ref e) { s with heap:=h' }):wpAny (model prog w) A (SmallTypes.nextOf (.ref it)) Q E s:=by
  obtain ⟨o1,e1,c1,d1⟩:=id h1
  obtain ⟨o2,e2,_,k2,d2⟩:=h2
  have nn:¬((Value.ref t==Value.none)=true):=Bool.false_ne_true
  unfold SmallTypes.nextOf
  refine wpAny_bind (wpAny_callSpecial?_slot (name:=Str.ofString "__next__") h1.typeIs F.slot_tuple_iterator_next (wpAny_call_entry F.slot_tuple_iterator_next h1.typeIs F.entry_tuple_iterator_next ?_ (F.args_tuple_iterator_next_1 _)))
  refine wpAny_bind (m:=field (.ref it) 0) (wpAny_field e1 d1 (x:=.ref t) rfl ?_)
  show wpAny _ _ (if (Value.ref t==Value.none)=true then _ else (field (.ref it) 1 >>= _)) _ _ s; rw [if_neg nn]
  refine wpAny_bind (m:=field (.ref it) 1) (wpAny_field e1 d1 (x:=.int i 0) rfl ?_)
  refine wpAny_bind (m:=seqItems? (.ref t)) (wpAny_seqItems e2 d2 ?_)
  simp only [Int.toNat_natCast,hx]; refine wpAny_bind (wpAny_rule (wpAny_bind (wpAny_setField e1 d1 (by simp) ?_)))
  refine wpAny_bind (m:=newExc (.type "StopIteration") []) ?_
  simp only [newExc,newTuple]; refine wpAny_bind (wpAny_newObj_type ?_ (by size_fits))
  refine wpAny_bind (m:=firstArgMember _ _) (wpAny_of_eq (a:=Value.none) (by first | rfl | (simp only [firstArgMember]; rfl)) (wpAny_newObj_type ?_ (by size_fits)))
  simp only [raiseNew]; refine wpAny_bind (wpAny_handled ?_); first | rw [show A.in1.handled=none from hh] | rw [hh]
  refine wpAny_bind (wpAny_pure (wpAny_throw (q _ _ ?_ ⟨_,Heap.get?_push_size _ rfl,rfl⟩)))
  exact ((Heap.SameBut.update ..).extBut.push _).push _
theorem src (hh:A.handled=none) (k:Bool) (it l:Addr) (ne:l≠it) (xs:Array Value):Draws prog w A it [it,l] xs.size (fun i v=>xs[i]? = some v) (fun i h=>It1 k h it l i∧Sq1 k h l xs):=by
  cases k with
  | false=>exact Draws.list hh it l ne xs
  | true=>exact {
      live:=fun _ _ z=>let ⟨o,e,_⟩:=z.1; ⟨o,e⟩
      frame:=fun _ _ _ z kk=>⟨(let ⟨o,e,r⟩:=z.1; ⟨o,kk it (by simp) o e,r⟩),(let ⟨o,e,r⟩:=z.2; ⟨o,kk l (by simp) o e,r⟩)⟩
      item:=fun i s Q E hi z q=>auz z.1 z.2 (x:=xs[i]) (by simp [hi]) fun h' z' sb=>q _ h' s.toks (by simp [hi]) ⟨z',Heap.IsTuple.extBut z.2 sb.extBut ne⟩ sb
      done:=fun s Q E z q=>av5 hh z.1 z.2 (by simp) q }
theorem It1.at {k:Bool} {h h':Heap} {it l:Addr} {i:Nat} (x:It1 k h it l i) (e:∀ o,h.get? it=some o→h'.get? it=some o):It1 k h' it l i:=by
  cases k <;> exact (let ⟨o,z,r⟩:=x; ⟨o,e _ z,r⟩)
theorem It1.got {k:Bool} {h:Heap} {it l:Addr} {i:Nat} (x:It1 k h it l i):∃ o,h.get? it=some o∧∀ v,o.data≠.cell v:=by
  cases k <;> exact (let ⟨o,z,_,r⟩:=x; ⟨o,z,fun v e=>by rw [r] at e; cases e⟩)
theorem Sq1.at {k:Bool} {h h':Heap} {l:Addr} {xs:Array Value} (x:Sq1 k h l xs) (e:∀ o,h.get? l=some o→h'.get? l=some o):Sq1 k h' l xs:=by
  cases k <;> exact (let ⟨o,z,r⟩:=x; ⟨o,e _ z,r⟩)
theorem Sq1.got {k:Bool} {h:Heap} {l:Addr} {xs:Array Value} (x:Sq1 k h l xs):∃ o,h.get? l=some o:=by
  cases k <;> exact (let ⟨o,z,_⟩:=x; ⟨o,z⟩)
theorem aru {k:Bool} {l:Addr} {xs:Array Value} {Q:Value→Shared→Prop} (h:Sq1 k s.heap l xs)
    (q:Q (.ref s.heap.objs.size) { s with heap:=s.heap.push { cls:=.type (cond k "tuple_iterator" "list_iterator"),data:=.fields #[.ref l,.int 0 0] } }):wpAny (model prog w) A (pyIter (.ref l)) Q E s:=by
  cases k with
  | false=>exact wpAny_pyIter_list h q
  | true=>exact wpAny_pyIter_tuple h q
theorem aku {k:Bool} {h:Heap} {l a:Addr} (e:h.get? a=some { cls:=.type (cond k "tuple_iterator" "list_iterator"),data:=.fields #[.ref l,.int 0 0] }):It1 k h a l 0:=by
  cases k <;> exact ⟨_,e,rfl,rfl⟩
end
end En
namespace En
open PySem PySem.Builtin
set_option maxRecDepth 100000
noncomputable abbrev eh1 (k:Bool) (h:Heap) (l:Addr):Heap:=h.push { cls:=.type (cond k "tuple_iterator" "list_iterator"),data:=.fields #[.ref l,.int 0 0] }
noncomputable abbrev eh2 (k:Bool) (h:Heap) (l:Addr):Heap:=(eh1 k h l).push { cls:=.type "enumerate", data:=.fields #[.none,.bool false,.ref h.objs.size,rawInt 0,.none,.none] }
theorem au5 (k:Bool) (l:Addr) (o:Obj) (xs:Array Value) :
    Meets (Builtin.«enumerate.__new__» ⟨[.type "enumerate", .ref l],[]⟩) (fun _ R s=>s.heap.get? l=some o∧Sq1 k s.heap l xs∧R (.ok (.ret (.ref (eh1 k s.heap l).objs.size))) { s with heap:=eh2 k s.heap l }) :=
  .of_wp fun prog w A R s h=>by
    obtain ⟨hp,g,d,tk,os⟩:=s; obtain ⟨ho,r1,h⟩:=h
    have sb:=sub_enumerate
    have r1:Sq1 k (Shared.heap ⟨hp,g,d,tk,os⟩) l xs:=r1
    wp_walk using AutoSeq1.wpAny_loadPart' ho
    refine wpAny_stack_any fun st=>wpAny_pure ?_
    split
    · rename_i c _ _ _ _ _
      cases (c==Value.type "enumerate") <;> (wp_walk using AutoSeq1.wpAny_loadPart' ho,aru r1; exact ⟨_,rfl,h⟩)
    · wp_walk using AutoSeq1.wpAny_loadPart' ho,aru r1
      exact ⟨_,rfl,h⟩
theorem ap8 {prog:Program} {w:World} {A:Around} {E:Value→Shared→Prop} {s:Shared} {k:Bool} {l:Addr} {xs:Array Value} {Q:Value→Shared→Prop} (s1:Sq1 k s.heap l xs)
    (q:∀ h',IsEnum h' (s.heap.objs.size+1) s.heap.objs.size 0 .none→It1 k h' s.heap.objs.size l 0→h'.objs.size=s.heap.objs.size+2→(∀ b o,s.heap.get? b=some o→h'.get? b=some o)→Q (.ref (s.heap.objs.size+1)) { s with heap:=h' }) :
    wpAny (model prog w) A (call (.type "enumerate") [.ref l]) Q E s:=by
  obtain ⟨o,ho⟩:=s1.got
  refine callType_new F.called_enumerate (by decide) (F.typeCall_enumerate_1 _) (F.newCall_enumerate_1 _) (fun obj=>F.args_object_init_2 obj _) F.entry_enumerate_new (au5 k l o xs) ⟨ho,s1,?_⟩
  have z1:(eh1 k s.heap l).objs.size=s.heap.objs.size+1:=Heap.size_push ..
  have g2:(eh2 k s.heap l).get? (eh1 k s.heap l).objs.size=some _:=Heap.get?_push_size _ rfl
  have g1:(eh2 k s.heap l).get? s.heap.objs.size=some _:=Heap.get?_push_of_some _ (Heap.get?_push_size _ rfl)
  rw [z1] at g2
  show _∧_
  rw [z1]
  exact ⟨⟨_,g2,rfl⟩,q _ g2 (aku g1) (by rw [Heap.size_push,z1]) fun b o x=>Heap.get?_push_of_some _ (Heap.get?_push_of_some _ x)⟩
end En
namespace En
open PySem PySem.Builtin
set_option maxRecDepth 100000
theorem atw (v1 v2:Value):checkTypeCall "zip" ⟨[v1,v2],[]⟩=pure ():=by kernel_rfl
theorem au2 (v1 v2:Value):checkBuiltinCall "zip.__new__" ⟨[.type "zip", v1,v2],[]⟩=pure ():=by kernel_rfl
theorem awh (o v1 v2:Value):argsOk "object.__init__" ⟨[o,v1,v2],[]⟩:=by
  unfold argsOk; rw [signature?_of (id := "object.__init__") (n:=['_','_','t','i','n','i','_','_']) (o:=['t','c','e','j','b','o']) (by kernel_rfl) F.owner_object]; kernel_rfl
noncomputable abbrev Row2 (h:Heap) (T:Addr) (v1 v2:Value):Prop:=h.get? T=some { cls:=.type "tuple", data:=.seq #[v1,v2] }
structure Apart2 (z TI TO i1 i2 l1 l2:Addr):Prop where
  nTIz:TI≠z
  nTOz:TO≠z
  nTOTI:TO≠TI
  ni1z:i1≠z
  ni1TI:i1≠TI
  ni1TO:i1≠TO
  ni2z:i2≠z
  ni2TI:i2≠TI
  ni2TO:i2≠TO
  ni2i1:i2≠i1
  nl1z:l1≠z
  nl1TO:l1≠TO
  nl1i1:l1≠i1
  nl1i2:l1≠i2
  nl2z:l2≠z
  nl2TO:l2≠TO
  nl2i1:l2≠i1
  nl2i2:l2≠i2
section
variable {prog:Program} {w:World} {A:Around} {E:Value→Shared→Prop} {s:Shared}
theorem aw6 {T:Addr} {v1 v2 x:Value} {Q:Unit→Shared→Prop} (h:Row2 s.heap T v1 v2) (q:∀ h',Row2 h' T x v2→Heap.SameBut T s.heap h'→Q () { s with heap:=h' }):wpAny (model prog w) A (updateSeq T (·.setIfInBounds 0 x)) Q E s:=by
  refine wpAny_updateSeq h rfl (q _ (show Heap.get? _ T=_ from ?_) (Heap.SameBut.update ..))
  rw [Heap.get?_update_self _ h rfl]; simp [Obj.mapSeq]
theorem aw5 {T:Addr} {v1 v2 x:Value} {Q:Unit→Shared→Prop} (h:Row2 s.heap T v1 v2) (q:∀ h',Row2 h' T v1 x→Heap.SameBut T s.heap h'→Q () { s with heap:=h' }):wpAny (model prog w) A (updateSeq T (·.setIfInBounds 1 x)) Q E s:=by
  refine wpAny_updateSeq h rfl (q _ (show Heap.get? _ T=_ from ?_) (Heap.SameBut.update ..))
  rw [Heap.get?_update_self _ h rfl]; simp [Obj.mapSeq]
theorem anp {z TI TO i1 i2 l1 l2:Addr} {k1 k2:Bool} {i:Nat} {x1 x2:Array Value} {v1 v2:Value} {Q:Value→Shared→Prop} (hh:A.handled=none) (D:Apart2 z TI TO i1 i2 l1 l2)
    (hz:IsZip s.heap z TI TO .none) (hI:Row2 s.heap TI (.ref i1) (.ref i2)) (hO:Row2 s.heap TO v1 v2) (h1:It1 k1 s.heap i1 l1 i) (s1:Sq1 k1 s.heap l1 x1) (h2:It1 k2 s.heap i2 l2 i) (s2:Sq1 k2 s.heap l2 x2) (b1:i < x1.size) (b2:i < x2.size)
    (q:∀ h' tk y1 y2,x1[i]? = some y1→x2[i]? = some y2→IsZip h' z TI TO (rawInt s.heap.objs.size)→Row2 h' TO y1 y2→It1 k1 h' i1 l1 (i+1)→It1 k2 h' i2 l2 (i+1)→Row2 h' s.heap.objs.size y1 y2→h'.objs.size=s.heap.objs.size+1 →
      (∀ c o,c≠z→c≠TO→c≠i1→c≠i2→s.heap.get? c=some o→h'.get? c=some o)→Q (.ref s.heap.objs.size) { s with heap:=h',toks:=tk }) :
    wpAny (model prog w) A (Builtin.«zip.__next__» ⟨[.ref z],[]⟩) (fun fin s'=>∃ v,fin=.done (.ret v)∧Q v s') E s:=by
  refine wpAny_bind (m:=field (.ref z) 2) (wpAny_field hz rfl (x:=.bool false) rfl ?_)
  refine wpAny_bind (m:=field (.ref z) 3) (wpAny_field hz rfl (x:=.ref TI) rfl ?_)
  refine wpAny_bind (wpAny_seqItems hI rfl ?_)
  refine wpAny_bind (m:=SmallTypes.ownedTupleIsFree (.ref z)) ?_
  unfold SmallTypes.ownedTupleIsFree
  refine wpAny_bind (wpAny_field hz rfl (x:=.none) rfl (wpAny_pure ?_)); simp only [if_true]
  refine wpAny_bind (wpAny_rule (wpAny_bind (wpAny_field hz rfl (x:=.ref TO) rfl ?_)))
  refine wpAny_bind (wpAny_setField_rec hz (by simp) fun g0 z0 a0 => ?_)
  have z0:IsZip g0 z TI TO .ellipsis:=z0
  refine wpAny_bind ?_; simp only [List.zipIdx_cons,List.zipIdx_nil,List.forIn_cons,List.forIn_nil]
  refine wpAny_bind (wpAny_bind (wpAny_onRaise ?_))
  refine wpAny_bind (m:=SmallTypes.nextOf (.ref i1)) ((src hh k1 i1 l1 D.nl1i1 x1).item i _ _ _ b1 ⟨(h1.at fun _ e=>(a0.extBut _ _ D.ni1z e)),(s1.at fun _ e=>(a0.extBut _ _ D.nl1z e))⟩ fun y1 f1 t1 p1 q1 c1=>wpAny_pure ?_)
  have c1:Heap.SameBut i1 g0 f1:=c1
  have P1:Row2 f1 TO v1 v2:=(c1.extBut _ _ D.ni1TO.symm (a0.extBut _ _ D.nTOz hO))
  refine wpAny_bind (wpAny_seqItems P1 rfl ?_)
  refine wpAny_bind (aw6 P1 fun g1 O1 a1 => ?_)
  have a1:Heap.SameBut TO f1 g1:=a1
  refine wpAny_bind (wpAny_letGo (wpAny_pure ?_))
  refine wpAny_bind (wpAny_bind (wpAny_onRaise ?_))
  refine wpAny_bind (m:=SmallTypes.nextOf (.ref i2)) ((src hh k2 i2 l2 D.nl2i2 x2).item i _ _ _ b2 ⟨(h2.at fun _ e=>(a1.extBut _ _ D.ni2TO (c1.extBut _ _ D.ni2i1 (a0.extBut _ _ D.ni2z e)))),(s2.at fun _ e=>(a1.extBut _ _ D.nl2TO (c1.extBut _ _ D.nl2i1 (a0.extBut _ _ D.nl2z e))))⟩ fun y2 f2 t2 p2 q2 c2=>wpAny_pure ?_)
  have c2:Heap.SameBut i2 g1 f2:=c2
  have P2:Row2 f2 TO y1 v2:=(c2.extBut _ _ D.ni2TO.symm O1)
  refine wpAny_bind (wpAny_seqItems P2 rfl ?_)
  refine wpAny_bind (aw5 P2 fun g2 O2 a2 => ?_)
  have a2:Heap.SameBut TO f2 g2:=a2
  refine wpAny_bind (wpAny_letGo (wpAny_pure (wpAny_pure ?_)))
  refine wpAny_bind (wpAny_seqItems O2 rfl (wpAny_bind (wpAny_newTuple ?_)))
  have sz:g2.objs.size=s.heap.objs.size:=by rw [a2.1,c2.1,a1.1,c1.1,a0.1]
  have zn:IsZip g2 z TI TO .ellipsis:=(a2.extBut _ _ D.nTOz.symm (c2.extBut _ _ D.ni2z.symm (a1.extBut _ _ D.nTOz.symm (c1.extBut _ _ D.ni1z.symm z0))))
  have kn:∀ c o,c≠z→c≠TO→c≠i1→c≠i2→s.heap.get? c=some o→g2.get? c=some o:=fun c o n0 n1 n2 n3 e=>(a2.extBut _ _ n1 (c2.extBut _ _ n3 (a1.extBut _ _ n1 (c1.extBut _ _ n2 (a0.extBut _ _ n0 e)))))
  have j1:It1 k1 g2 i1 l1 (i+1):=q1.1.at fun _ e=>(a2.extBut _ _ D.ni1TO (c2.extBut _ _ D.ni2i1.symm (a1.extBut _ _ D.ni1TO e)))
  have j2:It1 k2 g2 i2 l2 (i+1):=q2.1.at fun _ e=>(a2.extBut _ _ D.ni2TO e)
  have lz:z < g2.objs.size:=Heap.lt_size zn
  refine wpAny_bind (m:=SmallTypes.ownedTupleHandOut (.ref z) (.ref g2.objs.size)) ?_
  unfold SmallTypes.ownedTupleHandOut
  have zp:IsZip (g2.push { cls:=.type "tuple", data:=.seq #[y1,y2] }) z TI TO .ellipsis:=Heap.get?_push_of_some _ zn
  refine wpAny_bind (wpAny_setField_rec zp (by simp) fun e1 z1 b1' => ?_)
  have z1:IsZip e1 z TI TO (rawInt g2.objs.size):=z1
  refine wpAny_setField_rec z1 (by simp) fun e2 z2 b2' => ?_
  have z2:IsZip e2 z TI TO (rawInt g2.objs.size):=z2
  have up:∀ c o,c≠z→g2.get? c=some o→e2.get? c=some o:=fun c o n1 e=>b2'.extBut _ _ n1 (b1'.extBut _ _ n1 (Heap.get?_push_of_some _ e))
  have t2:Row2 e2 g2.objs.size y1 y2:=b2'.extBut _ _ (Nat.ne_of_gt lz) (b1'.extBut _ _ (Nat.ne_of_gt lz) (Heap.get?_push_size _ rfl))
  have s2':e2.objs.size=g2.objs.size+1:=by rw [b2'.1,b1'.1,Heap.size_push]
  rw [sz] at z2 t2 s2'; refine wpAny_pure ⟨_,rfl,?_⟩; show Q (.ref g2.objs.size) _; rw [sz]
  exact q e2 _ y1 y2 p1 p2 z2 (up _ _ D.nTOz O2) (j1.at fun _ e=>up _ _ D.ni1z e) (j2.at fun _ e=>up _ _ D.ni2z e) t2 s2' fun c o n0 n1 n2 n3 e=>up c o n0 (kn c o n0 n1 n2 n3 e)
theorem aqo {z TI TO i1 i2 l1 l2:Addr} {k1:Bool} {x1:Array Value} {v1 v2:Value} {Q:Fin→Shared→Prop} (hh:A.handled=none) (D:Apart2 z TI TO i1 i2 l1 l2)
    (hz:IsZip s.heap z TI TO .none) (hI:Row2 s.heap TI (.ref i1) (.ref i2)) (hO:Row2 s.heap TO v1 v2) (h1:It1 k1 s.heap i1 l1 x1.size) (s1:Sq1 k1 s.heap l1 x1)
    (q:∀ h' e,(∀ c o,c≠z→c≠i1→s.heap.get? c=some o→h'.get? c=some o)→(∃ o,h'.get? e=some o∧o.cls=.type "StopIteration")→E (.ref e) { s with heap:=h' }) :
    wpAny (model prog w) A (Builtin.«zip.__next__» ⟨[.ref z],[]⟩) Q E s:=by
  refine wpAny_bind (m:=field (.ref z) 2) (wpAny_field hz rfl (x:=.bool false) rfl ?_)
  refine wpAny_bind (m:=field (.ref z) 3) (wpAny_field hz rfl (x:=.ref TI) rfl ?_)
  refine wpAny_bind (wpAny_seqItems hI rfl ?_)
  refine wpAny_bind (m:=SmallTypes.ownedTupleIsFree (.ref z)) ?_
  unfold SmallTypes.ownedTupleIsFree
  refine wpAny_bind (wpAny_field hz rfl (x:=.none) rfl (wpAny_pure ?_)); simp only [if_true]
  refine wpAny_bind (wpAny_rule (wpAny_bind (wpAny_field hz rfl (x:=.ref TO) rfl ?_)))
  refine wpAny_bind (wpAny_setField_rec hz (by simp) fun g0 z0 a0 => ?_)
  have z0:IsZip g0 z TI TO .ellipsis:=z0
  refine wpAny_bind ?_; simp only [List.zipIdx_cons,List.zipIdx_nil,List.forIn_cons,List.forIn_nil]
  refine wpAny_bind (wpAny_bind (wpAny_onRaise ?_))
  refine wpAny_bind (m:=SmallTypes.nextOf (.ref i1)) ((src hh k1 i1 l1 D.nl1i1 x1).done _ _ _ ⟨(h1.at fun _ e=>a0.extBut _ _ D.ni1z e),(s1.at fun _ e=>a0.extBut _ _ D.nl1z e)⟩ fun f1 e c1 ⟨oe,he,ce⟩ => ?_)
  have zf:IsZip f1 z TI TO .ellipsis:=c1 _ _ D.ni1z.symm z0
  have ez:e≠z:=fun x=>by subst x; rw [zf] at he; cases he; simp at ce
  refine wpAny_setField_rec zf (by simp) fun f2 _ a1=>q f2 e (fun c o n1 n2 y=>a1.extBut _ _ n1 (c1 _ _ n2 (a0.extBut _ _ n1 y))) ⟨oe,a1.extBut _ _ ez he,ce⟩
noncomputable abbrev anq (h:Heap) (k1 k2:Bool) (l1 l2:Addr):Heap:=h.push { cls:=.type (cond k1 "tuple_iterator" "list_iterator"),data:=.fields #[.ref l1,.int 0 0] }
noncomputable abbrev aqr (h:Heap) (k1 k2:Bool) (l1 l2:Addr):Heap:=(anq h k1 k2 l1 l2).push { cls:=.type (cond k2 "tuple_iterator" "list_iterator"),data:=.fields #[.ref l2,.int 0 0] }
noncomputable abbrev aqq (h:Heap) (k1 k2:Bool) (l1 l2:Addr):Heap:=(aqr h k1 k2 l1 l2).push { cls:=.type "tuple", data:=.seq #[.ref h.objs.size,.ref (anq h k1 k2 l1 l2).objs.size] }
noncomputable abbrev aqp (h:Heap) (k1 k2:Bool) (l1 l2:Addr):Heap:=(aqq h k1 k2 l1 l2).push { cls:=.type "tuple", data:=.seq #[.none,.none] }
noncomputable abbrev aj5 (h:Heap) (k1 k2:Bool) (l1 l2:Addr):Heap:=(aqp h k1 k2 l1 l2).push { cls:=.type "zip", data:=.fields #[.none,.bool false,.bool false,.ref (aqr h k1 k2 l1 l2).objs.size,.ref (aqq h k1 k2 l1 l2).objs.size] }
theorem au4 (k1 k2:Bool) (l1 l2:Addr) (x1 x2:Array Value) :
    Meets (Builtin.«zip.__new__» ⟨[.type "zip", .ref l1,.ref l2],[]⟩) (fun _ R s=>Sq1 k1 s.heap l1 x1∧Sq1 k2 s.heap l2 x2∧R (.ok (.ret (.ref (aqp s.heap k1 k2 l1 l2).objs.size))) { s with heap:=aj5 s.heap k1 k2 l1 l2 }) :=
  .of_wp fun prog w A R s h=>by
    obtain ⟨hp,g,d,tk,os⟩:=s; obtain ⟨s1,s2,h⟩:=h
    have sb:=sub_zip
    have r1:Sq1 k1 (Shared.heap ⟨hp,g,d,tk,os⟩) l1 x1:=s1.at fun _ e=>e
    have r2:Sq1 k2 (Shared.heap ⟨anq hp k1 k2 l1 l2,g,d,tk,os⟩) l2 x2:=s2.at fun _ e=>Heap.get?_push_of_some _ (e)
    wp_walk using aru r1,aru r2
    exact ⟨_,rfl,h⟩
theorem ap4 {k1 k2:Bool} {l1 l2:Addr} {x1 x2:Array Value} {Q:Value→Shared→Prop} (s1:Sq1 k1 s.heap l1 x1) (s2:Sq1 k2 s.heap l2 x2)
    (q:∀ h',IsZip h' (s.heap.objs.size+4) (s.heap.objs.size+2) (s.heap.objs.size+3) .none→Row2 h' (s.heap.objs.size+2) (.ref s.heap.objs.size) (.ref (s.heap.objs.size+1))→Row2 h' (s.heap.objs.size+3) .none .none→It1 k1 h' s.heap.objs.size l1 0→It1 k2 h' (s.heap.objs.size+1) l2 0→h'.objs.size=s.heap.objs.size+5→(∀ c o,s.heap.get? c=some o→h'.get? c=some o)→Q (.ref (s.heap.objs.size+4)) { s with heap:=h' }) :
    wpAny (model prog w) A (call (.type "zip") [.ref l1,.ref l2]) Q E s:=by
  refine callType_new F.called_zip (by decide) (atw _ _) (au2 _ _) (fun obj=>awh obj _ _) F.entry_zip_new (au4 k1 k2 l1 l2 x1 x2) ⟨s1,s2,?_⟩
  have e1:(anq s.heap k1 k2 l1 l2).objs.size=s.heap.objs.size+1:=by rw [Heap.size_push]
  have e2:(aqr s.heap k1 k2 l1 l2).objs.size=s.heap.objs.size+2:=by rw [Heap.size_push,e1]
  have eI:(aqq s.heap k1 k2 l1 l2).objs.size=s.heap.objs.size+3:=by rw [Heap.size_push,e2]
  have eO:(aqp s.heap k1 k2 l1 l2).objs.size=s.heap.objs.size+4:=by rw [Heap.size_push,eI]
  have eZ:(aj5 s.heap k1 k2 l1 l2).objs.size=s.heap.objs.size+5:=by rw [Heap.size_push,eO]
  have gZ:(aj5 s.heap k1 k2 l1 l2).get? (aqp s.heap k1 k2 l1 l2).objs.size=some _:=Heap.get?_push_size _ rfl
  have gO:(aj5 s.heap k1 k2 l1 l2).get? (aqq s.heap k1 k2 l1 l2).objs.size=some _:=Heap.get?_push_of_some _ (Heap.get?_push_size _ rfl)
  have gI:(aj5 s.heap k1 k2 l1 l2).get? (aqr s.heap k1 k2 l1 l2).objs.size=some _:=Heap.get?_push_of_some _ (Heap.get?_push_of_some _ (Heap.get?_push_size _ rfl))
  have j1:(aj5 s.heap k1 k2 l1 l2).get? s.heap.objs.size=some _:=Heap.get?_push_of_some _ (Heap.get?_push_of_some _ (Heap.get?_push_of_some _ (Heap.get?_push_of_some _ (Heap.get?_push_size _ rfl))))
  have j2:(aj5 s.heap k1 k2 l1 l2).get? (anq s.heap k1 k2 l1 l2).objs.size=some _:=Heap.get?_push_of_some _ (Heap.get?_push_of_some _ (Heap.get?_push_of_some _ (Heap.get?_push_size _ rfl)))
  show _∧_
  rw [e2,eI,eO] at gZ
  rw [e1,e2] at gI
  rw [eI] at gO
  rw [e1] at j2
  rw [eO]
  exact ⟨⟨_,gZ,rfl⟩,q _ gZ gI gO (aku j1) (aku j2) eZ fun c o x=>Heap.get?_push_of_some _ (Heap.get?_push_of_some _ (Heap.get?_push_of_some _ (Heap.get?_push_of_some _ (Heap.get?_push_of_some _ (x)))))⟩
end
structure Apart3 (z TI TO i1 i2 i3 l1 l2 l3:Addr):Prop where
  nTIz:TI≠z
  nTOz:TO≠z
  nTOTI:TO≠TI
  ni1z:i1≠z
  ni1TI:i1≠TI
  ni1TO:i1≠TO
  ni2z:i2≠z
  ni2TI:i2≠TI
  ni2TO:i2≠TO
  ni2i1:i2≠i1
  ni3z:i3≠z
  ni3TI:i3≠TI
  ni3TO:i3≠TO
  ni3i1:i3≠i1
  ni3i2:i3≠i2
  nl1z:l1≠z
  nl1TO:l1≠TO
  nl1i1:l1≠i1
  nl1i2:l1≠i2
  nl1i3:l1≠i3
  nl2z:l2≠z
  nl2TO:l2≠TO
  nl2i1:l2≠i1
  nl2i2:l2≠i2
  nl2i3:l2≠i3
  nl3z:l3≠z
  nl3TO:l3≠TO
  nl3i1:l3≠i1
  nl3i2:l3≠i2
  nl3i3:l3≠i3
section
variable {prog:Program} {w:World} {A:Around} {E:Value→Shared→Prop} {s:Shared}
end
end En
namespace Mn
open PySem PySem.Spec PyProof.Rows L2 En
noncomputable def SqK (k:Bool) (K:PySem.W.Frag) (H:Hp) (a:Addr) (xs:List V):Prop:=cond k (SqT K H a xs) (SqL K H a xs)
theorem ae3 {xs:List V} {us:List Value} (r:Vals xs us) {i:Nat} {x:V} {u:Value} (h:xs[i]? = some x) (h':us.toArray[i]? = some u):RelV x u:=by
  obtain ⟨u',e,z⟩:=r.get h
  have:us[i]? = some u:=by simpa using h'
  rw [this] at e
  cases e
  exact z
section
variable {X:Cx} {pins:List (Addr×Obj)} {σ:L2.St} {H:Hp} {s:Shared} {h':Heap} {a:Addr} {xs ys:List V} {k:Bool}
theorem ael (I:Inv X pins σ H s) (h:SqK k X.K H a xs):∃ its:List Value,Vals xs its∧Sq1 k s.heap a its.toArray:=by
  cases k with
  | false =>
    obtain ⟨its,r,p,_⟩:=I.list h
    exact ⟨its,r,p.isList⟩
  | true =>
    obtain ⟨its,r,p,_⟩:=I.tuple h
    exact ⟨its,r,p⟩
theorem akv (I:Inv X pins σ H s) (h:SqK k X.K H a xs) (h2:SqK k X.K H a ys):xs=ys:=by
  cases k with
  | false=>exact I.list_inj h h2
  | true=>exact I.tuple_inj h h2
theorem ady {t':Nat} {fp:List Addr} (I:Inv X pins σ H s) (kk:∀ b o,b∉fp→s.heap.get? b=some o→h'.get? b=some o) (hf:∀ b∈fp,FpOk X pins H b):Inv X pins σ H { s with heap:=h',toks:=t' }:=by
  have nit:∀ b u,H b=some u→b∉fp:=fun b u e z=>by rw [(hf b z).1] at e; cases e
  have nL:X.env.locals∉fp:=fun z=>(hf _ z).2.1 rfl
  refine I.step (g':=s.gens) (d':=s.drawn) (ch:=fp) (fun b hb=>⟨(hf b hb).2.2.2.1,(hf b hb).2.1,(hf b hb).2.2.2.2.1,(hf b hb).2.2.2.2.2⟩) (fun b o _ _ hc e _=>kk b o hc e) (fun b o _ _ hc e _=>⟨o.slots,kk b o hc e⟩) (fun _ _ _ _ n=>n)
    (fun b o hc e=>⟨o,kk b o hc e⟩) (fun _ _ e=>e) (fun _ _ _ e=>e) (fun b ps e=>⟨#[],by rw [e]; simp⟩) (fun m hm => ?_) (fun b u e => ?_) I.bare
  · obtain ⟨o,es,ep,ho,r⟩:=hm
    exact ⟨o,es,ep,kk _ o nL ho,r⟩
  · refine (I.hok b u e).stay (fun c v hc q=>kk c v ?_ q) (fun _ q=>q) fun _ _ q=>q
    rcases hc with z | z
    · rw [z]; exact nit b u e
    · exact nit c _ z
theorem ao8 {t':Nat} {fp:List Addr} {vs:List V} {us:List Value} (I:Inv X pins σ H s) (kk:∀ b o,b∉fp→s.heap.get? b=some o→h'.get? b=some o) (hf:∀ b∈fp,FpOk X pins H b) (hb:∀ b∈fp,b < s.heap.objs.size)
    (r:Vals vs us) (hz:vs.length≤sizeLine) (ht:h'.get? s.heap.objs.size=some { cls:=.type "tuple", data:=.seq us.toArray }):Inv X pins σ (upd H s.heap.objs.size (.tup vs)) { s with heap:=h',toks:=t' }:=by
  have I1:=I.laid (h':=s.heap.push { cls:=.type "tuple", data:=.seq us.toArray }) (t':=s.toks) (a:=s.heap.objs.size) (o:=.tup vs) (fun b u e=>Heap.get?_push_of_some _ e) (Nat.le_refl _) ⟨hz,us,r,⟨_,Heap.get?_push_size _ rfl,rfl,rfl,_,rfl⟩⟩
  have k2:∀ b o,b∉fp→(s.heap.push { cls:=.type "tuple", data:=.seq us.toArray }).get? b=some o→h'.get? b=some o:=fun b o hn e=>by
    rcases Heap.get?_push_cases e with ⟨rfl,rfl⟩ | e
    · exact ht
    · exact kk b o hn e
  have f2:∀ b∈fp,FpOk X pins (upd H s.heap.objs.size (.tup vs)) b:=fun b hb'=>by
    obtain ⟨f0,f⟩:=hf b hb'
    exact ⟨by rw [fc (Nat.ne_of_lt (hb b hb'))]; exact f0,f⟩
  have R:=ady (t':=t') (h':=h') (fp:=fp) I1 k2 f2
  exact R
end
theorem atd {k:Bool} {h:Heap} {it a l:Addr} {i:Nat} {xs:Array Value} (x:It1 k h it l i) {k':Bool} (y:Sq1 k' h a xs):a≠it:=fun e=>by
  subst e
  cases k <;> cases k' <;> exact (by
    obtain ⟨o,e1,c1,_⟩:=x
    obtain ⟨o',e2,c2,_⟩:=y
    rw [e1] at e2
    cases e2
    rw [c1] at c2
    simp at c2)
theorem a09 {h:Heap} {a b:Addr} {o:Obj} {n:String} {k:Bool} {xs:Array Value} (e:h.get? b=some o) (c:o.cls=.type n) (hn:n ≠ "list" ∧ n ≠ "tuple") (y:Sq1 k h a xs):a≠b:=fun z=>by
  subst z
  cases k <;> exact (by
    obtain ⟨o',e2,c2,_⟩:=y
    rw [e] at e2
    cases e2
    rw [c] at c2
    simp at c2
    first | exact hn.1 c2 | exact hn.2 c2)
noncomputable def Ite (K:PySem.W.Frag) (k:Bool) (a:Addr):It :=
  ⟨fun i H=>∃ xs x,SqK k K H a xs∧xs[i]? = some x,fun i H x H'=>∃ q v,H q=none∧x=.ref q∧H'=upd H q (.tup [.int i,v])∧∀ xs,SqK k K H a xs→xs[i]? = some v,fun i H=>∃ xs,SqK k K H a xs∧xs.length=i⟩
theorem an2 {P:Program} {w:World} {K:PySem.W.Frag} {elts:List Expr} {n:Nat} {pos:Pos} (k:Bool) (a e it:Addr) (ne:e≠it) :
    Turn P w K (.Tuple elts n pos) (Ite K k a) [e,it] e (fun i h=>(∃ old,IsEnum h e it i old)∧It1 k h it a i) where
  mem:=by simp
  obj:=fun i h st b hb=>by
    have hb:b=e∨b=it:=by simpa using hb
    rcases hb with rfl | rfl
    · obtain ⟨old,z⟩:=st.1
      exact ⟨_,z,fun v z=>by cases z⟩
    · exact st.2.got
  keep:=fun i h h' st kk=>by
    obtain ⟨⟨old,z⟩,y⟩:=st
    exact ⟨⟨old,kk e (by simp) _ z⟩,y.at fun o z=>kk it (by simp) o z⟩
  item:=by
    intro X hP hw hK hc i pins s σ H E I hf st hg
    subst hP hw hK
    obtain ⟨⟨old,he⟩,hi⟩:=st
    obtain ⟨xs,x,hq,hx⟩:=hg
    obtain ⟨its,rv,sq⟩:=ael I hq
    obtain ⟨u,hu,ru⟩:=rv.get hx
    have hlt:i < its.toArray.size:=by simpa using (List.getElem?_eq_some_iff.mp hu).1
    have nai:=atd hi sq
    have nae:a≠e:=a09 he rfl (by decide) sq
    have D:=En.src (prog:=X.prog) (w:=X.w) (A:=X.A.in1) (I.ok.hd hc) k it a nai its.toArray
    refine wpAny_pyNext_enum_itemD D he ⟨hi,sq⟩ hlt ne (by simp [ne,nae.symm]) fun y g tk hy ho hs hT hz hk => ?_
    refine ⟨_,rfl,wpAny_letOwnedTupleGo_enum ho fun g2 he2 sb => ?_⟩
    have ry:=ae3 rv hx hy
    have lte:e < s.heap.objs.size:=Heap.lt_size he
    have lti:it < s.heap.objs.size:=by obtain ⟨o,z,_⟩:=hi.got; exact Heap.lt_size z
    have fr:H s.heap.objs.size=none:=I.hok.fresh (Nat.le_refl _)
    refine ⟨.ref s.heap.objs.size,upd H s.heap.objs.size (.tup [.int i,x]),?_,rfl,⟨_,x,fr,rfl,rfl,fun ys hy=>by rw [akv I hy hq]; exact hx⟩,⟨⟨_,he2⟩,hs.1.at fun o z=>sb.extBut _ _ ne.symm z⟩,fun b hb => ?_⟩
    · refine ao8 (fp:=[e,it]) (us:=[.int i tk,y]) I (fun b o hn z => ?_) hf (fun b hb => ?_) (.cons ⟨tk,rfl⟩ (.cons ry .nil)) (by rw [sizeLine_eq]; simp) (sb.extBut _ _ (Nat.ne_of_gt lte) hT)
      · have h1:b≠e:=fun z=>hn (by simp [z])
        have h2:b≠it:=fun z=>hn (by simp [z])
        exact sb.extBut _ _ h1 (hk b o h1 h2 z)
      · have hb:b=e∨b=it:=by simpa using hb
        rcases hb with rfl | rfl
        · exact lte
        · exact lti
    · have hb':b=e∨b=it:=by simpa using hb
      rw [fc (by rcases hb' with rfl | rfl; exact Nat.ne_of_lt lte; exact Nat.ne_of_lt lti)]
      exact (hf b hb).1
  done:=by
    intro X hP hw hK hc i pins s σ H E I hf st hg
    subst hP hw hK
    obtain ⟨⟨old,he⟩,hi⟩:=st
    obtain ⟨xs,hq,hx⟩:=hg
    obtain ⟨its,rv,sq⟩:=ael I hq
    have hl:i=its.toArray.size:=by have:=rv.length; simp; omega
    subst hl
    have D:=En.src (prog:=X.prog) (w:=X.w) (A:=X.A.in1) (I.ok.hd hc) k it a (atd hi sq) its.toArray
    refine wpAny_pyNext_enum_endD D he ⟨hi,sq⟩ fun g eb=>⟨rfl,ady (t':=s.toks) (fp:=[e,it]) I (fun b o hn z=>eb b o (fun z=>hn (by simp [z])) z) hf⟩
  self:=fun _ _ _ _ _ st h=>let ⟨_,z⟩:=st.1; wpAny_pyIter_enum z h
theorem azf:bootBuiltins "zip" = some (.type "zip"):=by decide +kernel
section
variable {X:Cx}
noncomputable def a2u (K:PySem.W.Frag) (ta:TA):TI:=fun σ H R=>ta σ H fun vs H1=>∃ a k,vs=[.ref a]∧(∃ xs,SqK k K H1 a xs)∧R (Ite K k a) H1
theorem aui {a:Expr} {ta:TA} {p pos:Pos} {elts:List Expr} {n:Nat} {tp:Pos} (hg:Gl X "enumerate") (hm:X.mg "enumerate" = none) (ha:PA X [a] ta) (hs:starEach [a] X.env=[(false,eval a X.env)]:=by rfl) :
    PI X (.Tuple elts n tp) (.Call (.Name "enumerate" p) [a] [] pos) (a2u X.K ta):=by
  intro pins s σ H R I h
  refine Call_ (agu I hg hm aju (PyProof.Rows.callWith_type1 (thn (ha pos pins s σ H _ I h) fun us s1 ⟨vs,H1,I1,r1,q1⟩ => ?_) hs rfl))
  obtain ⟨b,k,rfl,⟨xs,hq⟩,q⟩:=q1
  obtain ⟨u,rfl,ru⟩:=vals1 r1
  cases ru
  obtain ⟨its,rv,sq⟩:=ael I1 hq
  refine ap8 sq fun g he hi hz kk=>wpAny_pyIter_enum he ?_
  have I2:Inv X pins σ H1 { s1 with heap:=g }:=I1.kept (t':=s1.toks) kk
  refine ⟨_,[s1.heap.objs.size+1,s1.heap.objs.size],_,_,H1,rfl,I2,an2 k b _ _ (Nat.succ_ne_self _),⟨⟨_,he⟩,hi⟩,fun c hc => ?_,q⟩
  have hc:c=s1.heap.objs.size+1∨c=s1.heap.objs.size:=by simpa using hc
  rcases hc with rfl | rfl
  · exact I1.fpOk (Nat.le_succ _) (I1.hok.fresh (Nat.le_succ _))
  · exact I1.fpOk (Nat.le_refl _) (I1.hok.fresh (Nat.le_refl _))
end
end Mn
namespace En
open PySem PySem.Builtin
theorem as8 {prog:Program} {w:World} {A:Around} {E:Value→Shared→Prop} {s:Shared} {z TI TO:Addr} {f0:Value} {Q:Option Value→Shared→Prop} (hz:IsZip s.heap z TI TO f0)
    (h:wpAny (model prog w) A.in1 (Builtin.«zip.__next__» ⟨[.ref z],[]⟩) (fun fin s'=>∃ v,fin=.done (.ret v)∧Q (some v) s') (fun e s'=>∃ a o,e=.ref a∧s'.heap.get? a=some o∧o.cls=.type "StopIteration" ∧ Q none s') s) :
    wpAny (model prog w) A (pyNext (.ref z)) Q E s:=by
  have tz:s.TypeIs (.ref z) "zip" := ⟨_,hz,rfl⟩
  unfold pyNext
  refine wpAny_bind (wpAny_attempt (wpAny_callSpecial?_slot (name:=Str.ofString "__next__") tz F.slot_zip_next (wpAny_call_entry F.slot_zip_next tz F.entry_zip_next (wpAny_mono h (fun fin s' ⟨v,e,q⟩=>⟨v,e,wpAny_pure q⟩) fun e s' ⟨a,o,e1,e2,e3,q⟩ => ?_) (F.args_zip_next_1 _))))
  subst e1
  exact wpAny_bind (wpAny_isInstance (T := "StopIteration") (b:=true) ⟨o,e2,e3⟩ isSubtype_stop (wpAny_pure q))
end En
namespace Mn
open PySem PySem.Spec PyProof.Rows L2 En
noncomputable def Itz2 (K:PySem.W.Frag) (k1 k2:Bool) (a1 a2:Addr):It :=
  ⟨fun i H=>∃ x1 x2 v1 v2,(SqK k1 K H a1 x1∧x1[i]? = some v1)∧(SqK k2 K H a2 x2∧x2[i]? = some v2),fun i H x H'=>∃ q v1 v2,H q=none∧x=.ref q∧H'=upd H q (.tup [v1,v2])∧(∀ xs,SqK k1 K H a1 xs→xs[i]? = some v1)∧(∀ xs,SqK k2 K H a2 xs→xs[i]? = some v2),fun i H=>∃ xs,SqK k1 K H a1 xs∧xs.length=i⟩
theorem an0 {P:Program} {w:World} {K:PySem.W.Frag} {elts:List Expr} {n:Nat} {pos:Pos} (k1 k2:Bool) (a1 a2 z TI TO i1 i2:Addr) (D:Apart2 z TI TO i1 i2 a1 a2) :
    Turn P w K (.Tuple elts n pos) (Itz2 K k1 k2 a1 a2) [z,TI,TO,i1,i2] z (fun i h=>IsZip h z TI TO .none∧Row2 h TI (.ref i1) (.ref i2)∧(∃ v1 v2,Row2 h TO v1 v2)∧It1 k1 h i1 a1 i∧It1 k2 h i2 a2 i) where
  mem:=by simp
  obj:=fun i h ⟨hz,hI,⟨v1,v2,hO⟩,h1,h2⟩ b hb=>by
    have hb:b=z∨b=TI∨b=TO∨b=i1∨b=i2:=by simpa using hb
    rcases hb with rfl | rfl | rfl | rfl | rfl
    · exact ⟨_,hz,fun v z=>by cases z⟩
    · exact ⟨_,hI,fun v z=>by cases z⟩
    · exact ⟨_,hO,fun v z=>by cases z⟩
    · exact h1.got
    · exact h2.got
  keep:=fun i h h' ⟨hz,hI,⟨v1,v2,hO⟩,h1,h2⟩ kk=>⟨kk z (by simp) _ hz,kk TI (by simp) _ hI,⟨v1,v2,kk TO (by simp) _ hO⟩,h1.at fun o e=>kk i1 (by simp) o e,h2.at fun o e=>kk i2 (by simp) o e⟩
  item:=by
    intro X hP hw hK hc i pins s σ H E I hf st hg
    subst hP hw hK
    obtain ⟨hz,hI,⟨o1,o2,hO⟩,h1,h2⟩:=st
    obtain ⟨x1,x2,v1,v2,⟨hq1,hx1⟩,⟨hq2,hx2⟩⟩:=hg
    obtain ⟨t1,r1,s1⟩:=ael I hq1
    obtain ⟨u1,hu1,_⟩:=r1.get hx1
    have b1:i < t1.toArray.size:=by simpa using (List.getElem?_eq_some_iff.mp hu1).1
    obtain ⟨t2,r2,s2⟩:=ael I hq2
    obtain ⟨u2,hu2,_⟩:=r2.get hx2
    have b2:i < t2.toArray.size:=by simpa using (List.getElem?_eq_some_iff.mp hu2).1
    refine as8 hz (anp (I.ok.hd hc) D hz hI hO h1 s1 h2 s2 b1 b2 fun g tk y1 y2 p1 p2 z2 O2 j1 j2 T2 hsz hk => ?_)
    refine ⟨_,rfl,wpAny_letOwnedTupleGo_zip z2 fun g2 he2 sb => ?_⟩
    have fr:H s.heap.objs.size=none:=I.hok.fresh (Nat.le_refl _)
    have lt:∀ b∈[z,TI,TO,i1,i2],b < s.heap.objs.size:=fun b hb=>by
      have hb:b=z∨b=TI∨b=TO∨b=i1∨b=i2:=by simpa using hb
      rcases hb with rfl | rfl | rfl | rfl | rfl
      · exact Heap.lt_size hz
      · exact Heap.lt_size hI
      · exact Heap.lt_size hO
      · obtain ⟨o,e,_⟩:=h1.got; exact Heap.lt_size e
      · obtain ⟨o,e,_⟩:=h2.got; exact Heap.lt_size e
    have up:∀ b o,b∉[z,TI,TO,i1,i2]→s.heap.get? b=some o→g2.get? b=some o:=fun b o hn e=>sb.extBut _ _ (fun x=>hn (by simp [x])) (hk b o (fun x=>hn (by simp [x])) (fun x=>hn (by simp [x])) (fun x=>hn (by simp [x])) (fun x=>hn (by simp [x])) e)
    have TI2:g2.get? TI=_:=sb.extBut _ _ D.nTIz (hk TI _ D.nTIz D.nTOTI.symm D.ni1TI.symm D.ni2TI.symm hI)
    refine ⟨.ref s.heap.objs.size,upd H s.heap.objs.size (.tup [v1,v2]),?_,rfl,⟨_,v1,v2,fr,rfl,rfl,fun ys hy=>by rw [akv I hy hq1]; exact hx1,fun ys hy=>by rw [akv I hy hq2]; exact hx2⟩,⟨he2,TI2,⟨y1,y2,sb.extBut _ _ D.nTOz O2⟩,(j1.at fun o e=>sb.extBut _ _ D.ni1z e),(j2.at fun o e=>sb.extBut _ _ D.ni2z e)⟩,fun b hb => ?_⟩
    · exact ao8 (fp:=[z,TI,TO,i1,i2]) (us:=[y1,y2]) I up hf lt (.cons (ae3 r1 hx1 p1) (.cons (ae3 r2 hx2 p2) .nil)) (by rw [sizeLine_eq]; simp) (sb.extBut _ _ (Nat.ne_of_gt (lt z (by simp))) T2)
    · rw [fc (Nat.ne_of_lt (lt b hb))]
      exact (hf b hb).1
  done:=by
    intro X hP hw hK hc i pins s σ H E I hf st hg
    subst hP hw hK
    obtain ⟨hz,hI,⟨o1,o2,hO⟩,h1,h2⟩:=st
    obtain ⟨xs,hq,hx⟩:=hg
    obtain ⟨its,rv,sq⟩:=ael I hq
    have hl:i=its.toArray.size:=by have:=rv.length; simp; omega
    subst hl
    refine as8 hz (aqo (I.ok.hd hc) D hz hI hO h1 sq fun g e kk ⟨o,he,ce⟩=>⟨e,o,rfl,he,ce,rfl,ady (t':=s.toks) (fp:=[z,TI,TO,i1,i2]) I (fun b o hn z=>kk b o (fun z=>hn (by simp [z])) (fun z=>hn (by simp [z])) z) hf⟩)
  self:=fun _ _ _ _ _ st h=>wpAny_pyIter_zip st.1 h
theorem apart2 {N l1 l2:Nat} (h1:l1 < N) (h2:l2 < N):Apart2 (N+4) (N+2) (N+3) N (N+1) l1 l2:=by
  constructor <;> (intro e; have e:(_:Nat)=_:=e; omega)
section
variable {X:Cx}
noncomputable def a2r (K:PySem.W.Frag) (ta:TA):TI:=fun σ H R=>ta σ H fun vs H1=>∃ a1 a2 k1 k2,vs=[.ref a1,.ref a2]∧(∃ xs,SqK k1 K H1 a1 xs)∧(∃ xs,SqK k2 K H1 a2 xs)∧R (Itz2 K k1 k2 a1 a2) H1
theorem auh {e1 e2:Expr} {ta:TA} {p pos:Pos} {elts:List Expr} {n:Nat} {tp:Pos} (hg:Gl X "zip") (hm:X.mg "zip" = none) (ha:PA X [e1,e2] ta) (hs:starEach [e1,e2] X.env=[(false,eval e1 X.env),(false,eval e2 X.env)]:=by rfl) (hs2:starEach [e2] X.env=[(false,eval e2 X.env)]:=by rfl) :
    PI X (.Tuple elts n tp) (.Call (.Name "zip" p) [e1,e2] [] pos) (a2r X.K ta):=by
  intro pins s σ H R I h
  refine Call_ (agu I hg hm azf (PyProof.Rows.callWith_type1 (thn (ha pos pins s σ H _ I h) fun us s1 ⟨vs,H1,I1,r1,q1⟩ => ?_) (by rw [hs,hs2]) (by rw [hs2]; rfl)))
  obtain ⟨a1,a2,k1,k2,rfl,⟨x1,hq1⟩,⟨x2,hq2⟩,q⟩:=q1
  obtain ⟨u1,u2,rfl,ru1,ru2⟩:=vals2 r1
  cases ru1
  cases ru2
  obtain ⟨t1,r1',sq1⟩:=ael I1 hq1
  have b1:a1 < s1.heap.objs.size:=by obtain ⟨o,e⟩:=sq1.got; exact Heap.lt_size e
  obtain ⟨t2,r2',sq2⟩:=ael I1 hq2
  have b2:a2 < s1.heap.objs.size:=by obtain ⟨o,e⟩:=sq2.got; exact Heap.lt_size e
  refine ap4 sq1 sq2 fun g hz hI hO h1 h2 hsz kk=>wpAny_pyIter_zip hz ?_
  have I2:Inv X pins σ H1 { s1 with heap:=g }:=I1.kept (t':=s1.toks) kk
  refine ⟨_,[s1.heap.objs.size+4,s1.heap.objs.size+2,s1.heap.objs.size+3,s1.heap.objs.size,s1.heap.objs.size+1],_,_,H1,rfl,I2,an0 k1 k2 a1 a2 _ _ _ _ _ (apart2 b1 b2),⟨hz,hI,⟨_,_,hO⟩,h1,h2⟩,fun c hc => ?_,q⟩
  have hc:s1.heap.objs.size≤c:=by
    simp only [List.mem_cons,List.not_mem_nil,or_false] at hc
    rcases hc with rfl | rfl | rfl | rfl | rfl <;> first | exact Nat.le_refl _ | exact Nat.le_add_right _ _
  exact I1.fpOk hc (I1.hok.fresh hc)
end
section
variable {X:Cx}
end
end Mn
namespace Dn
open PySem PySem.Spec PyProof.Rows L2 Mn
section
variable {K:PySem.W.Frag} {X:Cx} {e a b c:Expr} {es elts:List Expr} {pos p tp:Pos} {n:Nat}
theorem aoc {F:Hp} {d:D} {l:List D} {v:V} (e:itemsD d=some l) (h:Is K F d v):∃ a k vs,v=.ref a∧IsL K F l vs∧∀ H,Same F H→SqK k K H a vs:=by
  cases h with
  | tup e1 h1=>cases e; exact ⟨_,true,_,rfl,h1,fun H g=>SqT.of (g _ _ e1)⟩
  | lst e1 h1=>cases e; exact ⟨_,false,_,rfl,h1,fun H g=>SqL.of (g _ _ e1)⟩
  | kst e1 h1=>cases e; exact ⟨_,false,_,rfl,h1,fun H g=>L2.Same.seq g e1⟩
  | _=>cases e
noncomputable def ad7 (l:List D):List D:=l.mapIdx fun i d=>.tup [.int (i:Nat),d]
noncomputable def aph:List D→Option (List D)
  | [d]=>(itemsD d).map ad7
  | _=>none
theorem abl (l:List D):(ad7 l).length=l.length:=by unfold ad7; simp
theorem adh {l:List D} {i:Nat} {d:D} (h:(ad7 l)[i]? = some d):∃ d0,l[i]? = some d0∧d=.tup [.int (i:Nat),d0]:=by
  unfold ad7 at h
  rw [List.getElem?_mapIdx] at h
  cases e:l[i]? with
  | none=>rw [e] at h; cases h
  | some d0=>rw [e] at h; cases h; exact ⟨d0,rfl,rfl⟩
theorem arz {F:Hp} {k:Bool} {a:Addr} {l:List D} {vs:List V} (il:IsL K F l vs) (hs:∀ H,Same F H→SqK k K H a vs):ItD K (Ite K k a) (ad7 l) F where
  go:=fun i H s hi=>by
    have hi:i < vs.length:=by rw [←il.length,←abl]; exact hi
    exact ⟨vs,_,hs H s,List.getElem?_eq_getElem hi⟩
  yld:=fun i H x H' d s y hd=>by
    obtain ⟨d0,h0,rfl⟩:=adh hd
    obtain ⟨q,v,hq,rfl,rfl,hv⟩:=y
    obtain ⟨v',e1,i1⟩:=il.get h0
    have:=hv _ (hs H s)
    rw [e1] at this
    cases this
    exact .inr ⟨q,_,_,hq,rfl,rfl,rfl,.cons (.int _) (.cons i1 .nil)⟩
  stop:=fun H s=>⟨vs,hs H s,by rw [abl,il.length]⟩
theorem akt {m:M (List D)} (hg:Gl X "enumerate") (hm:X.mg "enumerate" = none) (h:ED K X [a] m) (hs:starEach [a] X.env=[(false,eval a X.env)]:=by rfl):IT K X (.Tuple elts n tp) (.Call (.Name "enumerate" p) [a] [] pos) (mGet aph m):=IT.mk fun hk=>by
  intro pins s σ H R I ⟨tg,F,ρ,l,ρ',G,em,q⟩
  obtain ⟨ds,ρ1,e1,em⟩:=bh em
  obtain ⟨e2,rfl⟩:=jc em
  have h:=h hk
  subst hk
  refine aui hg hm h hs pins s σ H R I ⟨tg,F,ρ,ds,_,G,e1,fun vs H' F' G' x r => ?_⟩
  match ds,e2 with
  | [d],e2 =>
    have e2:(itemsD d).map ad7=some l:=e2
    cases e3:itemsD d with
    | none=>rw [e3] at e2; cases e2
    | some l0 =>
      rw [e3] at e2
      cases e2
      cases r with
      | cons h1 t =>
        cases t
        obtain ⟨b,k,ws,rfl,il,hq⟩:=aoc e3 h1
        exact ⟨b,k,rfl,⟨ws,hq _ G'.sub⟩,q _ H' F' G' x (arz il hq)⟩
noncomputable def aan (l1 l2:List D):List D:=List.zipWith (fun x y=>.tup [x,y]) l1 l2
noncomputable def awp (l1 l2 l3:List D):List D:=List.zipWith (fun x (p:D×D)=>.tup [x,p.1,p.2]) l1 (List.zip l2 l3)
noncomputable def akx:List D→Option (List D)
  | [a,b]=>(itemsD a).bind fun l1=>(itemsD b).bind fun l2=>if l1.length≤l2.length then some (aan l1 l2) else none
  | _=>none
noncomputable def a2v:List D→Option (List D)
  | [a,b,c]=>(itemsD a).bind fun l1=>(itemsD b).bind fun l2=>(itemsD c).bind fun l3=>if l1.length≤l2.length∧l1.length≤l3.length then some (awp l1 l2 l3) else none
  | _=>none
theorem aa6 {l1 l2:List D} {i:Nat} {d:D} (h:(aan l1 l2)[i]? = some d):∃ d1 d2,l1[i]? = some d1∧l2[i]? = some d2∧d=.tup [d1,d2]:=by
  unfold aan at h
  rw [List.getElem?_zipWith] at h
  cases e1:l1[i]? with
  | none=>rw [e1] at h; cases h
  | some d1 =>
    cases e2:l2[i]? with
    | none=>rw [e1,e2] at h; cases h
    | some d2=>rw [e1,e2] at h; cases h; exact ⟨_,_,rfl,rfl,rfl⟩
theorem arw {F:Hp} {k1 k2:Bool} {a1 a2:Addr} {l1 l2:List D} {x1 x2:List V} (h:l1.length≤l2.length) (i1:IsL K F l1 x1) (i2:IsL K F l2 x2) (s1:∀ H,Same F H→SqK k1 K H a1 x1) (s2:∀ H,Same F H→SqK k2 K H a2 x2):ItD K (Itz2 K k1 k2 a1 a2) (aan l1 l2) F where
  go:=fun i H s hi=>by
    have z1:=i1.length
    have z2:=i2.length
    have hi:i < l1.length:=by unfold aan at hi; simp at hi; omega
    exact ⟨x1,x2,_,_,⟨s1 H s,List.getElem?_eq_getElem (by omega)⟩,s2 H s,List.getElem?_eq_getElem (by omega)⟩
  yld:=fun i H x H' d s y hd=>by
    obtain ⟨d1,d2,h1,h2,rfl⟩:=aa6 hd
    obtain ⟨q,v1,v2,hq,rfl,rfl,y1,y2⟩:=y
    obtain ⟨w1,e1,j1⟩:=i1.get h1
    obtain ⟨w2,e2,j2⟩:=i2.get h2
    have z1:=y1 _ (s1 H s)
    have z2:=y2 _ (s2 H s)
    rw [e1] at z1
    rw [e2] at z2
    cases z1
    cases z2
    exact .inr ⟨q,_,_,hq,rfl,rfl,rfl,.cons j1 (.cons j2 .nil)⟩
  stop:=fun H s=>⟨x1,s1 H s,by unfold aan; rw [List.length_zipWith,←i1.length]; omega⟩
theorem afo {m:M (List D)} (hg:Gl X "zip") (hm:X.mg "zip" = none) (h:ED K X [a,b] m) (hs:starEach [a,b] X.env=[(false,eval a X.env),(false,eval b X.env)]:=by rfl) (hs2:starEach [b] X.env=[(false,eval b X.env)]:=by rfl) :
    IT K X (.Tuple elts n tp) (.Call (.Name "zip" p) [a,b] [] pos) (mGet akx m):=IT.mk fun hk=>by
  intro pins s σ H R I ⟨tg,F,ρ,l,ρ',G,em,q⟩
  obtain ⟨ds,ρ1,e1,em⟩:=bh em
  obtain ⟨e2,rfl⟩:=jc em
  have h:=h hk
  subst hk
  refine auh hg hm h hs hs2 pins s σ H R I ⟨tg,F,ρ,ds,_,G,e1,fun vs H' F' G' x r => ?_⟩
  match ds,e2 with
  | [d,d'],e2 =>
    have e2:((itemsD d).bind fun l1=>(itemsD d').bind fun l2=>if l1.length≤l2.length then some (aan l1 l2) else none)=some l:=e2
    cases e3:itemsD d with
    | none=>rw [e3] at e2; cases e2
    | some l1 =>
      cases e4:itemsD d' with
      | none=>rw [e3,e4] at e2; cases e2
      | some l2 =>
        rw [e3,e4] at e2
        have e2:(if l1.length≤l2.length then some (aan l1 l2) else none)=some l:=e2
        split at e2
        · rename_i hle
          cases e2
          cases r with
          | cons h1 t =>
            cases t with
            | cons h2 t =>
              cases t
              obtain ⟨b1,k1,w1,rfl,il1,hq1⟩:=aoc e3 h1
              obtain ⟨b2,k2,w2,rfl,il2,hq2⟩:=aoc e4 h2
              exact ⟨b1,b2,k1,k2,rfl,⟨w1,hq1 _ G'.sub⟩,⟨w2,hq2 _ G'.sub⟩,q _ H' F' G' x (arw hle il1 il2 hq1 hq2)⟩
        · cases e2
end
end Dn
namespace Mn
open PySem PySem.Spec PyProof.Rows L2
theorem ar7 {X:Cx}:PGet X (rIxL X.K):=by
  intro pins s σ H x y v u Q I rx ry h
  obtain ⟨p,xs,i,z,rfl,rfl,hq,he,q⟩:=h
  cases rx
  obtain ⟨t,rfl⟩:=ry
  obtain ⟨its,r,pl,hz⟩:=I.list hq
  obtain ⟨j,h1,h2,h3,h4,h5⟩:=alc he
  obtain ⟨w,ew,rw'⟩:=r.get h2
  have hl:=r.length
  have hn:=ai7
  have fin:EP X pins σ Q w s:=⟨z,H,I,rw',q⟩
  by_cases h0:0≤i
  · have hj:i.toNat=j:=by
      rw [seqIndex_of h0 h5] at h1
      exact Option.some.inj h1
    exact wpAny_getItem_list pl.isList h0 (by omega) (by rw [hj]; simpa using ew) fin
  · have hj:(i+(its.toArray.size:Int)).toNat=j:=by
      rw [seqIndex_neg (by omega) h4] at h1
      have:=Option.some.inj h1
      rw [List.size_toArray,←hl]
      exact this
    exact wpAny_getItem_list_neg pl.isList (by omega) (by simp only [List.size_toArray]; omega) (by omega) (by rw [hj]; simpa using ew) fin
end Mn
namespace Dn
open PySem PySem.Spec PyProof.Rows L2 Mn
section
variable {K:PySem.W.Frag} {X:Cx} {e a b:Expr} {pos p:Pos}
noncomputable def ah9 (f:Int→Int→Int) (i:Nat) (mi m:M D):Sd:=dM (mOwn i) fun _=>dM mi fun k=>dM (mOwn i) fun l=>dM (lift ((asI k).bind (ixN l.length))) fun j=>dM (lift ((l[j]?).bind asI)) fun x=>dM m fun y=>dM (lift (asI y)) fun y=>dM (mOwn i) fun l2=>dM (lift (if l2.length=l.length then some () else none)) fun _=>dM (ac7 i (l2.set j (.int (f x y)))) fun _=>dNx
theorem ayn {n:Nat} {k:Int} {j:Nat} {α:Type} {l:List α} (hn:l.length=n) (h:ixN n k=some j):atI l k=l[j]? := by
  unfold atI
  rw [hn,h]
  rfl
theorem aif {f:Int→Int→Int} {op:Operator} {i:Nat} {mi m:M D} (ho:PE X a (tVar i)) (hi:EV K X b mi) (h:EV K X e m) (hp:PIp X op (ipI f))
    (ha:∀ ov iv new,augStore b ov iv new=(do holding [new,ov,iv] (setItem ov iv new); release [new,ov,iv] []; pure .next):=by intros; rfl):SV K X (.AugAssign (.Subscript a b p) op e pos) (ah9 f i mi m):=SV.mk fun hk=>by
  subst hk
  refine PS.imp (aub ho (hi rfl) ar7 (h rfl) hp set_list ha) fun E σ H ⟨tg,F,ρ,fl,ρ',G,em,q⟩ =>
    yw em q fun l0 ρ0 e0 em=>yw em q fun k ρ1 e1 em=>yw em q fun l ρ2 e2 em=>yw em q fun j ρ3 e3 em=>yw em q fun x ρ4 e4 em=>yw em q fun y ρ5 e5 em=>yw em q fun y' ρ6 e6 em=>yw em q fun l2 ρ7 e7 em=>yw em q fun u ρ8 e8 em=>yw em q fun u2 ρ9 e9 em => ?_
  cases em
  obtain ⟨rfl,t0,a0,xs0,es0,hv,hh0,hl0⟩:=ac0 G e0
  refine ⟨_,hv,tg,F,_,k,ρ1,G,e1,fun w H1 F1 G1 x1 r1 => ?_⟩
  obtain ⟨rfl,t1,a1,xs1,es1,hv1,hh1,hl1⟩:=ac0 G1 e2
  rw [hv] at hv1
  cases hv1
  obtain ⟨g3,rfl⟩:=jc e3
  obtain ⟨g4,rfl⟩:=jc e4
  cases ek:asI k with
  | none=>rw [ek] at g3; cases g3
  | some n =>
    rw [ek] at g3
    obtain rfl:=amm ek
    cases r1
    have e3:ixN l.length n=some j:=g3
    cases ej:l[j]? with
    | none=>rw [ej] at g4; cases g4
    | some d =>
      rw [ej] at g4
      have h4:asI d=some x:=g4
      obtain rfl:=amm h4
      obtain ⟨v,ev,iv⟩:=hl1.get ej
      cases iv
      refine ⟨_,xs1,n,.int x,rfl,rfl,SqL.of hh1,by rw [ayn hl1.length.symm e3]; exact ev,?_⟩
      refine ⟨tg,F1,_,y,ρ5,G1,e5,fun w2 H2 F2 G2 x2 r2 => ?_⟩
      obtain ⟨g6,rfl⟩:=jc e6
      obtain rfl:=amm g6
      cases r2
      refine ⟨x,y',rfl,rfl,?_⟩
      obtain ⟨rfl,t2,a2,xs2,es2,hv2,hh2,hl2⟩:=ac0 G2 e7
      rw [hv] at hv2
      cases hv2
      obtain ⟨g8,rfl⟩:=jc e8
      split at g8
      · rename_i hlen
        obtain ⟨G3,x3⟩:=ahx G2 e9 hv (hl2.set (Is.int (f x y')) j)
        exact ⟨_,xs2,n,j,rfl,rfl,hh2,by rw [←hl2.length,hlen]; exact e3,q _ _ F2 G3 ((x1.trans x2).trans x3)⟩
      · cases g8
end
end Dn
namespace Dn
open PySem PySem.Spec PyProof.Rows L2 Mn
section
variable {K:PySem.W.Frag} {X:Cx} {a:Expr} {pos p p2 pos2:Pos}
theorem ap5:aam X (.type "range") (fun xs H Q=>∃ b,xs=[.int b]∧∀ q,H q=none→Q (.ref q) (upd H q (.rng 0 b))):=by
  intro pins s σ H xs us Q I r h
  obtain ⟨b,rfl,q⟩:=h
  obtain ⟨u,rfl,ru⟩:=vals1 r
  obtain ⟨t,rfl⟩:=ru
  exact call_range_1 ⟨.ref s.heap.objs.size,_,I.laid (t':=s.toks+1+1) (o:=.rng 0 b) (fun b ob q=>Heap.get?_push_of_some _ q) (Nat.le_refl _) ⟨_,_,_,Heap.get?_push_size _ rfl⟩,rfl,q _ (I.hok.fresh (Nat.le_refl _))⟩
theorem aqv {acc:Array Value} {n:Nat} (h:ItemsOf (fun i v=>∃ t,v=.int (0+i*1) t) acc n):Vals (ups 0 n) acc.toList:=by
  have key:∀ (l:List Value) (k:Nat),(∀ j v,l[j]? = some v→∃ t,v=Value.int ((k+j:Nat):Int) t)→Vals ((List.range' k l.length).map fun (i:Nat)=>V.int ((i:Nat):Int)) l:=by
    intro l
    induction l with
    | nil=>intro k _; exact .nil
    | cons x r ih =>
      intro k hk
      rw [List.length_cons,List.range'_succ,List.map_cons]
      refine .cons ?_ (ih (k+1) fun j v hj => ?_)
      · obtain ⟨t,rfl⟩:=hk 0 x rfl
        exact ⟨t,by simp⟩
      · obtain ⟨t,rfl⟩:=hk (j+1) v (by simpa using hj)
        exact ⟨t,by rw [show k+(j+1)=k+1+j by omega]⟩
  have e:=key acc.toList 0 fun j v hj=>by
    obtain ⟨t,rfl⟩:=h.2 j v (by simpa using hj)
    exact ⟨t,by simp⟩
  have hs:acc.toList.length=n:=by simpa using h.1
  rw [hs] at e
  unfold ups
  rw [List.range_eq_range']
  simpa using e
theorem ajp (hc:X.calm=true):aam X (.type "list") (fun xs H Q=>∃ p b,xs=[.ref p]∧H p=some (.rng 0 b)∧b.natAbs < 1000000∧∀ q,H q=none→Q (.ref q) (upd H q (.lst (ups 0 b.toNat)))):=by
  intro pins s σ H xs us Q I r h
  obtain ⟨p,b,rfl,hp,hb,q⟩:=h
  obtain ⟨u,rfl,ru⟩:=vals1 r
  cases ru
  obtain ⟨t,u,v,e⟩:=I.hok p _ hp
  have e62:(2:Int) ^ 62=4611686018427387904:=by decide
  have e24:(2:Nat) ^ 24=16777216:=by decide
  refine call_list_range (I.ok.hd hc) e (small_one (by omega) (by omega) (by omega) (by omega)) (n:=b.toNat) (by rw [rangeSize_one]; split <;> omega) (by omega) fun h' tk acc c' kk e' it => ?_
  refine ⟨.ref s.heap.objs.size,_,?_,rfl,q _ (I.hok.fresh (Nat.le_refl _))⟩
  exact I.laid kk (Nat.le_refl _) ⟨by rw [ag7,sizeLine_eq]; omega,acc.toList,c',aqv it,by simpa using e'⟩
noncomputable def aby:List D→Option Rv
  | [.int j]=>if j.natAbs < 1000000 then some (.fr (jj 0 j.toNat)) else none
  | _=>none
noncomputable def abv (m:M (List D)):M Rv:=m.bind fun ds=>lift (aby ds)
@[simp] theorem arl (ρ:Ro) (m:M (List D)):abv m ρ=(m.bind fun ds=>lift (aby ds)) ρ:=rfl
@[simp] theorem aqn (j:Int):aby [.int j]=if j.natAbs < 1000000 then some (.fr (jj 0 j.toNat)) else none:=rfl
theorem aet {m:M (List D)} (hc:X.calm=true) (hg1:Gl X "list") (hm1:X.mg "list" = none) (hg2:Gl X "range") (hm2:X.mg "range" = none) (h:ED K X [a] m)
    (he:starEach [a] X.env=[(false,eval a X.env)]:=by rfl) (he2:starEach [.Call (.Name "range" p2) [a] [] pos2] X.env=[(false,eval (.Call (.Name "range" p2) [a] [] pos2) X.env)]:=by rfl) :
    ER K X (.Call (.Name "list" p) [.Call (.Name "range" p2) [a] [] pos2] [] pos) (abv m):=ER.mk fun hk=>PE.imp (acz (ajp hc) hg1 hm1 acr (aap (acz ap5 hg2 hm2 asw (h hk) (by decide) (by decide) he rfl) agp he2) (by decide) (by decide) he2 rfl) fun σ H Q hq0=>by
  obtain ⟨tg,F,ρ,r,ρ',G,em,q⟩:=hq0
  obtain ⟨ds,ρ1,e1,em⟩:=bh em
  obtain ⟨e2,rfl⟩:=jc em
  refine ⟨tg,F,ρ,ds,_,G,e1,fun vs H1 F1 G1 x1 bl => ?_⟩
  unfold aby at e2
  split at e2
  · rename_i j
    split at e2
    · rename_i hb
      cases e2
      cases bl with
      | cons hd t =>
        cases t
        cases hd
        refine ⟨j,rfl,fun a hna => ?_⟩
        refine ⟨a,j,rfl,jh,hb,fun b hnb => ?_⟩
        have G2:=G1.fresh hna (.rng 0 j)
        have X2:=G1.freshX hna (.rng 0 j)
        exact Res.lst G2 (fun v H3 F3 G3 x3 rr=>q v H3 F3 G3 ((x1.trans X2).trans x3) (nq (x1.trans X2) rr)) (alp 0 _) hnb
    · cases e2
  · cases e2
end
end Dn
namespace Mn
open PySem PySem.Spec PyProof.Rows L2
set_option maxRecDepth 100000
section
variable {prog:Program} {w:World} {A:Around} {E:Value→Shared→Prop} {s:Shared}
end
end Mn
namespace Dn
open PySem PySem.Spec PyProof.Rows L2 Mn
section
variable {K:PySem.W.Frag} {X:Cx} {a:Expr} {pos p p2 pos2:Pos}
noncomputable def af1:List D→Option Rv
  | [.int j]=>if j.natAbs < 1000000 then some (.v (.tup (jj 0 j.toNat))) else none
  | _=>none
noncomputable def akm (m:M (List D)):M Rv:=m.bind fun ds=>lift (af1 ds)
@[simp] theorem aqm (ρ:Ro) (m:M (List D)):akm m ρ=(m.bind fun ds=>lift (af1 ds)) ρ:=rfl
@[simp] theorem ar9 (j:Int):af1 [.int j]=if j.natAbs < 1000000 then some (.v (.tup (jj 0 j.toNat))) else none:=rfl
end
end Dn
namespace Mn
open PySem PySem.Spec PyProof.Rows L2
section
variable {prog:Program} {w:World} {A:Around} {E:Value→Shared→Prop} {s:Shared}
theorem anm (n:Nat):Builtin.Slice.sliceAdjust none none (-1) (n:Int)=((n:Int) - 1,-1):=rfl
theorem amz (n:Nat):Builtin.Slice.slicePlaces ((n:Int) - 1) (-1) (-1)=n:=by
  unfold Builtin.Slice.slicePlaces
  have h1:¬((-1:Int) > 0):=by omega
  have h2:(- -1:Int)=1:=by decide
  simp only [h1,if_false,h2,Int.ediv_one]
  split <;> omega
theorem ama {α β:Type} {f g:α→Option β}:∀ l:List α,(∀ x∈l,f x=g x)→l.filterMap f=l.filterMap g
  | [],_=>rfl
  | x::r,h=>by rw [List.filterMap_cons,List.filterMap_cons,h x (List.mem_cons_self ..),ama r fun y hy=>h y (List.mem_cons_of_mem _ hy)]
theorem als (xs:Array Value):((List.range xs.size).filterMap fun (m:Nat)=>xs[(((xs.size:Int) - 1)+(m:Int)*(-1)).toNat]?).toArray=xs.toList.reverse.toArray:=by
  congr 1
  have e:(List.range xs.size).filterMap (fun (m:Nat)=>xs[(((xs.size:Int) - 1)+(m:Int)*(-1)).toNat]?)=(List.range xs.size).filterMap (fun m=>xs.toList.reverse[m]?):=by
    refine ama _ fun m hm => ?_
    have hm':m < xs.size:=List.mem_range.mp hm
    have e2:(((xs.size:Int) - 1)+(m:Int)*(-1)).toNat=xs.size - 1 - m:=by omega
    rw [e2,List.getElem?_reverse (by simpa using hm')]
    simp
  rw [e]
  have key:∀ l:List Value,(List.range l.length).filterMap (fun m=>l[m]?)=l:=by
    intro l
    induction l with
    | nil=>rfl
    | cons x r ih =>
      rw [List.length_cons,List.range_succ_eq_map,List.filterMap_cons]
      simp only [List.getElem?_cons_zero,List.filterMap_map]
      congr 1
  have:=key xs.toList.reverse
  simpa using this
theorem adz {t sl:Addr} {items:Array Value} {u:Tok} {Q:Value→Shared→Prop} (ht:IsTup s.heap t items) (hs:s.heap.IsSliceOf sl .none .none (.int (-1) u))
    (h:Q (.ref s.heap.objs.size) { s with heap:=s.heap.push { cls:=.type "tuple", data:=.seq items.toList.reverse.toArray } })
    (hsz:items.size≤sizeLine):wpAny (model prog w) A (getItem (.ref t) (.ref sl)) Q E s:=by
  have htake:sizeOk (.seq items.toList.reverse.toArray):=by
    show items.toList.reverse.toArray.size≤sizeLine
    simpa using hsz
  obtain ⟨os,hos,hcs,hds⟩:=id hs
  have hTs:s.TypeIs (.ref sl) "slice" := ⟨os,hos,hcs⟩
  unfold getItem
  try with_reducible refine wpAny_holding ?_
  first | refine wpAny_bind (wpAny_pure ?_) | skip
  refine wpAny_bind (wpAny_sequenceKey ht.typeIs (by decide) ?_)
  refine wpAny_bind (wpAny_callSpecial?_slot (name:=Str.ofString "__getitem__") ht.typeIs PyProof.Rows.slot_tuple_getitem
    (wpAny_call_entry PyProof.Rows.slot_tuple_getitem ht.typeIs entry_tuple_getitem ?_ (args_tuple_getitem _ _)))
  show wpAny _ _ (Builtin.Tuple.tupleItemsOf (.ref t) >>= _) _ _ s
  refine wpAny_bind (tupleItemsOf_ ht ?_)
  refine wpAny_bind (wpAny_typeOf hTs ?_)
  rw [if_pos (by decide)]
  have happ:∀ {Q:Int×Int×Nat→Shared→Prop} {E:Value→Shared→Prop} {A:Around},Q ((items.size:Int) - 1,-1,items.size) s→wpAny (model prog w) A (Builtin.Slice.sliceApplied (.ref sl) (pure (items.size:Int))) Q E s:=by
    intro Q E A h
    unfold Builtin.Slice.sliceApplied Builtin.Slice.sliceFields
    refine wpAny_bind (wpAny_bind (wpAny_field hos hds (x:=.none) rfl (wpAny_bind (wpAny_field hos hds (x:=.none) rfl (wpAny_bind (wpAny_field hos hds (x:=.int (-1) u) rfl (wpAny_pure ?_)))))))
    refine wpAny_bind (slicePart_int ?_)
    show wpAny _ _ (if ((-1:Int)==0)=true then _ else _) _ _ s
    rw [if_neg (by decide)]
    refine wpAny_bind (slicePart_none (wpAny_bind (slicePart_none (wpAny_bind (wpAny_pure ?_)))))
    show wpAny _ _ (match Builtin.Slice.sliceAdjust none none (-1) (items.size:Int) with | (lo,hi)=>pure (lo,(-1:Int),Builtin.Slice.slicePlaces lo hi (-1))) _ _ s
    rw [anm]
    show wpAny _ _ (pure ((items.size:Int) - 1,(-1:Int),Builtin.Slice.slicePlaces ((items.size:Int) - 1) (-1) (-1))) _ _ s
    rw [amz]
    exact wpAny_pure h
  refine wpAny_bind (happ ?_)
  have hno:¬((((items.size:Int) - 1)==0&&(-1:Int)==1&&items.size==items.size)=true):=by
    intro q
    rw [Bool.and_eq_true,Bool.and_eq_true] at q
    exact absurd q.1.2 (by decide)
  show wpAny _ _ (if (((items.size:Int) - 1)==0&&(-1:Int)==1&&items.size==items.size)=true then _ else _) _ _ s
  rw [if_neg hno,als]
  first
    | exact wpAny_bind (m:=Builtin.Tuple.tupleExact _) (wpAny_newObj_type (wpAny_pure ⟨_,rfl,wpAny_pure h⟩) htake)
    | exact wpAny_bind (m:=Builtin.Tuple.tupleExact _) (wpAny_newObj_type (wpAny_bind (wpAny_pure (wpAny_pure ⟨_,rfl,wpAny_pure h⟩))) htake)
    | exact wpAny_bind (wpAny_bind (m:=Builtin.Tuple.tupleExact _) (wpAny_newObj_type (wpAny_pure (wpAny_pure ⟨_,rfl,wpAny_pure h⟩)) htake))
    | exact wpAny_bind (wpAny_bind (m:=Builtin.Tuple.tupleExact _) (wpAny_newObj_type (wpAny_pure ⟨_,rfl,wpAny_pure h⟩) htake))
end
end Mn
namespace Mn
open PySem PySem.Spec PyProof.Rows L2
section
variable {X:Cx} {e:Expr} {te:TE} {pos p2 p3:Pos} {st:Expr} {ts:TE}
noncomputable def tRev (K:PySem.W.Frag) (te ts:TE):TE:=fun σ H Q=>te σ H fun x H1=>ts σ H1 fun k H2=>k=.int (-1)∧∃ a xs,x=.ref a∧SqT K H2 a xs∧∀ p,H2 p=none→Q (.ref p) (upd H2 p (.tup xs.reverse))
theorem Vals.rev {xs:List V} {us:List Value} (h:Vals xs us):Vals xs.reverse us.reverse:=by
  induction h with
  | nil=>exact .nil
  | cons h1 h2 ih =>
    rw [List.reverse_cons,List.reverse_cons]
    exact ih.append (.cons h1 .nil)
theorem axh (he:PE X e te) (hs:PE X st ts):PE X (.Subscript e (.Slice none none (some st) p2) pos) (tRev X.K te ts):=by
  intro pins s σ H Q I h
  refine Subscript_ (thn (he pins s σ H _ I h) fun v s1 ⟨x,H1,I1,r1,q1⟩ => ?_)
  refine wpAny_Slice ?_
  rw [evalPart_none]
  refine wpAny_pure (wpAny_pure ?_)
  rw [evalPart_some]
  refine thn (hs pins s1 σ H1 _ I1 q1) fun k s2 ⟨y,H2,I2,r2,q2⟩ => ?_
  obtain ⟨rfl,a,xs,rfl,hx,q⟩:=q2
  obtain ⟨t,rfl⟩:=r2
  cases r1
  have I4:Inv X pins σ H2 { s2 with heap:=s2.heap.push { cls:=.type "slice", data:=.fields #[.none,.none,.int (-1) t] } }:=I2.kept (t':=s2.toks) fun b ob q=>Heap.get?_push_of_some _ q
  obtain ⟨its,r,ht,hz⟩:=I4.tuple hx
  have hlen:its.toArray.size=xs.length:=by rw [List.size_toArray]; exact r.length.symm
  show wpAny (model X.prog X.w) X.A (subscriptTail e (.Slice none none (some st) p2) (.ref a) (.ref s2.heap.objs.size)) (EP X pins σ Q) X.xe { s2 with heap:=s2.heap.push { cls:=.type "slice", data:=.fields #[.none,.none,.int (-1) t] } }
  have hg:wpAny (model X.prog X.w) X.A (getItem (.ref a) (.ref s2.heap.objs.size)) (EP X pins σ Q) X.xe { s2 with heap:=s2.heap.push { cls:=.type "slice", data:=.fields #[.none,.none,.int (-1) t] } }:=by
    refine adz ht (Heap.IsSliceOf.new ..) ?_ (by rw [hlen]; exact hz)
    refine ⟨.ref _,_,I4.laid (t':=s2.toks) (o:=.tup xs.reverse) (fun b ob q=>Heap.get?_push_of_some _ q) (Nat.le_refl _) ?_,rfl,q _ (I4.hok.fresh (Nat.le_refl _))⟩
    exact ⟨by rw [List.length_reverse]; exact hz,_,Vals.rev r,IsTp.new _ _⟩
  exact tail_any (ops:=[.ref a,.ref s2.heap.objs.size]) ht.typeIs PyProof.Rows.slot_tuple_getitem.lookup hg (by with_unfolding_all rfl)
end
end Mn
namespace Dn
open PySem PySem.Spec PyProof.Rows L2 Mn
section
variable {K:PySem.W.Frag} {X:Cx} {a st:Expr} {pos p p2 pos2:Pos}
noncomputable def gRev:D→D→Option Rv
  | .tup l,.int k=>if k = -1 then some (.v (.tup l.reverse)) else none
  | _,_=>none
@[simp] theorem a0d (l:List D):gRev (.tup l) (.int (-1))=some (.v (.tup l.reverse)):=rfl
noncomputable def mRev (m ms:M D):M Rv:=m.bind fun d=>ms.bind fun k=>lift (gRev d k)
@[simp] theorem a1u (ρ:Ro) (m ms:M D):mRev m ms ρ=(m.bind fun d=>ms.bind fun k=>lift (gRev d k)) ρ:=rfl
theorem IsL.rev {F:Hp}:∀ {ds:List D} {vs:List V},IsL K F ds vs→IsL K F ds.reverse vs.reverse
  | _,_,.nil=>.nil
  | _,_,.cons h t=>by
    rw [List.reverse_cons,List.reverse_cons]
    exact (IsL.rev t).append (.cons h .nil)
end
end Dn
namespace Dn
open PySem PySem.Spec PyProof.Rows L2 Mn
section
variable {K:PySem.W.Frag} {X:Cx} {e:Expr} {pos p:Pos}
noncomputable def a3q (f:Int→Int→Option Int) (i:Nat) (m:M D):Sd:=dM (mVar i) fun x=>dM m fun y=>dM (lift ((asI x).bind fun n=>(asI y).bind fun k=>(f n k).map D.int)) fun z ρ=>some (.nx,List.set ρ i (.val z))
@[simp] theorem a0w (ρ:Ro) (f:Int→Int→Option Int) (i:Nat) (m:M D):a3q f i m ρ=(dM (mVar i) fun x=>dM m fun y=>dM (lift ((asI x).bind fun n=>(asI y).bind fun k=>(f n k).map D.int)) fun z ρ=>some (.nx,List.set ρ i (.val z))) ρ:=rfl
end
end Dn
namespace Mn
open PySem PySem.Spec PyProof.Rows L2
section
variable {prog:Program} {w:World} {A:Around} {E:Value→Shared→Prop} {s:Shared}
end
end Mn
namespace Dn
open PySem PySem.Spec PyProof.Rows L2 Mn
section
variable {K:PySem.W.Frag} {X:Cx}
noncomputable def asa:D→Option Rv
  | .tup l=>(aaf l).bind fun ns=>if ns.length < 64 then some (.fr ((sortI ns).map D.int)) else none
  | d=>apd d
@[simp] theorem atg (l:List D):asa (.lst l)=apd (.lst l):=rfl
end
end Dn
namespace Dn
open PySem PySem.Spec PyProof.Rows L2 Mn
section
variable {K:PySem.W.Frag} {X:Cx}
end
end Dn
namespace Mn
open PySem PySem.Spec PyProof.Rows L2
theorem ahb (its:List Value):slicePick its.toArray none none (some (-1))=its.reverse.toArray:=by
  have h1:sliceBounds none none (some (-1)) its.toArray.size=((its.toArray.size:Int) - 1,-1,-1):=rfl
  unfold slicePick
  rw [h1]
  dsimp only
  have h2:sliceRange ((its.toArray.size:Int) - 1) (-1) (-1)=(List.range its.toArray.size).map fun (k:Nat)=>((its.toArray.size:Int) - 1+(k:Int)*(-1)).toNat:=by
    unfold sliceRange
    have hc:(if (-1:Int) > 0 then (if ((its.toArray.size:Int) - 1) < -1 then (-1 - ((its.toArray.size:Int) - 1) + -1 - 1) / -1 else 0) else (if ((its.toArray.size:Int) - 1) > -1 then (((its.toArray.size:Int) - 1) - -1 - -1 - 1) / (- -1) else 0)).toNat=its.toArray.size:=by
      have h0:¬((-1:Int) > 0):=by decide
      have e:(- -1:Int)=1:=by decide
      simp only [h0,if_false,e,Int.ediv_one]
      split <;> omega
    dsimp only
    rw [hc]
    apply List.map_congr_left
    intro k _
    congr 1
    omega
  rw [h2,List.filterMap_map]
  have:=als its.toArray
  simpa [Function.comp_def] using this
section
variable {X:Cx} {e:Expr} {te:TE} {pos p2 p3:Pos} {st:Expr} {ts:TE}
noncomputable def a01 (K:PySem.W.Frag) (te ts:TE):TE:=fun σ H Q=>te σ H fun x H1=>ts σ H1 fun k H2=>k=.int (-1)∧∃ a xs,x=.ref a∧SqL K H2 a xs∧∀ p,H2 p=none→Q (.ref p) (upd H2 p (.lst xs.reverse))
theorem aul (he:PE X e te) (hs:PE X st ts):PE X (.Subscript e (.Slice none none (some st) p2) pos) (a01 X.K te ts):=by
  intro pins s σ H Q I h
  refine Subscript_ (thn (he pins s σ H _ I h) fun v s1 ⟨x,H1,I1,r1,q1⟩ => ?_)
  refine wpAny_Slice ?_
  rw [evalPart_none]
  refine wpAny_pure (wpAny_pure ?_)
  rw [evalPart_some]
  refine thn (hs pins s1 σ H1 _ I1 q1) fun k s2 ⟨y,H2,I2,r2,q2⟩ => ?_
  obtain ⟨rfl,a,xs,rfl,hx,q⟩:=q2
  obtain ⟨t,rfl⟩:=r2
  cases r1
  have I4:Inv X pins σ H2 { s2 with heap:=s2.heap.push { cls:=.type "slice", data:=.fields #[.none,.none,.int (-1) t] } }:=I2.kept (t':=s2.toks) fun b ob q=>Heap.get?_push_of_some _ q
  obtain ⟨its,r,ht,hz⟩:=I4.list hx
  have hlen:=r.length
  show wpAny (model X.prog X.w) X.A (subscriptTail e (.Slice none none (some st) p2) (.ref a) (.ref s2.heap.objs.size)) (EP X pins σ Q) X.xe { s2 with heap:=s2.heap.push { cls:=.type "slice", data:=.fields #[.none,.none,.int (-1) t] } }
  have hg:wpAny (model X.prog X.w) X.A (getItem (.ref a) (.ref s2.heap.objs.size)) (EP X pins σ Q) X.xe { s2 with heap:=s2.heap.push { cls:=.type "slice", data:=.fields #[.none,.none,.int (-1) t] } }:=by
    refine wpAny_getItem_list_slice ht.isList (Heap.IsSliceOf.new ..) .none .none (.int (-1) t) (by simp) ?_ (by rw [List.size_toArray] <;> omega)
    rw [ahb]
    refine ⟨.ref _,_,I4.laid (t':=s2.toks) (o:=.lst xs.reverse) (fun b ob q=>Heap.get?_push_of_some _ q) (Nat.le_refl _) ?_,rfl,q _ (I4.hok.fresh (Nat.le_refl _))⟩
    exact ⟨by rw [List.length_reverse]; exact hz,_,0,Mn.Vals.rev r,Heap.get?_push_size _ rfl⟩
  exact tail_any (ops:=[.ref a,.ref s2.heap.objs.size]) ht.isList.typeIs slot_list_getitem.lookup hg (by with_unfolding_all rfl)
end
end Mn
namespace Dn
open PySem PySem.Spec PyProof.Rows L2 Mn
section
variable {K:PySem.W.Frag} {X:Cx} {a st:Expr} {pos p p2 pos2:Pos}
noncomputable def asb:D→D→Option Rv
  | .lst l,.int k=>if k = -1 then some (.fr l.reverse) else none
  | d,k=>gRev d k
@[simp] theorem ayv (l:List D):asb (.lst l) (.int (-1))=some (.fr l.reverse):=rfl
@[simp] theorem ayu (l:List D):asb (.tup l) (.int (-1))=some (.v (.tup l.reverse)):=rfl
noncomputable def au6 (m ms:M D):M Rv:=m.bind fun d=>ms.bind fun k=>lift (asb d k)
@[simp] theorem azy (ρ:Ro) (m ms:M D):au6 m ms ρ=(m.bind fun d=>ms.bind fun k=>lift (asb d k)) ρ:=rfl
theorem av4 {m ms:M D} (h:EV K X a m) (hs:EV K X st ms):ER K X (.Subscript a (.Slice none none (some st) p2) pos) (au6 m ms):=ER.mk fun hk=>by
  subst hk
  have p1:=axh (pos:=pos) (p2:=p2) (h rfl) (hs rfl)
  have p2':=aul (pos:=pos) (p2:=p2) (h rfl) (hs rfl)
  intro pins s σ H Q I ⟨tg,F,ρ,r,ρ',G,em,q⟩
  obtain ⟨d,ρ1,e1,em⟩:=bh em
  obtain ⟨k,ρ2,e2,em⟩:=bh em
  obtain ⟨e4,rfl⟩:=jc em
  cases d with
  | tup l =>
    refine p1 pins s σ H Q I ⟨tg,F,ρ,.tup l,ρ1,G,e1,fun v H1 F1 G1 x1 r1=>⟨tg,F1,ρ1,k,_,G1,e2,fun v2 H2 F2 G2 x2 r2 => ?_⟩⟩
    have e4:gRev (.tup l) k=some r:=e4
    unfold gRev at e4
    split at e4
    · split at e4
      · rename_i l' j ez _ hj
        cases ez
        subst hj
        cases e4
        cases r2
        refine ⟨rfl,?_⟩
        cases r1.mono x2.sub with
        | tup ea hl =>
          exact ⟨_,_,rfl,SqT.of (G2.sub _ _ ea),fun p hp=>Res.tup G2 (fun v' H4 F4 G4 x4 rr=>q v' H4 F4 G4 ((x1.trans x2).trans x4) (nq (x1.trans x2) rr)) hl.rev hp⟩
      · cases e4
    · cases e4
  | lst l =>
    refine p2' pins s σ H Q I ⟨tg,F,ρ,.lst l,ρ1,G,e1,fun v H1 F1 G1 x1 r1=>⟨tg,F1,ρ1,k,_,G1,e2,fun v2 H2 F2 G2 x2 r2 => ?_⟩⟩
    cases k with
    | int j =>
      have e4:(if j = -1 then some (Rv.fr l.reverse) else none)=some r:=e4
      split at e4
      · rename_i hj
        subst hj
        cases e4
        cases r2
        refine ⟨rfl,?_⟩
        cases r1.mono x2.sub with
        | lst ea hl =>
          exact ⟨_,_,rfl,SqL.of (G2.sub _ _ ea),fun p hp=>Res.lst G2 (fun v' H4 F4 G4 x4 rr=>q v' H4 F4 G4 ((x1.trans x2).trans x4) (nq (x1.trans x2) rr)) hl.rev hp⟩
      · cases e4
    | _=>cases e4
  | _=>cases e4
end
end Dn
namespace Mn
open PySem
end Mn
namespace Mn
open PySem PySem.Spec PyProof.Rows L2
section
variable {X:Cx}
end
end Mn
namespace Dn
open PySem PySem.Spec PyProof.Rows L2 Mn
section
variable {K:PySem.W.Frag} {X:Cx}
noncomputable def gAny:D→Option Rv
  | .lst l=>(wj l).map fun bs=>.v (.bl (bs.any id))
  | _=>none
@[simp] theorem a0o (l:List D):gAny (.lst l)=(wj l).map fun bs=>.v (.bl (bs.any id)):=rfl
end
end Dn
namespace Mn
open PySem PySem.Spec PyProof.Rows L2
noncomputable def apy (y:Str) (env:Env) (XN:List Str) (scope:Scope) (fr N:List Str) (src:List (Option Nat)):Bool :=
  scope.names.all (fun z=>(z.2 != .cell||z.1==y)&&(z.2 != .local||scope.names.lookup z.1==some .local)&&(z.2 != .free||fr.contains z.1)) &&
  fr.all (fun x=>x != y&&(scope.names.lookup x==some .free&&(env.kindOf x==some .cell||env.kindOf x==some .free)))&&adt XN fr N src
structure CompOkY (y:Str) (env:Env) (XN:List Str) (scope:Scope) (fr N:List Str) (src:List (Option Nat)):Prop where
  cell:∀ z∈scope.names,z.2=.cell→z.1=y
  loc:∀ z∈scope.names,z.2=.local→scope.names.lookup z.1=some .local
  free:∀ z∈scope.names,z.2=.free→z.1∈fr
  ne:∀ x∈fr,x≠y
  frk:∀ x∈fr,scope.names.lookup x=some .free
  out:∀ x∈fr,env.kindOf x=some .cell∨env.kindOf x=some .free
  src:adt XN fr N src=true
theorem CompOkY.of {y:Str} {env:Env} {XN:List Str} {scope:Scope} {fr N:List Str} {src:List (Option Nat)} (h:apy y env XN scope fr N src=true):CompOkY y env XN scope fr N src:=by
  simp only [apy,Bool.and_eq_true,List.all_eq_true] at h
  obtain ⟨⟨h1,h2⟩,h3⟩:=h
  refine ⟨fun z hz e => ?_,fun z hz e => ?_,fun z hz e => ?_,fun x hx => ?_,fun x hx => ?_,fun x hx => ?_,h3⟩
  · have:=(h1 z hz).1.1
    rw [e] at this
    simpa using this
  · have:=(h1 z hz).1.2
    rw [e] at this
    simpa using this
  · have:=(h1 z hz).2
    rw [e] at this
    simpa using this
  · simpa using (h2 x hx).1
  · simpa using (h2 x hx).2.1
  · simpa using (h2 x hx).2.2
section
variable {y:Str} {X:Cx} {pins:List (Addr×Obj)} {σ:L2.St} {H:Hp} {s:Shared} {scope:Scope} {fr N:List Str} {src:List (Option Nat)} {fp:List Addr}
end
end Mn
namespace Dn
open PySem PySem.Spec PyProof.Rows L2 Mn
end Dn
namespace L2
open PySem PySem.Spec PyProof.Rows
section
variable {M:Model} {A:Around} {E:Value→Shared→Prop} {s:Shared}
structure KeptBut (fs ch:List Addr) (h h':Heap):Prop where
  keep:∀ b o,b∉ch→b∉fs→h.get? b=some o→h'.get? b=some o
  slot:∀ b o,b∉ch→h.get? b=some o→∃ sl,h'.get? b=some { o with slots:=sl }
theorem KeptBut.trans {fs ch:List Addr} {h h1 h2:Heap} (a:KeptBut fs ch h h1) (b:KeptBut fs ch h1 h2):KeptBut fs ch h h2 :=
  ⟨fun c o n1 n2 e=>b.keep c o n1 n2 (a.keep c o n1 n2 e),fun c o n e=>let ⟨_,e1⟩:=a.slot c o n e; let ⟨sl,e2⟩:=b.slot c _ n e1; ⟨sl,e2⟩⟩
theorem KeptBut.sub {fs ch ch':List Addr} {h h':Heap} (a:KeptBut fs ch h h') (q:∀ b∈ch,b∈ch'):KeptBut fs ch' h h' :=
  ⟨fun c o n1 n2 e=>a.keep c o (fun z=>n1 (q c z)) n2 e,fun c o n e=>a.slot c o (fun z=>n (q c z)) e⟩
theorem KeptBut.upd {fs:List Addr} {h:Heap} {a:Addr} {f:Obj→Obj}:KeptBut fs [a] h (h.update a f) :=
  ⟨fun b o n _ e=>by rw [Heap.get?_update_other _ _ (fun z=>n (by simp [z]))]; exact e,fun b o n e=>⟨o.slots,by rw [Heap.get?_update_other _ _ (fun z=>n (by simp [z]))]; exact e⟩⟩
end
structure FlyAt (h:Heap) (a:Addr) (C:Addr) (dx:Option Addr) (ch:List Addr) (L:Addr):Prop where
  obj:∃ oe vs,h.get? a=some oe∧oe.cls=.ref C∧oe.dict=dx∧oe.data=.fields vs∧1 < vs.size ∧
    ((vs[1]? = some .none∧ch=[a])∨∃ T oT ts fl,ch=[a,T]∧vs[1]? = some (.ref T)∧T≠a∧h.get? T=some oT∧oT.data=.fields ts∧ts[3]? = some fl∧(fl=.none∨fl=rawInt L))
theorem FlyAt.fresh {h:Heap} {a C L:Addr} {dx:Option Addr} {ch:List Addr} (x:FlyAt h a C dx ch L):a∈ch:=by
  obtain ⟨oe,vs,_,_,_,_,_,⟨_,e⟩ | ⟨T,_,_,_,e,_⟩⟩:=x.obj <;> simp [e]
section
variable {M:Model} {A:Around} {E:Value→Shared→Prop} {s:Shared}
end
end L2
namespace Dn
open PySem PySem.Spec PyProof.Rows L2 Mn
noncomputable def a3z (F:Hp) (dx:Option Addr) (fs:List (Str×Int)):Prop:=(dx=none∧fs=[])∨∃ d,dx=some d∧F d=some (.xd (fs.map fun p=>(p.1,V.int p.2)))
structure ClsOk (K:PySem.W.Frag) (c:Str) (C:Addr):Prop where
  ns:PySem.W.nsIn K mainGlobals c=some (some (.ref C))
  ok:ExcK K C
noncomputable def FpX (X:Cx) (pins:List (Addr×Obj)) (H:Hp) (b:Addr):Prop :=
  H b=none∧b≠X.env.locals∧b∉X.fs∧(b∈X.ex∨X.s₀.heap.get? b=none)∧(∀ x c,X.env.cells.lookup x=some c→c≠b)∧∀ p∈X.pn++pins,p.1≠b
section
variable {X:Cx} {pins:List (Addr×Obj)} {σ:L2.St} {H H':Hp} {s:Shared}
end
noncomputable def FlyX (K:PySem.W.Frag) (X:Cx) (pins:List (Addr×Obj)) (x:Exn) (F H:Hp) (h:Heap) (e:Value):Prop :=
  ∃ a C dx ch,e=.ref a∧ClsOk K x.cls C∧a3z F dx x.fs∧FlyAt h a C dx ch X.env.locals∧∀ b∈ch,FpX X pins H b
noncomputable def RX (K:PySem.W.Frag) (X:Cx) (pins:List (Addr×Obj)) (tg:Nat→Addr) (ρ:Ro) (σ:L2.St) (F H:Hp) (x:Exn) (ρ':Ro) (e:Value) (s':Shared):Prop :=
  ∃ σ' H' F',Inv X pins σ' H' s'∧Good K tg F' H' ρ' σ'∧Ext (Own ρ σ) (Own ρ' σ') F H F' H'∧FlyX K X pins x F' H' s'.heap e
theorem RX.back {K:PySem.W.Frag} {X:Cx} {pins:List (Addr×Obj)} {tg:Nat→Addr} {ρ ρ1 ρ':Ro} {σ σ1:L2.St} {F H F1 H1:Hp} {x:Exn} {e:Value} {s':Shared} (q:Ext (Own ρ σ) (Own ρ1 σ1) F H F1 H1) (h:RX K X pins tg ρ1 σ1 F1 H1 x ρ' e s'):RX K X pins tg ρ σ F H x ρ' e s' :=
  let ⟨σ',H',F',I,G,y,f⟩:=h; ⟨σ',H',F',I,G,q.trans y,f⟩
noncomputable abbrev XGo (K:PySem.W.Frag) (X:Cx) (α:Type) (c:Sem α) (m:Ro→Option (Exn×Ro)):Prop :=
  X.K=K→X.xe=(fun _ _=>False)→∀ pins s σ H tg F ρ x ρ',Inv X pins σ H s→Good K tg F H ρ σ→m ρ=some (x,ρ')→wpAny (model X.prog X.w) X.A c (fun _ _=>False) (RX K X pins tg ρ σ F H x ρ') s
noncomputable def exE {α:Type} (m:M α):Ro→Option (Exn×Ro):=fun ρ=>match m ρ with
  | some (.exc x,ρ')=>some (x,ρ')
  | _=>none
noncomputable def exS (g:Sd):Ro→Option (Exn×Ro):=fun ρ=>match g ρ with
  | some (.exc x,ρ')=>some (x,ρ')
  | _=>none
theorem ad3 {α:Type} {m:M α} {ρ ρ':Ro} {x:Exn}:exE m ρ=some (x,ρ')↔m ρ=some (.exc x,ρ'):=by
  unfold exE
  split
  · rename_i y ρ1 e
    rw [e]
    constructor
    · intro h; cases h; rfl
    · intro h; cases h; rfl
  · rename_i hn
    constructor
    · intro h; cases h
    · intro h; exact absurd h (hn x ρ')
theorem av1 {g:Sd} {ρ ρ':Ro} {x:Exn}:exS g ρ=some (x,ρ')↔g ρ=some (.exc x,ρ'):=by
  unfold exS
  split
  · rename_i y ρ1 e
    rw [e]
    constructor
    · intro h; cases h; rfl
    · intro h; cases h; rfl
  · rename_i hn
    constructor
    · intro h; cases h
    · intro h; exact absurd h (hn x ρ')
structure XE (K:PySem.W.Frag) (X:Cx) (e:Expr) {α:Type} (m:M α):Prop where
  go:XGo K X Value (eval e X.env) (exE m)
structure XA (K:PySem.W.Frag) (X:Cx) (es:List Expr) {α:Type} (m:M α):Prop where
  go:∀ (pos:Pos),XGo K X (List Value) (spliced (backTo pos (starEach es X.env))) (exE m)
structure XS (K:PySem.W.Frag) (X:Cx) (st:Stmt) (g:Sd):Prop where
  go:XGo K X Flow (exec st X.env) (exS g)
structure XSs (K:PySem.W.Frag) (X:Cx) (ss:List Stmt) (g:Sd):Prop where
  go:XGo K X Flow (execs ss X.env) (exS g)
noncomputable def NoX {α:Type} (m:M α):Prop:=∀ ρ x ρ',m ρ≠some (.exc x,ρ')
noncomputable def NoS (g:Sd):Prop:=∀ ρ x ρ',g ρ≠some (.exc x,ρ')
section
variable {K:PySem.W.Frag} {X:Cx} {e a b c:Expr} {es:List Expr} {pos p:Pos} {st:Stmt} {ss:List Stmt}
theorem XE.no {α:Type} {m:M α} (h:NoX m):XE K X e m:=⟨fun _ _ pins s σ H tg F ρ x ρ' I G em=>absurd (ad3.mp em) (h ρ x ρ')⟩
theorem XS.no {g:Sd} (h:NoS g):XS K X st g:=⟨fun _ _ pins s σ H tg F ρ x ρ' I G em=>absurd (av1.mp em) (h ρ x ρ')⟩
theorem amk {α β:Type} {m:M α} {k:α→M β} {ρ ρ':Ro} {x:Exn} (h:m.bind k ρ=some (.exc x,ρ')):m ρ=some (.exc x,ρ')∨∃ a ρ1,m ρ=some (.ok a,ρ1)∧k a ρ1=some (.exc x,ρ'):=by
  unfold M.bind at h
  split at h
  · exact .inr ⟨_,_,by assumption,h⟩
  · cases h; exact .inl (by assumption)
  · cases h
theorem XA.no {α:Type} {m:M α} (h:NoX m):XA K X es m:=⟨fun _ _ _ pins s σ H tg F ρ x ρ' I G em=>absurd (ad3.mp em) (h ρ x ρ')⟩
end
end Dn
namespace Dn
open PySem PySem.Spec PyProof.Rows L2 Mn
end Dn
namespace Dn
open PySem PySem.Spec PyProof.Rows L2 Mn
theorem obj_there {P:Program} {w:World} {H:Hp} {h:Heap} {a:Addr} {o:HO} (x:za P w H h a o):∃ ob,h.get? a=some ob:=by
  cases o with
  | lst xs=>obtain ⟨_,_,_,_,e⟩:=x; exact ⟨_,e⟩
  | tup xs=>obtain ⟨_,_,_,ob,e,_⟩:=x; exact ⟨_,e⟩
  | dK kvs=>obtain ⟨_,_,_,_,o,_,_,e,_⟩:=x; exact ⟨_,e⟩
  | dT kvs=>obtain ⟨_,_,_,_,o,_,_,e,_⟩:=x; exact ⟨_,e⟩
  | set S n=>obtain ⟨o,_,_,_,e,_⟩:=x; exact ⟨_,e⟩
  | ins C dx fs=>obtain ⟨_,_,_,e,_⟩:=x; exact ⟨_,e⟩
  | own y=>exact x
  | xd fs=>obtain ⟨_,⟨_,_,_,e,_⟩,_⟩:=x; exact ⟨_,e⟩
  | rng lo hi=>obtain ⟨_,_,_,e⟩:=x; exact ⟨_,e⟩
  | frz ob u=>exact ⟨_,x.1⟩
  | tbl ps=>exact ⟨_,x⟩
  | met f y=>exact ⟨_,x⟩
  | ext φ=>exact x.2.1
noncomputable abbrev bmV:List Value:=[.type "ValueError", .type "Exception", .type "BaseException", .type "object"]
noncomputable def ay9 (x:Exn):Sd:=fun ρ=>some (.exc x,ρ)
section
variable {K:PySem.W.Frag} {X:Cx} {c:Str} {C:Addr} {np cpos pos:Pos}
end
end Dn
namespace L2
open PySem PySem.Spec PyProof.Rows
section
variable {X:Cx} {pins:List (Addr×Obj)} {σ:List (Option V)} {H:Hp} {s:Shared}
end
section
variable {M:Model} {A:Around} {E:Value→Shared→Prop} {s:Shared}
structure CatK (K:PySem.W.Frag) (B:Addr):Prop where
  cls:(PySem.W.clsIn K B).isSome=true
  ty:PySem.W.typeIn K (.ref B)=some (.type "type")
  base:PySem.W.subIn K (.ref B) (.type "BaseException")=some true
end
end L2
namespace Dn
open PySem PySem.Spec PyProof.Rows L2 Mn
noncomputable def ayr (c0 c:Str):Bool:=c0==c||c == "ArrowError" || c == "ValueError"
noncomputable def gIsC (ns:List Str) (c:Str):D→Option D
  | .exn c0 _=>if ns.contains c0 then some (.bl (ayr c0 c)) else none
  | _=>none
noncomputable def mIsC (ns:List Str) (c:Str) (m:M D):M D:=m.bind fun d=>lift (gIsC ns c d)
section
variable {K:PySem.W.Frag} {X:Cx} {e:Expr} {pos p:Pos}
end
@[simp] theorem a2f (ns:List Str) (c:Str) (m:M D) (ρ:Ro):mIsC ns c m ρ=(m.bind fun d=>lift (gIsC ns c d)) ρ:=rfl
@[simp] theorem a0h (ns:List Str) (c c0:Str) (fs:List (Str×Int)):gIsC ns c (.exn c0 fs)=if ns.contains c0 then some (.bl (ayr c0 c)) else none:=rfl
end Dn
namespace L2
open PySem PySem.Spec PyProof.Rows
structure RoomU (k:Nat) (A:Around):Prop where
  dp:A.depth+3*k+5 < recursionLimit
  un:A.units+16*k+200 < cLine
  gd:A.guards=some []
theorem RoomU.mono {j k:Nat} {A:Around} (r:RoomU k A) (h:j≤k):RoomU j A:=⟨by have:=r.dp; omega,by have:=r.un; omega,r.gd⟩
theorem RoomU.deeper {k:Nat} {A:Around} (r:RoomU (k+1) A) (env:Env):RoomU k (A.deeper env) :=
  ⟨by have:=r.dp; show A.depth+1+3*k+5 < _; omega,by have:=r.un; show A.units+3+16*k+200 < _; omega,r.gd⟩
theorem RoomU.depth {k:Nat} {A:Around} (r:RoomU k A):A.depth < recursionLimit:=by have:=r.dp; omega
theorem RoomU.units {k:Nat} {A:Around} (r:RoomU k A):A.units+64 < cLine:=by have:=r.un; omega
structure FnOkU (P:Program) (w:World) (K:PySem.W.Frag) (mg:Str→Option Value) (base:Heap) (k:Nat) (f:Addr) (fd:FuncData) (ps:List Str) (sp:Sp):Prop where
  len:∀ vs H Q E,sp vs H Q E→vs.length=ps.length
  run:∀ (A:Around) (outer:List Env) (s:Shared) (H:Hp) (args:Args) (us:List Value) (vs:List V) (Q:VK),RoomU k A→Env0 P w K mg base A outer s H→BindsTo s fd args (ps.zip us)→Vals vs us→sp vs H Q E0 →
    codeAny (model P w) A (.call (.ref f) args) (CR CX0 outer P w H s Q E0) s
end L2
namespace Dn
open PySem PySem.Spec PyProof.Rows L2 Mn
end Dn
namespace Dn
open PySem PySem.Spec PyProof.Rows L2 Mn
section
variable {K:PySem.W.Frag} {X:Cx} {pins:List (Addr×Obj)} {σ:L2.St} {H:Hp} {s:Shared} {tg:Nat→Addr} {F:Hp} {ρ:Ro}
end
structure CatN (K:PySem.W.Frag) (B:Addr):Prop extends CatK K B where
  ns:PySem.W.nsIn K mainGlobals "ArrowError" = some (some (.ref B))
  self:PySem.W.subIn K (.ref B) (.ref B)=some true
section
variable {K:PySem.W.Frag} {X:Cx} {pos hpos bp:Pos} {n:Str} {B:Addr} {i:Nat} {b₀:Stmt} {body suite:List Stmt} {ns:List Str} {gb gh:Sd}
end
end Dn
namespace Dn
open PySem PySem.Spec PyProof.Rows L2 Mn
noncomputable def okS {α:Type} (m:M α):M α:=fun ρ=>match m ρ with
  | some (.ok a,ρ1)=>some (.ok a,ρ1)
  | _=>none
noncomputable def dOk (g:Sd):Sd:=fun ρ=>match g ρ with
  | some (.exc _,_)=>none
  | r=>r
@[simp] theorem a4e {α:Type} (m:M α) (ρ:Ro):okS m ρ=match m ρ with
  | some (.ok a,ρ1)=>some (.ok a,ρ1)
  | _=>none:=rfl
@[simp] theorem a4s (g:Sd) (ρ:Ro):dOk g ρ=match g ρ with
  | some (.exc _,_)=>none
  | r=>r:=rfl
theorem alx {α:Type} {m:M α} {ρ ρ':Ro} {o:Out α} (h:okS m ρ=some (o,ρ')):m ρ=some (o,ρ')∧∃ a,o=.ok a:=by
  unfold okS at h
  split at h
  · rename_i a ρ1 e
    cases h
    exact ⟨e,a,rfl⟩
  · cases h
theorem aza {g:Sd} {ρ ρ':Ro} {fl:Fl} (h:dOk g ρ=some (fl,ρ')):g ρ=some (fl,ρ')∧∀ x,fl≠.exc x:=by
  unfold dOk at h
  split at h
  · cases h
  · rename_i hn
    exact ⟨h,fun x e=>hn x ρ' (by rw [h,e])⟩
section
variable {K:PySem.W.Frag} {X:Cx} {e a b c:Expr} {es:List Expr} {pos p:Pos} {st:Stmt} {ss:List Stmt}
theorem SV.s {g:Sd} (h:SV K X st g):SV K X st (dOk g):=SV.mk fun hk=>PS.imp (h.go hk) fun E σ H ⟨tg,F,ρ,fl,ρ',G,em,q⟩=>⟨tg,F,ρ,fl,ρ',G,(aza em).1,q⟩
theorem EV.s {m:M D} (h:EV K X e m):EV K X e (okS m):=EV.mk fun hk=>PE.imp (h.go hk) fun σ H Q ⟨tg,F,ρ,d,ρ',G,em,q⟩=>⟨tg,F,ρ,d,ρ',G,(alx em).1,q⟩
theorem ER.s {m:M Rv} (h:ER K X e m):ER K X e (okS m):=ER.mk fun hk=>PE.imp (h.go hk) fun σ H Q ⟨tg,F,ρ,d,ρ',G,em,q⟩=>⟨tg,F,ρ,d,ρ',G,(alx em).1,q⟩
theorem ET.s {m:M Bool} (h:ET K X e m):ET K X e (okS m):=ET.mk fun hk=>fun pins s σ H Q I ⟨tg,F,ρ,d,ρ',G,em,q⟩=>h.go hk pins s σ H Q I ⟨tg,F,ρ,d,ρ',G,(alx em).1,q⟩
theorem EG.s {js:List (Option Nat)} {m:M (List (Option D))} (h:EG K X es js m):EG K X es js (okS m):=EG.mk fun hk=>PA.imp (h.go hk) fun σ H Q ⟨tg,F,ρ,d,ρ',G,em,q⟩=>⟨tg,F,ρ,d,ρ',G,(alx em).1,q⟩
theorem XE.d {m:M Rv} (h:XE K X e m):XE K X e m.d:=⟨fun hk hn pins s σ H tg F ρ x ρ' I G em=>by
  rcases amk (ad3.mp em) with em | ⟨_,_,_,em⟩
  · exact h.go hk hn pins s σ H tg F ρ x ρ' I G (ad3.mpr em)
  · cases em⟩
theorem XE.v {m:M D} (h:XE K X e m):XE K X e m.v:=⟨fun hk hn pins s σ H tg F ρ x ρ' I G em=>by
  rcases amk (ad3.mp em) with em | ⟨_,_,_,em⟩
  · exact h.go hk hn pins s σ H tg F ρ x ρ' I G (ad3.mpr em)
  · cases em⟩
end
noncomputable def fnS (f:Fd):Fd:=fun as=>match f as with
  | some (.exc _,_)=>none
  | r=>r
@[simp] theorem a4p (f:Fd) (as:Ro):fnS f as=match f as with
  | some (.exc _,_)=>none
  | r=>r:=rfl
section
variable {K:PySem.W.Frag} {X:Cx} {e:Expr} {es:List Expr} {pos p:Pos}
end
section
variable {K:PySem.W.Frag} {X:Cx} {e:Expr} {pos p np cpos hpos bp:Pos} {c:Str}
end
@[simp] theorem ay8 (x:Exn) (ρ:Ro):ay9 x ρ=some (.exc x,ρ):=rfl
end Dn
namespace Dn
open PySem PySem.Spec PyProof.Rows L2 Mn
section
variable {K:PySem.W.Frag} {h:Heap} {mg:Str→Option Value} {ns:List Str} {c:Str}
end
end Dn
namespace Mn
open PySem PySem.Spec PyProof.Rows L2
section
variable {X:Cx}
end
end Mn
namespace Dn
open PySem PySem.Spec PyProof.Rows L2 Mn
section
variable {K:PySem.W.Frag} {X:Cx} {a b:Expr} {pos p p2:Pos}
noncomputable def akz (neg:Bool):D→List D→Option D
  | .int i,[.int y]=>some (.bl (if neg then !(decide (0≤i)&&decide (i < y)) else (decide (0≤i)&&decide (i < y))))
  | _,_=>none
@[simp] theorem avp (neg:Bool) (i y:Int):akz neg (.int i) [.int y]=some (.bl (if neg then !(decide (0≤i)&&decide (i < y)) else (decide (0≤i)&&decide (i < y)))):=rfl
noncomputable def au7 (neg:Bool) (m1:M D) (m2:M (List D)):M D:=m1.bind fun x=>m2.bind fun ds=>lift (akz neg x ds)
@[simp] theorem awi (neg:Bool) (m1:M D) (m2:M (List D)) (ρ:Ro):au7 neg m1 m2 ρ=(m1.bind fun x=>m2.bind fun ds=>lift (akz neg x ds)) ρ:=rfl
end
end Dn
namespace Dn
open PySem PySem.Spec PyProof.Rows L2 Mn
section
variable {K:PySem.W.Frag} {X:Cx} {a b e:Expr} {pos:Pos} {m1:M D} {m2 m:M Rv}
noncomputable def a1t (m1:M D) (m2:M Rv):M Rv:=m1.bind fun d=>m2.bind fun r=>match r with
  | .v d2=>ret (.v (.tup [d,d2]))
  | .fr l=>ret (.tf d l)
  | .tf _ _=>lift none
@[simp] theorem azw (ρ:Ro):a1t m1 m2 ρ=(m1.bind fun d=>m2.bind fun r=>match r with
  | .v d2=>ret (.v (.tup [d,d2]))
  | .fr l=>ret (.tf d l)
  | .tf _ _=>lift none) ρ:=rfl
noncomputable def a3s (i j:Nat) (m:M Rv):Sd:=dM m fun r ρ=>match r with
  | .tf d l=>some (.nx,List.set (List.set ρ i (.val d)) j (.own none l))
  | .v (.tup [d,d2])=>some (.nx,List.set (List.set ρ i (.val d)) j (.val d2))
  | _=>none
end
@[simp] theorem a0x (i j:Nat) (m:M Rv) (ρ:Ro):a3s i j m ρ=dM m (fun r ρ=>match r with
  | .tf d l=>some (.nx,List.set (List.set ρ i (.val d)) j (.own none l))
  | .v (.tup [d,d2])=>some (.nx,List.set (List.set ρ i (.val d)) j (.val d2))
  | _=>none) ρ:=rfl
end Dn
namespace Dn
open PySem PySem.Spec PyProof.Rows L2 Mn
noncomputable def apl:D→Bool
  | .non | .bl _ | .int _ | .str _=>true
  | _=>false
noncomputable def aoo:Sl→Bool
  | .own _ l=>l.all apl
  | _=>true
theorem Is.flat {K:PySem.W.Frag} {F F2:Hp} {d:D} {v:V} (h:Is K F d v) (hd:apl d=true):Is K F2 d v:=by
  cases h with
  | non=>exact .non
  | bl b=>exact .bl b
  | int i=>exact .int i
  | str x=>exact .str x
  | _=>cases hd
theorem IsL.flat {K:PySem.W.Frag} {F F2:Hp}:∀ {l:List D} {vs:List V},IsL K F l vs→l.all apl=true→IsL K F2 l vs
  | [],_,h,_=>by cases h; exact .nil
  | d::r,_,h,hd=>by
    rw [List.all_cons,Bool.and_eq_true] at hd
    cases h with
    | cons h t=>exact .cons (h.flat hd.1) (t.flat hd.2)
noncomputable def a2b (i:Nat) (m:M Rv):M Rv:=fun ρ=>match ρ[i]?,m ρ with
  | some (.own none l),some (.ok (.fr ys),ρ')=>if ys.all apl=true∧ρ.all aoo=true then some (.ok (.fr ys),ρ) else none
  | _,_=>none
@[simp] theorem az4 (i:Nat) (m:M Rv) (ρ:Ro):a2b i m ρ=match ρ[i]?,m ρ with
  | some (.own none l),some (.ok (.fr ys),ρ')=>if ys.all apl=true∧ρ.all aoo=true then some (.ok (.fr ys),ρ) else none
  | _,_=>none:=rfl
end Dn
namespace Mn
open PySem PySem.SeqAt PySem.MeetsSeq
open PySem.AutoSeq1 (wpAny_loadPart')
end Mn
namespace Dn
open PySem PySem.Spec PyProof.Rows L2 Mn
end Dn
namespace Mn
open PySem PySem.Spec PyProof.Rows L2
section
variable {prog:Program} {w:World} {A:Around} {E:Value→Shared→Prop} {h:Heap} {g:Array GenState} {d:Drawn} {t:Nat} {os:OsState}
variable {nm q:Str} {C N:Addr} {bs bm bmB:List Value} {hdct:Bool} {sn:List Str} {sub:List Value} {ab:Bool} {col:Option Bool} {dd:Option Addr} {k0 k1 k2 k3 k5:Option Value} {B Bn newId nid initId inN:String} {bmN:List Value}
end
end Mn
namespace Dn
open PySem PySem.Spec PyProof.Rows L2 Mn
noncomputable def refB:Value→Bool
  | .ref _=>true
  | _=>false
noncomputable def av0 (K:PySem.W.Frag) (C:Addr):Bool:=(PySem.W.clsIn K C).any fun cd=>cd.mro.dropWhile refB==bmV
section
variable {prog:Program} {w:World} {A:Around} {E:Value→Shared→Prop} {s:Shared} {K:PySem.W.Frag} {x C:Addr} {ox:Obj} {od:Option Obj} {name:Str} {v:Value}
end
end Dn
namespace Dn
open PySem PySem.Spec PyProof.Rows L2 Mn
section
variable {vs:Array Value} {X:Cx} {pins:List (Addr×Obj)} {σ:L2.St} {H:Hp} {s:Shared} {A:Around} {E:Value→Shared→Prop} {a C:Addr} {f:Str}
structure FldK (K:PySem.W.Frag) (C:Addr) (f:Str):Prop where
  k:ExcK K C
  sa:PySem.W.findIn K (.ref C) "__setattr__" = some (some (.builtin "object.__setattr__"))
  ov:av0 K C=true
  tk:PySem.W.takerIn K C f=some none
end
end Dn
namespace Mn
open PySem PySem.Spec PyProof.Rows L2
section
variable {M:Model} {A:Around} {E:Value→Shared→Prop} {env:Env}
variable {nm q:Str} {C N:Addr} {bs bm:List Value} {hdct:Bool} {sn:List Str} {sub:List Value} {ab:Bool} {col:Option Bool} {dd:Option Addr} {k0 k1 k2 k3 k5:Option Value} {newId:String}
end
section
variable {prog:Program} {w:World} {A:Around} {E:Value→Shared→Prop} {s:Shared} {env:Env}
variable {nm q:Str} {C N:Addr} {bs bm bmB:List Value} {hdct:Bool} {sn:List Str} {sub:List Value} {ab:Bool} {col:Option Bool} {dd:Option Addr} {k0 k1 k2 k3 k5:Option Value} {B Bn newId nid initId inN:String} {bmN:List Value}
end
end Mn
namespace Dn
open PySem PySem.Spec PyProof.Rows L2 Mn
noncomputable def ay3 (K:PySem.W.Frag) (C fI:Addr):Bool:=match K.lookup C with
  | some ⟨.type "type", _,.cls cd,sl⟩=>(match cd.mro,sl.toList with
    | .ref C'::bm,[_,_,_,_,some (.builtin n),_]=>C'==C&&n == "ValueError.__new__" && !cd.hasDel&&PySem.W.tailIn K bmV bm&&PySem.W.nsOkIn K cd.ns&&PySem.W.nsIn K cd.ns "__init__" == some (some (.ref fI))&&PySem.W.typeIn K (.ref fI)==some (.type "function")
    | _,_=>false)
  | _=>false
section
variable {K:PySem.W.Frag} {X:Cx} {c f:Str} {C fI:Addr} {fd:FuncData} {kk:Nat} {e1:Expr} {m:M D} {np cpos pos:Pos}
end
end Dn
namespace Dn
open PySem PySem.Spec PyProof.Rows L2 Mn
noncomputable def mFld (cs:List Str) (f:Str) (m:M D):M D:=m.bind fun d=>match d with
  | .exn c fs=>if cs.contains c=true then lift ((fs.lookup f).map D.int) else lift none
  | _=>lift none
@[simp] theorem a2h (cs:List Str) (f:Str) (m:M D) (ρ:Ro):mFld cs f m ρ=(m.bind fun d=>match d with
  | .exn c fs=>if cs.contains c=true then lift ((fs.lookup f).map D.int) else lift none
  | _=>lift none) ρ:=rfl
end Dn
namespace Dn
open PySem PySem.Spec PyProof.Rows L2 Mn
section
variable {K:PySem.W.Frag} {X:Cx} {c f:Str} {st st':Stmt} {e1:Expr} {m:M D} {np cpos pos p1 p2 p3 p4:Pos}
structure IniT (K:PySem.W.Frag) (mg:Str→Option Value) (c f q:Str) (st:Stmt):Prop where
  ex:∃ C fI fd,mg c=some (.ref C)∧ClsOk K c C∧ay3 K C fI=true∧FldK K C f∧Fun K "__init__" q st fI fd
end
end Dn
namespace Stt
open PySem
noncomputable def Rise (t:SetTable):Prop:=t.place.toList.Pairwise (· < ·)
theorem Rise.lt {t:SetTable} (h:Rise t) {i j:Nat} {x y:Nat} (hij:i < j) (hx:t.place[i]? = some x) (hy:t.place[j]? = some y):x < y:=by
  obtain ⟨hi,rfl⟩:=Array.getElem?_eq_some_iff.mp hx
  obtain ⟨hj,rfl⟩:=Array.getElem?_eq_some_iff.mp hy
  have:=List.pairwise_iff_getElem.mp h i j (by simpa using hi) (by simpa using hj) hij
  simpa using this
noncomputable def Cut (xs:Array Nat) (j p:Nat):Prop:=p≤xs.size∧(∀ i x,i < p→xs[i]? = some x→x < j)∧∀ i x,p≤i→xs[i]? = some x→j≤x
theorem aib {xs:Array Nat} (hs:xs.toList.Pairwise (· < ·)) (j:Nat):∀ (fuel lo hi:Nat),hi - lo≤fuel→lo≤hi→hi≤xs.size→(∀ i x,i < lo→xs[i]? = some x→x < j)→(∀ i x,hi≤i→xs[i]? = some x→j≤x) →
    Cut xs j (SetTable.below.go xs j fuel lo hi)
  | 0,lo,hi,hf,hle,hsz,a,b=>by
    have:lo=hi:=by omega
    subst this
    exact ⟨hsz,a,b⟩
  | fuel+1,lo,hi,hf,hle,hsz,a,b=>by
    unfold SetTable.below.go
    split
    · rename_i hlt
      dsimp only
      have hm:(lo+hi) / 2 < xs.size:=by omega
      have hg:xs.getD ((lo+hi) / 2) j=xs[(lo+hi) / 2]:=by simp [Array.getD,hm]
      have hx:xs[(lo+hi) / 2]? = some (xs[(lo+hi) / 2]):=by simp [hm]
      rw [hg]
      by_cases hc:xs[(lo+hi) / 2] < j
      · rw [if_pos hc]
        refine aib hs j fuel ((lo+hi) / 2+1) hi (by omega) (by omega) hsz (fun i x hi' hx' => ?_) b
        rcases Nat.lt_or_ge i ((lo+hi) / 2) with h | h
        · exact Nat.lt_trans (Rise.lt (t:={ mask:=0,place:=xs,dummies := #[],finger:=0,led:=true,moves:=0,plain:=true }) hs h hx' hx) hc
        · have:i=(lo+hi) / 2:=by omega
          subst this
          rw [hx] at hx'
          cases hx'
          exact hc
      · rw [if_neg hc]
        refine aib hs j fuel lo ((lo+hi) / 2) (by omega) (by omega) (by omega) a (fun i x hi' hx' => ?_)
        rcases Nat.lt_or_ge ((lo+hi) / 2) i with h | h
        · exact Nat.le_trans (Nat.not_lt.mp hc) (Nat.le_of_lt (Rise.lt (t:={ mask:=0,place:=xs,dummies := #[],finger:=0,led:=true,moves:=0,plain:=true }) hs h hx hx'))
        · have:i=(lo+hi) / 2:=by omega
          subst this
          rw [hx] at hx'
          cases hx'
          omega
    · have:lo=hi:=by omega
      subst this
      exact ⟨hsz,a,b⟩
theorem agc {xs:Array Nat} (hs:xs.toList.Pairwise (· < ·)) (j:Nat):Cut xs j (SetTable.below xs j) :=
  aib hs j xs.size 0 xs.size (by omega) (Nat.zero_le _) (Nat.le_refl _) (fun i x h _=>absurd h (Nat.not_lt_zero _)) fun i x h hx=>by
    obtain ⟨h',_⟩:=Array.getElem?_eq_some_iff.mp hx
    omega
theorem ani {t:SetTable} (h:Rise t):SetTable.below t.place 0=0:=by
  obtain ⟨hp,a,b⟩:=agc h 0
  rcases Nat.eq_zero_or_pos (SetTable.below t.place 0) with h0 | h0
  · exact h0
  · have h1:0 < t.place.size:=by omega
    exact absurd (a 0 t.place[0] h0 (by simp [h1])) (Nat.not_lt_zero _)
theorem anj {t:SetTable} (h:Rise t) {i x:Nat} (hx:t.place[i]? = some x):SetTable.below t.place (x+1)=i+1:=by
  obtain ⟨hp,a,b⟩:=agc h (x+1)
  rcases Nat.lt_trichotomy (SetTable.below t.place (x+1)) (i+1) with h1 | h1 | h1
  · have:=b i x (by omega) hx
    omega
  · exact h1
  · have h2:i+1 < t.place.size:=by omega
    have h3:t.place[i+1]? = some t.place[i+1]:=by simp [h2]
    have:=a (i+1) _ h1 h3
    have:=h.lt (Nat.lt_succ_self i) hx h3
    omega
theorem akd {t:SetTable} (h:Rise t) {j:Nat} (hj:t.place[SetTable.below t.place j]? ≠ some j):(SetTable.insertAt t.place (SetTable.below t.place j) j).toList.Pairwise (· < ·):=by
  obtain ⟨hp,a,b⟩:=agc h j
  rw [SetTable.toList_insertAt]
  generalize hq:SetTable.below t.place j=p at *
  rw [List.pairwise_append]
  refine ⟨List.Pairwise.sublist (List.take_sublist _ _) h,?_,?_⟩
  · rw [List.pairwise_cons]
    refine ⟨fun y hy => ?_,List.Pairwise.sublist (List.drop_sublist _ _) h⟩
    obtain ⟨i,hi,rfl⟩:=List.mem_iff_getElem.mp hy
    rw [List.length_drop,Array.length_toList] at hi
    rw [List.getElem_drop,Array.getElem_toList]
    have h1:t.place[p+i]? = some t.place[p+i]:=by simp
    have h2:=b (p+i) _ (by omega) h1
    rcases Nat.eq_or_lt_of_le h2 with e | e
    · exfalso
      rcases Nat.eq_zero_or_pos i with z | z
      · subst z
        exact hj (by rw [e]; exact h1)
      · have h3:t.place[p]? = some t.place[p]:=by simp
        have h4:=h.lt (show p < p+i by omega) h3 h1
        have h5:=b p _ (Nat.le_refl _) h3
        omega
    · exact e
  · intro x hx y hy
    have hxj:x < j:=by
      obtain ⟨i,hi,rfl⟩:=List.mem_iff_getElem.mp hx
      rw [List.length_take,Array.length_toList] at hi
      rw [List.getElem_take,Array.getElem_toList]
      exact a i _ (by omega) (by simp)
    rcases List.mem_cons.mp hy with rfl | hy
    · exact hxj
    · obtain ⟨i,hi,rfl⟩:=List.mem_iff_getElem.mp hy
      rw [List.length_drop,Array.length_toList] at hi
      rw [List.getElem_drop,Array.getElem_toList]
      have:=b (p+i) t.place[p+i] (by omega) (by simp)
      omega
noncomputable def Away (t:SetTable) (j:Nat):Prop:=t.place[SetTable.below t.place j]? ≠ some j
theorem aii {t:SetTable} {j:Nat} (h:∀ i,t.slot j≠.live i):Away t j:=fun e=>h (SetTable.below t.place j) (by
  unfold SetTable.slot
  dsimp only
  rw [if_pos (by rw [e]; exact beq_self_eq_true _)])
theorem adw {t:SetTable} {f:Nat→Int} {h:Int}:∀ (fuel:Nat) (p:SetTable.Probe) (j:Nat) (d:Option Nat),(∀ x,p.dummy=some x→Away t x)→SetTable.probe.go t f h fuel p=some (.empty j d)→Away t (d.getD j)
  | 0,p,j,d,_,e=>by cases e
  | fuel+1,p,j,d,hd,e=>by
    unfold SetTable.probe.go at e
    have adv:∀ q:SetTable.Probe,(t.advance q).dummy=q.dummy:=fun q=>by unfold SetTable.advance; split <;> rfl
    split at e
    · rename_i hs
      cases e
      cases hq:p.dummy with
      | none=>exact aii fun i z=>by rw [Option.getD_none,hs] at z; cases z
      | some x=>exact hd x hq
    · rename_i hs
      refine adw fuel _ j d (fun x hx => ?_) e
      rw [adv] at hx
      cases hx
      exact aii fun i z=>by rw [hs] at z; cases z
    · split at e
      · cases e
      · exact adw fuel _ j d (fun x hx=>by rw [adv] at hx; exact hd x hx) e
theorem api {t:SetTable} {h:Int} {j:Nat} {b:Bool} (e:t.freeSlot h=some (j,b)):Away t j:=by
  unfold SetTable.freeSlot at e
  split at e
  · rename_i j' d hp
    cases e
    exact adw _ _ j' d (fun x hx=>by cases hx) hp
  · cases e
theorem amy (n:Nat):(Array.range n).toList.Pairwise (· < ·):=by
  rw [Array.toList_range]
  exact List.pairwise_lt_range
noncomputable def Kept (b:Bool) (t:SetTable):Prop:=Rise t∧t.led=b
theorem Kept.standIn {b:Bool} {t:SetTable} (h:Kept b t) (n:Nat):Kept b (t.standIn n):=⟨amy n,h.2⟩
theorem akr {b:Bool} {t:SetTable} (h:Kept b t) (es:Array (Int×Value)) (k:Int) (x:Value):Kept b (layNew t es k x).2.1:=by
  unfold layNew
  split
  · rename_i slot wd e
    dsimp only
    have h':Kept b (t.put slot).1:=⟨akd h.1 (api e),h.2⟩
    unfold SetTable.orStandIn
    split
    · exact h'
    · exact h'.standIn _
  · exact h.standIn _
theorem ao1 {m f mv:Nat} {b p:Bool} {hs:Array Int} {t:SetTable} {o:Array Nat} (e:SetTable.laid m f mv b p hs=some (t,o)):Kept b t:=by
  unfold SetTable.laid at e
  cases e1:SetTable.layClean m hs with
  | none=>rw [e1] at e; cases e
  | some ow =>
    rw [e1] at e
    cases e
    refine ⟨?_,rfl⟩
    show List.Pairwise _ _
    dsimp only
    have h0:((List.range (m+1)).filterMap fun j=>(ow.getD j none).map (j,·)).map (·.1)=(List.range (m+1)).filter fun j=>(ow.getD j none).isSome:=by
      generalize List.range (m+1)=l
      induction l with
      | nil=>rfl
      | cons a r ih =>
        cases h:ow.getD a none with
        | none=>simp only [List.filterMap_cons,List.filter_cons,h,Option.map_none,Option.isSome_none]; simpa using ih
        | some z=>simp only [List.filterMap_cons,List.filter_cons,h,Option.map_some,Option.isSome_some,List.map_cons]; simpa using ih
    rw [h0]
    exact List.Pairwise.sublist List.filter_sublist List.pairwise_lt_range
theorem amw {b:Bool} {t:SetTable} (h:Kept b t) (es:Array (Int×Value)) (n:Nat):Kept b (relayAll t es n).2.1:=by
  unfold relayAll
  split
  · rename_i t' o e
    dsimp only
    split
    · have:=ao1 e
      rw [h.2] at this
      exact this
    · exact h.standIn _
  · exact h.standIn _
theorem ane (b:Bool):Kept b (.fresh 0 0 b):=⟨List.Pairwise.nil,rfl⟩
end Stt
namespace Stt
open PySem PySem.Spec PyProof.Rows
noncomputable def keyE (e:Int×Value):Int:=match e.2 with
  | .int k _=>k
  | _=>0
noncomputable def Ent (e:Int×Value):Prop:=∃ k u,e=(hashInt k,Value.int k u)
structure SetG (w:World) (es:Array (Int×Value)) (t:SetTable) (ns:List Int):Prop where
  ent:∀ e∈es.toList,Ent e
  nd:(es.toList.map keyE).Nodup
  mem:∀ k,k∈es.toList.map keyE↔k∈ns
  fit:t.fits es.size=true
  kept:Kept (!w.params.followText "set-order") t
noncomputable def setO (es:Array (Int×Value)) (ep:Nat) (t:SetTable):Obj:={ cls:=.type "set", dict:=none,data:=.set es ep t }
theorem SetG.elems {prog:Program} {w:World} {es:Array (Int×Value)} {t:SetTable} {ns:List Int} (g:SetG w es t ns):ElemsOf (intKind prog w) es.toList:=fun e he=>by
  obtain ⟨k,u,rfl⟩:=g.ent e he
  exact ⟨⟨k,intKind_is _ _ _ _,rfl⟩,rfl⟩
theorem SetG.empty (w:World):SetG w #[] (.fresh 0 0 (!w.params.followText "set-order")) []:=⟨fun e he=>by simp at he,List.Pairwise.nil,fun k=>by simp,rfl,ane _⟩
theorem aps {e:Int×Value} (h:Ent e) (k:Int):Value.isInt k e.2=true↔keyE e=k:=by
  obtain ⟨j,u,rfl⟩:=h
  simp [Value.isInt,keyE]
theorem SetG.push {w:World} {es es':Array (Int×Value)} {t t':SetTable} {ns:List Int} {k:Int} {u:Tok} (g:SetG w es t ns) (hn:k∉es.toList.map keyE) (hp:es'.toList.Perm (es.push (hashInt k,.int k u)).toList) (hf:t'.fits es'.size=true)
    (hk:Kept (!w.params.followText "set-order") t'):SetG w es' t' (ns++[k]):=by
  rw [Array.toList_push] at hp
  have hm:=hp.map keyE
  rw [List.map_append] at hm
  refine ⟨fun e he => ?_,?_,fun j => ?_,hf,hk⟩
  · rcases List.mem_append.mp (hp.mem_iff.mp he) with h | h
    · exact g.ent e h
    · rw [List.mem_singleton] at h
      exact ⟨k,u,h⟩
  · rw [hm.nodup_iff,List.nodup_append]
    refine ⟨g.nd,by simp,fun a ha b hb e => ?_⟩
    simp only [List.map_cons,List.map_nil,List.mem_singleton] at hb
    subst hb
    subst e
    exact hn ha
  · rw [hm.mem_iff,List.mem_append,List.mem_append,g.mem j]
    rfl
theorem SetG.perm {w:World} {es es':Array (Int×Value)} {t t':SetTable} {ns:List Int} (g:SetG w es t ns) (hp:es'.toList.Perm es.toList) (hf:t'.fits es'.size=true) (hk:Kept (!w.params.followText "set-order") t'):SetG w es' t' ns :=
  ⟨fun e he=>g.ent e (hp.mem_iff.mp he),(hp.map keyE).nodup_iff.mpr g.nd,fun k=>by rw [(hp.map keyE).mem_iff,g.mem k],hf,hk⟩
section
variable {prog:Program} {w:World} {A:Around} {E:Value→Shared→Prop} {s:Shared}
theorem aln {h:Heap} {a:Addr} {es es':Array (Int×Value)} {ep:Nat} {t t':SetTable} (ho:h.get? a=some (setO es ep t)):(h.update a (Obj.putSet es' t')).get? a=some (setO es' (ep+1) t'):=by
  have:=Heap.get?_update_self (Obj.putSet es' t') ho (by rw [putSet_of es' t' (o:=setO es ep t) rfl]; rfl)
  rw [putSet_of es' t' (o:=setO es ep t) rfl] at this
  exact this
theorem atn {a:Addr} {es es1:Array (Int×Value)} {ep:Nat} {t t2:SetTable} {ns:List Int} (g:Bool→Sem Unit) (hg:∀ (b:Bool) (s₁:Shared) (Q':Unit→Shared→Prop),Q' () s₁→wpAny (model prog w) A (g b) Q' E s₁)
    (ho:s.heap.get? a=some (setO es ep t)) (G:SetG w es1 t2 ns) (hb:es1.size < scanBound) {wasDummy:Bool} {R:Option Bool→Shared→Prop}
    (h:∀ h' es' ep' t',Heap.SameBut a s.heap h'→h'.get? a=some (setO es' ep' t')→SetG w es' t' ns→es'.size=es1.size→R (some true) { s with heap:=h' }) :
    wpAny (model prog w) A (do
        storeSet a es1 t2
        if (!wasDummy&&t2.tooFull)=true then do
            g (relayAll t2 es1 (SetTable.grown es1.size)).2.2
            storeSet a (relayAll t2 es1 (SetTable.grown es1.size)).1 (relayAll t2 es1 (SetTable.grown es1.size)).2.1
            pure (some true)
          else pure (some true)) R E s:=by
  refine wpAny_bind (wpAny_storeSet_of ho rfl ?_ (fits_of_scanBound hb))
  have h1:=aln (es':=es1) (t':=t2) ho
  have b1:=Heap.SameBut.update s.heap a (Obj.putSet es1 t2)
  split
  · have hp:=relayAll_perm t2 es1 (SetTable.grown es1.size)
    have hsz:(relayAll t2 es1 (SetTable.grown es1.size)).1.size=es1.size:=by rw [←Array.length_toList,hp.length_eq,Array.length_toList]
    refine wpAny_bind (hg _ _ _ ?_)
    refine wpAny_bind (wpAny_storeSet_of h1 rfl ?_ (fits_of_scanBound (by rw [hsz]; exact hb)))
    exact wpAny_pure (h _ _ _ _ (b1.trans (Heap.SameBut.update _ a _)) (aln h1) (G.perm hp (relayAll_fits _ _ _) (amw G.kept _ _)) hsz)
  · exact wpAny_pure (h _ _ _ _ b1 h1 G rfl)
theorem azp {a:Addr} {es:Array (Int×Value)} {ep:Nat} {t:SetTable} {ns:List Int} {k:Int} {u:Tok} {Q:Bool→Shared→Prop} (ho:s.heap.get? a=some (setO es ep t)) (G:SetG w es t ns) (hb:es.size+1 < scanBound)
    (h:∀ h' es' ep' t' b,Heap.SameBut a s.heap h'→h'.get? a=some (setO es' ep' t')→SetG w es' t' (ns++[k])→es'.size≤es.size+1→Q b { s with heap:=h' }) :
    wpAny (model prog w) A (setAddHashed a (.int k u) (hashInt k)) Q E s:=by
  have hel:ElemsOf (intKind prog w) es.toList:=G.elems
  have hkey:(intKind prog w).is k (.int k u)=true:=intKind_is _ _ _ _
  unfold setAddHashed setAddHashedIn
  refine wpAny_holding (wpAny_bind (wpAny_setState_of ho rfl G.fit ?_))
  dsimp only
  rw [byScan_of (knd:=intKind prog w) rfl (by omega) hel]
  simp only [↓reduceIte]
  unfold setAddByScan
  refine wpAny_bind ?_
  refine wpAny_bind (wpAny_rule ?_)
  refine wpAny_bind (wpAny_setScan_of (knd:=intKind prog w) hkey ho rfl G.fit hel ?_)
  cases hr:List.findIdx? (fun e=>(intKind prog w).is k e.2) es.toList with
  | some j =>
    dsimp only
    obtain ⟨hj,hpj,_⟩:=List.findIdx?_eq_some_iff_getElem.mp hr
    have hin:k∈es.toList.map keyE:=List.mem_map.mpr ⟨_,List.getElem_mem hj,(aps (G.ent _ (List.getElem_mem hj)) k).mp hpj⟩
    refine wpAny_pure (wpAny_pure ?_)
    refine h s.heap es ep t _ (Heap.SameBut.refl a s.heap) ho ⟨G.ent,G.nd,fun j' => ?_,G.fit,G.kept⟩ (by omega)
    rw [List.mem_append,List.mem_singleton,G.mem j']
    exact ⟨.inl,fun z=>z.elim id fun z=>z▸(G.mem k).mp hin⟩
  | none =>
    dsimp only
    have hout:k∉es.toList.map keyE:=fun z=>by
      obtain ⟨e,he,hk⟩:=List.mem_map.mp z
      have h1:=List.findIdx?_eq_none_iff.mp hr e he
      have h2:(intKind prog w).is k e.2=true:=(aps (G.ent e he) k).mpr hk
      rw [h2] at h1
      cases h1
    have hgw:∀ (b:Bool) {s₁:Shared} {Q':Unit→Shared→Prop},Q' () s₁→wpAny (model prog w) A (match b with | true=>rule "set.scan.the-table-gave-way" | false=>pure ()) Q' E s₁ :=
      fun b s₁ Q' hq=>by cases b <;> first | exact wpAny_pure hq | exact wpAny_rule hq
    have hperm:=layNew_perm t es (hashInt k) (.int k u)
    have hfits:=layNew_fits t es (hashInt k) (.int k u)
    have hkept:=akr G.kept es (hashInt k) (.int k u)
    show wpAny (model prog w) A _ _ _ _
    change wpAny (model prog w) A (match layNew t es (hashInt k) (.int k u) with | (es,t,wasDummy,gave)=>_) _ _ _
    generalize hL:layNew t es (hashInt k) (.int k u)=L at hperm hfits hkept ⊢
    obtain ⟨es1,t1,wasDummy,gave⟩:=L
    dsimp only at hperm hfits hkept ⊢
    have G1:=G.push hout hperm hfits hkept
    have hsz1:es1.size=es.size+1:=by rw [←Array.length_toList,hperm.length_eq,Array.length_toList,Array.size_push]
    refine wpAny_bind (hgw _ ?_)
    split
    · refine wpAny_bind ?_
      rw [hashByValue_scannable 8 rfl]
      refine wpAny_pure ?_
      refine atn _ ?_ ho (ns:=ns++[k]) ?_ (by omega) ?_
      · intro b s₁ Q' hq; cases b <;> first | exact wpAny_pure hq | exact wpAny_rule hq
      · exact G1
      · intro h' es' ep' t' hsb ho' G' hz
        exact wpAny_pure (h h' es' ep' t' _ hsb ho' G' (by omega))
    · refine wpAny_bind (wpAny_pure ?_)
      simp only [↓reduceIte]
      refine atn _ ?_ ho (ns:=ns++[k]) G1 (by omega) ?_
      · intro b s₁ Q' hq; cases b <;> first | exact wpAny_pure hq | exact wpAny_rule hq
      · intro h' es' ep' t' hsb ho' G' hz
        exact wpAny_pure (h h' es' ep' t' _ hsb ho' G' (by omega))
end
section
variable {prog:Program} {w:World} {A:Around} {R:Result→Shared→Prop} {I:Addr} {fp wr:List Addr} {G:Array GenState→Array GenState→Prop} {n:Nat} {P:Nat→Value→Prop} {St:Nat→Shared→Prop}
theorem atr (W:WalksS prog w A.in1 I fp wr G n P St) (S:Addr) (hSf:S∉fp) (val:Nat→Int) (hval:∀ i v,P i v→∃ t,v=.int (val i) t) (hb:n+1 < scanBound) :
    ∀ (k i:Nat) (s:Shared) (es:Array (Int×Value)) (ep:Nat) (t:SetTable),n - i=k→i≤n→St i s→s.heap.get? S=some (setO es ep t)→SetG w es t ((List.range i).map val)→es.size≤i →
      (∀ s' es' ep' t',Moved (S::wr) G s s'→s'.heap.get? S=some (setO es' ep' t')→SetG w es' t' ((List.range n).map val)→es'.size≤n→R (.ok (.ret .none)) s') →
      codeAny (model prog w) A (.builtin "set.update.loop" ⟨[.ref S,.ref I],[]⟩) R s:=by
  have hSw:S∉wr:=fun h=>hSf (W.sub _ h)
  have hsub:∀ b∈wr,b∈S::wr:=fun b hb=>List.mem_cons_of_mem _ hb
  intro k
  induction k with
  | zero =>
    intro i s es ep t hk hi hst ho g hz hR
    have hin:i=n:=by omega
    subst hin
    refine codeAny_builtin F.entry_set_update_loop ?_
    rw [Around.under_plainId F.plain_set_update_loop _]
    show wpAny _ A.in1 (pyNext (.ref I) >>= _) _ _ s
    refine wpAny_bind (W.done s _ _ hst fun s' hm => ?_)
    show wpAny _ A.in1 (ret Value.none) _ _ s'
    exact wpAny_pure (hR s' es ep t (hm.mono hsub) (hm.heap S _ hSw ho) g hz)
  | succ k ih =>
    intro i s es ep t hk hi hst ho g hz hR
    have hlt:i < n:=by omega
    refine codeAny_builtin F.entry_set_update_loop ?_
    rw [Around.under_plainId F.plain_set_update_loop _]
    show wpAny _ A.in1 (pyNext (.ref I) >>= _) _ _ s
    refine wpAny_bind (W.item i s _ _ hlt hst fun v s' hP hst' hm => ?_)
    obtain ⟨u,rfl⟩:=hval i v hP
    have ho':s'.heap.get? S=some (setO es ep t):=hm.heap S _ hSw ho
    show wpAny _ A.in1 (holding [Value.int (val i) u] (setAdd S (.int (val i) u)) >>= _) _ _ s'
    refine wpAny_bind (wpAny_holding ?_)
    unfold setAdd
    refine wpAny_holding ?_
    refine wpAny_bind ((intKind prog w).pyHash (k:=val i) (intKind_is _ _ _ _) ?_)
    refine azp (s:={ s' with toks:=s'.toks+1 }) (u:=u) (k:=val i) ho' g (by omega) fun h' es' ep' t' b hsb ho2 g2 hz2 => ?_
    have g3:SetG w es' t' ((List.range (i+1)).map val):=by
      rw [List.range_succ,List.map_append]
      exact g2
    refine wpAny_pure ⟨plainId_quiet F.plain_set_update_loop _,ih (i+1) _ es' ep' t' (by omega) hlt (W.frame _ s' _ _ hst' (Nat.le_succ _) fun b hb o e => ?_) ho2 g3 (by omega) fun s'' es'' ep'' t'' hm'' ho'' g'' hz'' => ?_⟩
    · rw [hsb.2 b (fun h:b=S=>hSf (by rw [←h]; exact hb))]; exact e
    · refine hR s'' es'' ep'' t'' (Moved.trans W.gtrans ((hm.mono hsub).then_heap (Nat.le_succ _) fun b o hb e => ?_) hm'') ho'' g'' hz''
      rw [hsb.2 b (fun h:b=S=>hb (by rw [h]; exact List.mem_cons_self))]; exact e
end
end Stt
namespace Stt
open PySem PySem.Spec PyProof.Rows
theorem sub_tuple_set:isSubtype (.type "tuple") (.type "set")=pure false:=by rw [isSubtype_type]; kernel_rfl
theorem sub_tuple_frozenset:isSubtype (.type "tuple") (.type "frozenset")=pure false:=by rw [isSubtype_type]; kernel_rfl
section
variable {prog:Program} {w:World} {A:Around} {E:Value→Shared→Prop} {s:Shared}
noncomputable abbrev fresh0 (w:World):Obj:=setO #[] 0 (.fresh 0 0 (!w.params.followText "set-order"))
theorem au1 (a:Value) {Q₁:Value→Shared→Prop} (h:Q₁ (.ref s.heap.objs.size) { s with heap:=s.heap.push (fresh0 w) }) :
    codeAny (model prog w) A (.call (.builtin "set.__new__") ⟨[.type "set", a],[]⟩) (wants Q₁ E) s:=by
  refine codeAny_of_tree ?_
  show wpAny _ A.in1 (do checkBuiltinCall "set.__new__" ⟨[.type "set", a],[]⟩; again (.builtin "set.__new__" ⟨[.type "set", a],[]⟩)) _ _ s
  refine wpAny_bind (wpAny_of_eq (F.newCall_set_1 a) (wpAny_pure ⟨plainId_quiet F.plain_set_new _,codeAny_builtin F.entry_set_new ?_⟩))
  rw [Around.under_plainId F.plain_set_new _]
  unfold Builtin.«set.__new__» Builtin.Frozenset.newClass
  have hsub:=sub_set_self
  obtain ⟨hp,g,d,tk,os⟩:=s
  dsimp only
  wp_walk
  refine wpAny_askSetting (wpAny_pure ?_)
  dsimp only
  simp only [newObj]
  refine wpAny_bind (wpAny_alloc (wpAny_pure ?_))
  exact wpAny_pure h
set_option maxRecDepth 100000 in
set_option maxHeartbeats 3200000 in
theorem awz {l:Addr} {items:Array Value} {ns:List Int} {Q:Value→Shared→Prop} (hh:A.handled=none) (hl:s.heap.IsTuple l items) (hi:IntsAre items.toList ns) (hb:items.size+1 < scanBound)
    (h:∀ (h':Heap) (tk:Nat) es ep t,h'.get? s.heap.objs.size=some (setO es ep t)→SetG w es t ns→es.size≤items.size→(∀ b o,s.heap.get? b=some o→h'.get? b=some o)→Q (.ref s.heap.objs.size) { s with heap:=h',toks:=tk }) :
    wpAny (model prog w) A (call (.type "set") [.ref l]) Q E s:=by
  obtain ⟨c,tl,hmro⟩:=F.called_set.mro
  have hmade:=F.called_set.made
  have hsub:=F.called_set.sub
  refine wpAny_call (codeAny_of_tree ?_)
  show wpAny _ _ (callAny (.type "set") _) _ _ _
  refine wpAny_pure ⟨Code.quiet_builtin _ (by decide +kernel),codeAny_builtin F.entry_type_call ?_⟩
  rw [Around.under_plain (weight_type_call_type "set" [.ref l] []) rfl]
  have h1:=F.called_set.notType
  have h2:=F.called_set.canCreate
  have hct:=F.typeCall_set_1 (.ref l)
  repeat (any_goals (first | assumption | wp_step))
  refine codeAny_mono (au1 (.ref l) (E:=E) (Q₁:=fun obj s₁=>obj=.ref s.heap.objs.size∧s₁={ s with heap:=s.heap.push (fresh0 w) }) ⟨rfl,rfl⟩) fun r s₁ hr => ?_
  cases r with
  | error e=>exact hr
  | ok fl =>
    cases fl with
    | ret obj =>
      obtain ⟨rfl,rfl⟩:=hr
      have hS:(s.heap.push (fresh0 w)).get? s.heap.objs.size=some (fresh0 w):=Heap.get?_push_size _ rfl
      have hT:Shared.TypeIs { s with heap:=s.heap.push (fresh0 w) } (.ref s.heap.objs.size) "set" := ⟨_,hS,rfl⟩
      have hli:=F.called_set.init.lookup
      have hbi:=F.called_set.init.bind (.ref s.heap.objs.size)
      repeat (any_goals (first | assumption | wp_step))
      refine codeAny_mono (codeAny_call_builtin (R:=wants (fun r s₂=>r=.none∧∃ h' tk es ep t,s₂={ s with heap:=h',toks:=tk }∧h'.get? s.heap.objs.size=some (setO es ep t)∧SetG w es t ns∧es.size≤items.size ∧
          (∀ b o,s.heap.get? b=some o→h'.get? b=some o)) E) F.called_set.init.plain F.entry_set_init (check_set_init_1 hT ?_)) fun r₂ s₂ hr₂ => ?_
      · obtain ⟨ol,hol,hcl,nl,hdl⟩:=hl
        obtain ⟨ocls,odict,odata,oslots⟩:=ol
        simp only at hcl hdl
        subst hcl; subst hdl
        have hol':(s.heap.push (fresh0 w)).get? l=some { cls:=.type "tuple", dict:=odict,data:=.seq items nl,slots:=oslots }:=Heap.get?_push_of_some _ hol
        have hsls:=sub_tuple_set
        have hslf:=sub_tuple_frozenset
        have hne:(Value.type "tuple" == Value.type "dict")=false:=by decide
        have hl1:(s.heap.push (fresh0 w)).IsTuple l items:=⟨_,hol',rfl,nl,rfl⟩
        unfold Builtin.«set.__init__» noKeywords Builtin.Frozenset.updateFrom
        generalize hPI:pyIter=PI
        wp_walk
        subst hPI
        refine wpAny_pyIter_tuple hl1 ?_
        refine wpAny_bind (wpAny_runValue ?_)
        have hlS:l < s.heap.objs.size:=Heap.lt_size hol
        have hh3:A.in1.in1.in1.handled=none:=by simp [hh]
        have hneI:l≠(s.heap.push (fresh0 w)).objs.size:=by
          rw [Heap.size_push]; exact Nat.ne_of_lt (Nat.lt_succ_of_lt hlS)
        have hSf:s.heap.objs.size∉[(s.heap.push (fresh0 w)).objs.size,l]:=by
          rw [Heap.size_push]; simp only [List.mem_cons,List.mem_singleton,List.not_mem_nil,or_false,not_or]
          exact ⟨Nat.ne_of_lt (Nat.lt_succ_self _),Nat.ne_of_gt hlS⟩
        have hval:∀ (i:Nat) (v:Value),items[i]? = some v→∃ t,v=.int ((fun i=>ns.getD i 0) i) t:=fun i v hv =>
          PyProof.Rows.IntsAre.int_at hi i v (by rw [Array.getElem?_toList]; exact hv)
        have hlen:items.size=ns.length:=by rw [←Array.length_toList]; exact hi.length
        have hns:(List.range items.size).map (fun i=>ns.getD i 0)=ns:=by
          rw [hlen]
          apply List.ext_getElem
          · simp
          · intro i h1 h2
            simp [List.getD_eq_getElem?_getD,h2]
        refine atr ((Walks.tuple hh3 _ l hneI items).toS) s.heap.objs.size hSf (fun i=>ns.getD i 0) hval hb (items.size - 0) 0 _ #[] 0 _ (by omega) (Nat.zero_le _)
          ⟨⟨_,Heap.get?_push_size _ rfl,rfl,rfl⟩,(hl1.push _)⟩ (Heap.get?_push_of_some _ hS) (SetG.empty w) (Nat.zero_le _) ?hR
        case hR =>
          intro s' es ep t hm ho' g' hz'
          rw [hns] at g'
          obtain ⟨h',g₀,d',tk',os'⟩:=s'
          have eg:g₀=s.gens:=hm.gens
          have ed:d'=s.drawn:=hm.drawn
          have eo:os'=s.os:=hm.os
          subst eg; subst ed; subst eo
          show wpAny _ _ _ _ _ _
          refine wpAny_pure ?_
          show wpAny _ _ (ret Value.none) _ _ _
          refine wpAny_pure ⟨rfl,h',tk',es,ep,t,rfl,ho',g',hz',fun b o e => ?_⟩
          have hlt:=Heap.lt_size e
          have hb1:b≠s.heap.objs.size:=Nat.ne_of_lt hlt
          have hb2:b≠(s.heap.push (fresh0 w)).objs.size:=by
            rw [Heap.size_push]; exact Nat.ne_of_lt (Nat.lt_succ_of_lt hlt)
          exact hm.heap b o (by simp only [List.mem_cons,List.mem_singleton,List.not_mem_nil,or_false,not_or]; exact ⟨hb1,hb2⟩) (Heap.get?_push_of_some _ (Heap.get?_push_of_some _ e))
      · cases r₂ with
        | error e=>exact hr₂
        | ok fl₂ =>
          cases fl₂ with
          | ret r =>
            obtain ⟨rfl,h',tk,es,ep,t,rfl,hS',g',hz',hk'⟩:=hr₂
            repeat (any_goals (first | assumption | wp_step))
            exact h _ _ _ _ _ hS' g' hz' hk'
          | _=>exact hr₂.elim
    | _=>exact hr.elim
end
end Stt
namespace Stt
open PySem PySem.Spec PyProof.Rows
theorem agi:entryFor table "set.__iter__" = some Builtin.«frozenset.__iter__» :=
  entryFor_alias (id' := "frozenset.__iter__") (by kernel_rfl) rfl (by decide +kernel) (by kernel_rfl)
theorem gw:Slot "set_iterator" "__next__" "set_iterator.__next__" :=
  .of (owner := "set_iterator") (n := "__next__") (by rw [typeLookup_type,builtinLookup_eq_fast]; kernel_rfl) (by decide +kernel) (by decide +kernel) (by decide +kernel)
    (by first | exact .inl (by decide +kernel) | exact .inr (by decide +kernel)) (by rw [isSubtype_type]; kernel_rfl)
theorem wz:entryFor table "set_iterator.__next__" = some Builtin.«set_iterator.__next__» := entryFor_of_tree (by kernel_rfl)
theorem aef:Slot "set_iterator" "__iter__" "set_iterator.__iter__" :=
  .of (owner := "set_iterator") (n := "__iter__") (by rw [typeLookup_type,builtinLookup_eq_fast]; kernel_rfl) (by decide +kernel) (by decide +kernel) (by decide +kernel)
    (by first | exact .inl (by decide +kernel) | exact .inr (by decide +kernel)) (by rw [isSubtype_type]; kernel_rfl)
theorem ah8:entryFor table "set_iterator.__iter__" = some Builtin.«dict_keyiterator.__iter__» :=
  entryFor_alias (id' := "dict_keyiterator.__iter__") (by kernel_rfl) rfl (by decide +kernel) (by kernel_rfl)
theorem alv:Manifest.owners.lookup (String.ofList ['r','o','t','a','r','e','t','i','_','t','e','s'].reverse)=some Manifest.sig_set_iterator:=by kernel_rfl
theorem zu (a:Value):argsOk "set_iterator.__next__" ⟨[a],[]⟩:=by
  unfold argsOk; rw [signature?_of (id := "set_iterator.__next__") (n:=['_','_','t','x','e','n','_','_']) (o:=['r','o','t','a','r','e','t','i','_','t','e','s']) (by kernel_rfl) alv]; kernel_rfl
theorem aj4 (a:Value):argsOk "set_iterator.__iter__" ⟨[a],[]⟩:=by
  unfold argsOk; rw [signature?_of (id := "set_iterator.__iter__") (n:=['_','_','r','e','t','i','_','_']) (o:=['r','o','t','a','r','e','t','i','_','t','e','s']) (by kernel_rfl) alv]; kernel_rfl
end Stt
namespace Stt
open PySem PySem.Spec PyProof.Rows
noncomputable def IsSI (h:Heap) (I S:Addr) (first:Value) (i n ep:Nat):Prop:=∃ o,h.get? I=some o∧o.cls=.type "set_iterator" ∧ o.data=.fields #[first,.int i 0,.ref S,.int n 0,.int ep 0]
theorem IsSI.typeIs {s:Shared} {I S:Addr} {first:Value} {i n ep:Nat} (x:IsSI s.heap I S first i n ep):s.TypeIs (.ref I) "set_iterator" := let ⟨o,ho,hc,_⟩:=x; ⟨o,ho,hc⟩
theorem IsSI.at {h h':Heap} {I S:Addr} {first:Value} {i n ep:Nat} (x:IsSI h I S first i n ep) (e:∀ o,h.get? I=some o→h'.get? I=some o):IsSI h' I S first i n ep:=let ⟨o,ho,r⟩:=x; ⟨o,e _ ho,r⟩
section
variable {prog:Program} {w:World} {A:Around} {E:Value→Shared→Prop} {s:Shared}
theorem aj9 {I S:Addr} {first:Value} {i n ep:Nat} {Q:Value→Shared→Prop} (hit:IsSI s.heap I S first i n ep) (h:Q (.ref I) s):wpAny (model prog w) A (pyIter (.ref I)) Q E s:=by
  refine wpAny_pyIter_slot hit.typeIs aef (wpAny_call_entry aef hit.typeIs ah8 ?_ (aj4 _))
  show wpAny _ _ (ret (.ref I)) _ _ s
  exact wpAny_pure ⟨_,rfl, "set_iterator", _,hit.typeIs,gw.lookup,h⟩
theorem aoa {I S:Addr} {slot i:Nat} {es:Array (Int×Value)} {ep:Nat} {t:SetTable} {Q:Option Value→Shared→Prop} {x:Value} {slot':Nat} (hit:IsSI s.heap I S (.int slot 0) i es.size ep) (ho:s.heap.get? S=some (setO es ep t)) (hf:t.fits es.size=true)
    (hn:∀ (A':Around) (Q':Option (Value×Nat)→Shared→Prop) (E':Value→Shared→Prop),Q' (some (x,slot')) s→wpAny (model prog w) A' (setNext S slot i ep) Q' E' s)
    (hQ:∀ h',IsSI h' I S (.int slot' 0) (i+1) es.size ep→Heap.SameBut I s.heap h'→Q (some x) { s with heap:=h' }) :
    wpAny (model prog w) A (pyNext (.ref I)) Q E s:=by
  obtain ⟨o,hI,hc,hd⟩:=id hit
  unfold pyNext
  refine wpAny_bind (wpAny_attempt (wpAny_callSpecial?_slot (name:=Str.ofString "__next__") hit.typeIs gw
    (wpAny_call_entry gw hit.typeIs wz ?_ (zu _))))
  refine wpAny_bind (wpAny_pure ?_)
  refine wpAny_bind (wpAny_fieldsOf hI hd ?_)
  dsimp only
  refine wpAny_bind (wpAny_setEntries_of ho rfl hf ?_)
  rw [if_neg (by simp)]
  simp only [Int.toNat_natCast]
  refine wpAny_bind (hn _ _ _ ?_)
  dsimp only
  refine wpAny_bind (wpAny_setField hI hd (by simp) ?_)
  have h1:=Heap.get?_update_self (Obj.mapFields (·.setIfInBounds 0 (rawInt (slot':Int)))) hI (Obj.isFreed_of_fields (Obj.data_mapFields hd _))
  refine wpAny_bind (wpAny_setField h1 (Obj.data_mapFields hd _) (by simp) ?_)
  refine wpAny_pure ⟨_,rfl,wpAny_pure (hQ _ ?_ ((Heap.SameBut.update ..).trans (Heap.SameBut.update ..)))⟩
  exact ⟨_,Heap.get?_update_self _ h1 (Obj.isFreed_of_fields (Obj.data_mapFields (Obj.data_mapFields hd _) _)),(Obj.cls_mapFields ..).trans ((Obj.cls_mapFields ..).trans hc),by
    rw [Obj.data_mapFields (Obj.data_mapFields hd _)]; simp [rawInt]⟩
theorem as5 {I S:Addr} {slot i:Nat} {es:Array (Int×Value)} {ep:Nat} {t:SetTable} {Q:Option Value→Shared→Prop} (hh:A.handled=none) (hit:IsSI s.heap I S (.int slot 0) i es.size ep) (ho:s.heap.get? S=some (setO es ep t)) (hf:t.fits es.size=true)
    (hn:∀ (A':Around) (Q':Option (Value×Nat)→Shared→Prop) (E':Value→Shared→Prop),Q' none s→wpAny (model prog w) A' (setNext S slot i ep) Q' E' s)
    (hQ:∀ h',Heap.ExtBut I s.heap h'→Q none { s with heap:=h' }):wpAny (model prog w) A (pyNext (.ref I)) Q E s:=by
  obtain ⟨o,hI,hc,hd⟩:=id hit
  unfold pyNext
  refine wpAny_bind (wpAny_attempt (wpAny_callSpecial?_slot (name:=Str.ofString "__next__") hit.typeIs gw
    (wpAny_call_entry gw hit.typeIs wz ?_ (zu _))))
  refine wpAny_bind (wpAny_pure ?_)
  refine wpAny_bind (wpAny_fieldsOf hI hd ?_)
  dsimp only
  refine wpAny_bind (wpAny_setEntries_of ho rfl hf ?_)
  rw [if_neg (by simp)]
  simp only [Int.toNat_natCast]
  refine wpAny_bind (hn _ _ _ ?_)
  dsimp only
  refine wpAny_bind (wpAny_setField hI hd (by simp) ?_)
  show wpAny _ _ (newExc (.type "StopIteration") [] >>= _) _ _ _
  refine wpAny_bind ?_
  simp only [newExc,newTuple]
  refine wpAny_bind (wpAny_newObj_type ?_ (by size_fits))
  refine wpAny_bind (m:=firstArgMember _ _) (wpAny_of_eq (a:=Value.none) (by first | rfl | (simp only [firstArgMember]; rfl)) ?_)
  refine wpAny_newObj_type ?_ (by size_fits)
  simp only [raiseNew]
  refine wpAny_bind (wpAny_handled ?_)
  rw [show A.in1.handled=none from hh]
  refine wpAny_bind (wpAny_pure (wpAny_throw ?_))
  refine wpAny_bind (wpAny_isInstance (T := "StopIteration") (b:=true) ⟨_,Heap.get?_push_size _ rfl,rfl⟩ isSubtype_stop ?_)
  exact wpAny_pure (hQ _ (((Heap.SameBut.update ..).extBut.push _).push _))
theorem aq0 {I S q:Addr} {i j m:Nat} {es:Array (Int×Value)} {ep:Nat} {t:SetTable} {Q:Option Value→Shared→Prop} {x:Int×Value} {ps:Array Value} (hit:IsSI s.heap I S (.ref q) i es.size ep) (ho:s.heap.get? S=some (setO es ep t)) (hf:t.fits es.size=true)
    (hq:∃ oq,s.heap.get? q=some oq∧oq.data=.seq ps m) (hp:ps[i]? = some (.int (j:Nat) 0)) (hx:es[j]? = some x)
    (hQ:∀ h',IsSI h' I S (.ref q) (i+1) es.size ep→Heap.SameBut I s.heap h'→Q (some x.2) { s with heap:=h' }) :
    wpAny (model prog w) A (pyNext (.ref I)) Q E s:=by
  obtain ⟨o,hI,hc,hd⟩:=id hit
  obtain ⟨oq,hoq,hdq⟩:=hq
  unfold pyNext
  refine wpAny_bind (wpAny_attempt (wpAny_callSpecial?_slot (name:=Str.ofString "__next__") hit.typeIs gw
    (wpAny_call_entry gw hit.typeIs wz ?_ (zu _))))
  refine wpAny_bind (wpAny_pure ?_)
  refine wpAny_bind (wpAny_fieldsOf hI hd ?_)
  dsimp only
  refine wpAny_bind (wpAny_setEntries_of ho rfl hf ?_)
  rw [if_neg (by simp)]
  refine wpAny_bind (wpAny_seqItems hoq hdq ?_)
  dsimp only
  simp only [Int.toNat_natCast,hp]
  unfold setNextDrawn
  refine wpAny_bind (wpAny_bind (wpAny_setState_of ho rfl hf ?_))
  dsimp only
  rw [if_neg (by simp)]
  rw [hx]
  refine wpAny_pure ?_
  refine wpAny_bind (wpAny_setField hI hd (by simp) ?_)
  refine wpAny_pure ⟨_,rfl,wpAny_pure (hQ _ ?_ (Heap.SameBut.update ..))⟩
  exact ⟨_,Heap.get?_update_self _ hI (Obj.isFreed_of_fields (Obj.data_mapFields hd _)),(Obj.cls_mapFields ..).trans hc,by
    rw [Obj.data_mapFields hd]; simp [rawInt]⟩
theorem aik {I S q:Addr} {i m:Nat} {es:Array (Int×Value)} {ep:Nat} {t:SetTable} {Q:Option Value→Shared→Prop} {ps:Array Value} (hh:A.handled=none) (hit:IsSI s.heap I S (.ref q) i es.size ep) (ho:s.heap.get? S=some (setO es ep t)) (hf:t.fits es.size=true)
    (hq:∃ oq,s.heap.get? q=some oq∧oq.data=.seq ps m) (hp:ps[i]? = none)
    (hQ:∀ h',Heap.ExtBut I s.heap h'→Q none { s with heap:=h' }):wpAny (model prog w) A (pyNext (.ref I)) Q E s:=by
  obtain ⟨o,hI,hc,hd⟩:=id hit
  obtain ⟨oq,hoq,hdq⟩:=hq
  unfold pyNext
  refine wpAny_bind (wpAny_attempt (wpAny_callSpecial?_slot (name:=Str.ofString "__next__") hit.typeIs gw
    (wpAny_call_entry gw hit.typeIs wz ?_ (zu _))))
  refine wpAny_bind (wpAny_pure ?_)
  refine wpAny_bind (wpAny_fieldsOf hI hd ?_)
  dsimp only
  refine wpAny_bind (wpAny_setEntries_of ho rfl hf ?_)
  rw [if_neg (by simp)]
  refine wpAny_bind (wpAny_seqItems hoq hdq ?_)
  dsimp only
  simp only [Int.toNat_natCast,hp]
  refine wpAny_bind (wpAny_setField hI hd (by simp) ?_)
  have h1:=Heap.get?_update_self (Obj.mapFields (·.setIfInBounds 0 (rawInt 0))) hI (Obj.isFreed_of_fields (Obj.data_mapFields hd _))
  refine wpAny_bind (wpAny_setField h1 (Obj.data_mapFields hd _) (by simp) ?_)
  show wpAny _ _ (newExc (.type "StopIteration") [] >>= _) _ _ _
  refine wpAny_bind ?_
  simp only [newExc,newTuple]
  refine wpAny_bind (wpAny_newObj_type ?_ (by size_fits))
  refine wpAny_bind (m:=firstArgMember _ _) (wpAny_of_eq (a:=Value.none) (by first | rfl | (simp only [firstArgMember]; rfl)) ?_)
  refine wpAny_newObj_type ?_ (by size_fits)
  simp only [raiseNew]
  refine wpAny_bind (wpAny_handled ?_)
  rw [show A.in1.handled=none from hh]
  refine wpAny_bind (wpAny_pure (wpAny_throw ?_))
  refine wpAny_bind (wpAny_isInstance (T := "StopIteration") (b:=true) ⟨_,Heap.get?_push_size _ rfl,rfl⟩ isSubtype_stop ?_)
  exact wpAny_pure (hQ _ ((((Heap.SameBut.update ..).trans (Heap.SameBut.update ..)).extBut.push _).push _))
end
end Stt
namespace Stt
open PySem PySem.Spec PyProof.Rows
section
variable {prog:Program} {w:World} {A:Around} {E:Value→Shared→Prop} {s:Shared}
theorem aga {Q:Bool→Shared→Prop} (h:Q (w.params.followText "set-order") s):wpAny (model prog w) A setsByText Q E s:=by
  unfold setsByText
  exact wpAny_bind (wpAny_askSetting (wpAny_pure h))
theorem am4 {S:Addr} {slot g i j:Nat} {es:Array (Int×Value)} {ep:Nat} {t:SetTable} {e:Int×Value} {Q:Option (Value×Nat)→Shared→Prop} (ho:s.heap.get? S=some (setO es ep t)) (hf:t.fits es.size=true)
    (hw:w.params.followText "set-order" = false) (hd:(!t.plain&&decide (es.size > 1))=false) (hl:t.led=true) (hb:SetTable.below t.place slot=i) (he:es[i]? = some e) (hp:t.place[i]? = some j)
    (h:Q (some (e.2,j+1)) s):wpAny (model prog w) A (setNext S slot g ep) Q E s:=by
  unfold setNext
  refine wpAny_bind (wpAny_setState_of ho rfl hf ?_)
  dsimp only
  refine wpAny_bind (aga ?_)
  rw [hw,if_neg (by simp)]
  show wpAny _ _ (if (!t.plain&&decide (es.size > 1))=true then _ else _) _ _ _
  rw [hd,if_neg (by simp)]
  refine wpAny_bind (m:=if (!t.led && !es.isEmpty)=true then _ else _) ?_
  rw [hl,if_neg (by simp)]
  refine wpAny_pure ?_
  rw [hb,he,hp]
  exact wpAny_pure h
theorem aov {S:Addr} {slot g i:Nat} {es:Array (Int×Value)} {ep:Nat} {t:SetTable} {Q:Option (Value×Nat)→Shared→Prop} (ho:s.heap.get? S=some (setO es ep t)) (hf:t.fits es.size=true)
    (hw:w.params.followText "set-order" = false) (hd:(!t.plain&&decide (es.size > 1))=false) (hl:t.led=true) (hb:SetTable.below t.place slot=i) (he:es[i]? = none)
    (h:Q none s):wpAny (model prog w) A (setNext S slot g ep) Q E s:=by
  unfold setNext
  refine wpAny_bind (wpAny_setState_of ho rfl hf ?_)
  dsimp only
  refine wpAny_bind (aga ?_)
  rw [hw,if_neg (by simp)]
  show wpAny _ _ (if (!t.plain&&decide (es.size > 1))=true then _ else _) _ _ _
  rw [hd,if_neg (by simp)]
  refine wpAny_bind (m:=if (!t.led && !es.isEmpty)=true then _ else _) ?_
  rw [hl,if_neg (by simp)]
  refine wpAny_pure ?_
  rw [hb,he]
  exact wpAny_pure h
theorem ai2 {S:Addr} {slot g:Nat} {es:Array (Int×Value)} {ep:Nat} {t:SetTable} {Q:Option (Value×Nat)→Shared→Prop} (ho:s.heap.get? S=some (setO es ep t)) (hf:t.fits es.size=true)
    (hw:w.params.followText "set-order" = true) (h:Q (((pickOrder (w.params.setOrder S ep) es)[g]?).map fun e=>(e.2,slot)) s):wpAny (model prog w) A (setNext S slot g ep) Q E s:=by
  unfold setNext
  refine wpAny_bind (wpAny_setState_of ho rfl hf ?_)
  dsimp only
  refine wpAny_bind (aga ?_)
  rw [hw,if_pos rfl,if_neg (by simp)]
  unfold setWalk
  refine wpAny_bind (wpAny_bind (wpAny_setState_of ho rfl hf ?_))
  dsimp only
  refine wpAny_bind (aga ?_)
  rw [hw,if_pos rfl]
  exact wpAny_bind (wpAny_askSetting (wpAny_pure (wpAny_pure h)))
theorem ad5 {α:Type}:∀ (l:List α) (i:Nat) (x:α),l[i]? = some x→(x::l.eraseIdx i).Perm l
  | [],i,x,h=>by simp at h
  | a::r,0,x,h=>by simp at h; subst h; exact .refl _
  | a::r,i+1,x,h=>by
    rw [List.getElem?_cons_succ] at h
    exact (List.Perm.swap a x _).trans ((ad5 r i x h).cons a)
theorem aol {α:Type} (next:Nat→Nat):∀ (fuel k:Nat) (left:List α) (out:Array α),left.length=fuel→(pickOrder.go next fuel k left out).toList.Perm (out.toList++left)
  | 0,k,left,out,h=>by
    have:left=[]:=List.length_eq_zero_iff.mp h
    subst this
    show out.toList.Perm _
    simp
  | fuel+1,k,left,out,h=>by
    have hlt:next k % left.length < left.length:=Nat.mod_lt _ (by omega)
    unfold pickOrder.go
    have hx:left[next k % left.length]? = some left[next k % left.length]:=List.getElem?_eq_getElem hlt
    rw [hx]
    dsimp only
    have hlen:(left.eraseIdx (next k % left.length)).length=fuel:=by rw [List.length_eraseIdx_of_lt hlt]; omega
    refine (aol next fuel (k+1) _ _ hlen).trans ?_
    rw [Array.toList_push,List.append_assoc]
    exact List.Perm.append_left _ (ad5 _ _ _ hx)
theorem afe {α:Type} (next:Nat→Nat) (xs:Array α):(pickOrder next xs).toList.Perm xs.toList:=by
  have:=aol next xs.size 0 xs.toList #[] (by simp)
  simpa [pickOrder] using this
theorem ag1:∀ (n:Nat) {α:Type} (xs:List α) (s:Shared) (Q:List α→Shared→Prop),xs.length=n→(∀ ys d,ys.Perm xs→Q ys { s with drawn:=d })→wpAny (model prog w) A (drawOrder n xs) Q E s
  | 0,α,xs,s,Q,h,q=>by
    have:xs=[]:=List.length_eq_zero_iff.mp h
    subst this
    exact wpAny_pure (q [] s.drawn (.refl _))
  | n+1,α,[],s,Q,h,q=>by cases h
  | n+1,α,x::r,s,Q,h,q=>by
    unfold drawOrder
    intro Γ p hΓ
    show (x::r).length≠0∧_
    refine ⟨by simp,?_⟩
    revert Γ p hΓ
    show wpAny _ _ (match (x::r)[(model prog w).w.draws .order (s.drawn.get .order) % (x::r).length]? with | some y=>_ | none=>_) _ _ _
    have hlt:(model prog w).w.draws .order (s.drawn.get .order) % (x::r).length < (x::r).length:=Nat.mod_lt _ (by simp)
    have hx:=List.getElem?_eq_getElem hlt
    rw [hx]
    refine wpAny_bind (ag1 n _ _ _ (by rw [List.length_eraseIdx_of_lt hlt]; simpa using h) fun ys d hp => ?_)
    exact wpAny_pure (q _ _ ((hp.cons _).trans (ad5 _ _ _ hx)))
end
end Stt
namespace Stt
open PySem PySem.Spec PyProof.Rows
noncomputable def PW (ord:Array (Int×Value)) (i:Nat) (v:Value):Prop:=∃ e,ord[i]? = some e∧v=e.2
theorem aka {h h':Heap} {I S:Addr} {o:Obj} (hne:S≠I) (ho:h.get? S=some o) (hs:Heap.SameBut I h h'):h'.get? S=some o:=(hs.2 S hne).trans ho
theorem apm {t:SetTable} {n:Nat} (h:t.fits n=true):t.place.size=n:=by
  unfold SetTable.fits at h
  rw [Bool.and_eq_true] at h
  exact eq_of_beq h.1
section
variable {prog:Program} {w:World} {A:Around}
theorem aqu (hh:A.handled=none) (I S:Addr) (hne:S≠I) {es:Array (Int×Value)} {ep:Nat} {t:SetTable} (hf:t.fits es.size=true) (hw:w.params.followText "set-order" = true) :
    Walks prog w A I [I,S] [I] es.size (PW (pickOrder (w.params.setOrder S ep) es)) (fun i h=>IsSI h I S (.int (0:Nat) 0) i es.size ep∧h.get? S=some (setO es ep t)) where
  sub:=fun b hb=>by simp at hb; simp [hb]
  frame:=fun _ _ _ st hk=>⟨st.1.at fun o e=>hk I (by simp) o e,hk S (by simp) _ st.2⟩
  item:=fun i s Q E hi st hQ=>by
    have hsz:(pickOrder (w.params.setOrder S ep) es).size=es.size:=by rw [←Array.length_toList,(afe _ _).length_eq,Array.length_toList]
    have hx:(pickOrder (w.params.setOrder S ep) es)[i]? = some (pickOrder (w.params.setOrder S ep) es)[i]:=by simp [hsz,hi]
    refine aoa (x:=((pickOrder (w.params.setOrder S ep) es)[i]).2) (slot':=0) st.1 st.2 hf (fun A' Q' E' q=>ai2 st.2 hf hw (by rw [hx]; exact q)) fun h' hit' hs' => ?_
    exact hQ _ h' s.toks ⟨_,hx,rfl⟩ ⟨hit',aka hne st.2 hs'⟩ fun b o hb e=>hs'.extBut b o (fun h=>hb (by simp [h])) e
  done:=fun s Q E st hQ=>by
    have hsz:(pickOrder (w.params.setOrder S ep) es).size=es.size:=by rw [←Array.length_toList,(afe _ _).length_eq,Array.length_toList]
    refine as5 hh st.1 st.2 hf (fun A' Q' E' q=>ai2 st.2 hf hw (by rw [Array.getElem?_eq_none (by omega)]; exact q)) fun h' he'=>hQ h' s.toks fun b o hb e=>he' b o (fun h=>hb (by simp [h])) e
  self:=fun _ _ _ _ st hQ=>aj9 st.1 hQ
theorem anr (hh:A.handled=none) (I S:Addr) (hne:S≠I) {es:Array (Int×Value)} {ep:Nat} {t:SetTable} (hf:t.fits es.size=true) (hw:w.params.followText "set-order" = false) (hr:Rise t) (hd:(!t.plain&&decide (es.size > 1))=false) (hl:t.led=true) :
    Walks prog w A I [I,S] [I] es.size (PW es) (fun i h=>(∃ slot:Nat,SetTable.below t.place slot=i∧IsSI h I S (.int slot 0) i es.size ep)∧h.get? S=some (setO es ep t)) where
  sub:=fun b hb=>by simp at hb; simp [hb]
  frame:=fun _ _ _ ⟨⟨slot,hb,st⟩,ho⟩ hk=>⟨⟨slot,hb,st.at fun o e=>hk I (by simp) o e⟩,hk S (by simp) _ ho⟩
  item:=fun i s Q E hi ⟨⟨slot,hb,st⟩,ho⟩ hQ=>by
    have hx:es[i]? = some es[i]:=by simp [hi]
    have hps:=apm hf
    have hp:t.place[i]? = some (t.place[i]):=by simp [hps,hi]
    refine aoa (x:=(es[i]).2) (slot':=t.place[i]+1) st ho hf (fun A' Q' E' q=>am4 ho hf hw hd hl hb hx hp q) fun h' hit' hs' => ?_
    exact hQ _ h' s.toks ⟨_,hx,rfl⟩ ⟨⟨_,anj hr hp,hit'⟩,aka hne ho hs'⟩ fun b o hb e=>hs'.extBut b o (fun h=>hb (by simp [h])) e
  done:=fun s Q E ⟨⟨slot,hb,st⟩,ho⟩ hQ=>by
    refine as5 hh st ho hf (fun A' Q' E' q=>aov ho hf hw hd hl hb (Array.getElem?_eq_none (Nat.le_refl _)) q) fun h' he'=>hQ h' s.toks fun b o hb e=>he' b o (fun h=>hb (by simp [h])) e
  self:=fun _ _ _ _ ⟨⟨slot,hb,st⟩,ho⟩ hQ=>aj9 st hQ
theorem ant (hh:A.handled=none) (I S q:Addr) (hne:S≠I) (hq:q≠I) {es:Array (Int×Value)} {ep:Nat} {t:SetTable} (hf:t.fits es.size=true) (js:List Nat) (hj:js.Perm (List.range es.size)) :
    Walks prog w A I [I,S,q] [I] es.size (PW (js.map fun j=>es.getD j (0,.none)).toArray) (fun i h=>IsSI h I S (.ref q) i es.size ep∧h.get? S=some (setO es ep t)∧∃ oq m,h.get? q=some oq∧oq.data=.seq (js.map fun (j:Nat)=>rawInt j).toArray m) where
  sub:=fun b hb=>by simp at hb; simp [hb]
  frame:=fun _ _ _ ⟨st,ho,oq,m,h1,h2⟩ hk=>⟨st.at fun o e=>hk I (by simp) o e,hk S (by simp) _ ho,oq,m,hk q (by simp) _ h1,h2⟩
  item:=fun i s Q E hi ⟨st,ho,oq,m,h1,h2⟩ hQ=>by
    have hlen:js.length=es.size:=by rw [hj.length_eq,List.length_range]
    have hjlt:js[i] < es.size:=List.mem_range.mp (hj.mem_iff.mp (List.getElem_mem (by omega)))
    have hx:es[js[i]]? = some es[js[i]]:=by simp [hjlt]
    refine aq0 (j:=js[i]) (x:=es[js[i]]) st ho hf ⟨oq,h1,h2⟩ (by simp [hlen,hi,rawInt]) hx fun h' hit' hs' => ?_
    refine hQ _ h' s.toks ⟨es[js[i]],?_,rfl⟩ ⟨hit',aka hne ho hs',oq,m,(hs'.2 q hq).trans h1,h2⟩ fun b o hb e=>hs'.extBut b o (fun h=>hb (by simp [h])) e
    simp [hlen,hi,Array.getD,hjlt]
  done:=fun s Q E ⟨st,ho,oq,m,h1,h2⟩ hQ=>by
    have hlen:js.length=es.size:=by rw [hj.length_eq,List.length_range]
    refine aik hh st ho hf ⟨oq,h1,h2⟩ (by simp [hlen]) fun h' he'=>hQ h' s.toks fun b o hb e=>he' b o (fun h=>hb (by simp [h])) e
  self:=fun _ _ _ _ st hQ=>aj9 st.1 hQ
variable {E:Value→Shared→Prop} {s:Shared}
theorem aob {S:Addr} {es:Array (Int×Value)} {ep:Nat} {t:SetTable} {Q:Bool→Shared→Prop} (ho:s.heap.get? S=some (setO es ep t)) (hf:t.fits es.size=true) (h:Q (!w.params.followText "set-order" && (!t.plain&&decide (es.size > 1))) s) :
    wpAny (model prog w) A (setDrawn S) Q E s:=by
  unfold setDrawn
  refine wpAny_bind (wpAny_setState_of ho rfl hf ?_)
  dsimp only
  refine wpAny_bind (aga ?_)
  exact wpAny_pure h
theorem aq2 {S:Addr} {es:Array (Int×Value)} {ep:Nat} {t:SetTable} {ns:List Int} {Q:Value→Shared→Prop} (ho:s.heap.get? S=some (setO es ep t)) (G:SetG w es t ns) (hb:es.size < scanBound)
    (h:∀ (I:Addr) (fp:List Addr) (St:Nat→Heap→Prop) (ord:Array (Int×Value)) (s':Shared),(∀ A':Around,A'.handled=none→Walks prog w A' I fp [I] es.size (PW ord) St)→St 0 s'.heap→ord.toList.Perm es.toList →
      s.heap.objs.size≤I→(∀ b∈fp,b=S∨s.heap.objs.size≤b)→(∀ b o,s.heap.get? b=some o→s'.heap.get? b=some o)→s'.gens=s.gens→s'.os=s.os→s'.toks=s.toks→Q (.ref I) s') :
    wpAny (model prog w) A (pyIter (.ref S)) Q E s:=by
  have hT:s.TypeIs (.ref S) "set" := ⟨_,ho,rfl⟩
  have hSlt:S < s.heap.objs.size:=Heap.lt_size ho
  refine wpAny_pyIter_slot hT F.slot_set_iter (wpAny_call_entry F.slot_set_iter hT agi ?_ (F.args_set_iter_1 _))
  show wpAny _ _ (pure S >>= _) _ _ s
  refine wpAny_bind (wpAny_pure ?_)
  unfold Builtin.Frozenset.sizeOf
  refine wpAny_bind (wpAny_bind (wpAny_setEntries_of ho rfl G.fit (wpAny_pure ?_)))
  refine wpAny_bind (aob ho G.fit ?_)
  cases hw:w.params.followText "set-order" with
  | true =>
    rw [Bool.not_true,Bool.false_and,if_neg (by simp)]
    refine wpAny_bind (wpAny_pure ?_)
    refine wpAny_bind (wpAny_setEpoch_of ho rfl G.fit ?_)
    refine wpAny_bind (wpAny_newObj_type (wpAny_pure ⟨_,rfl, "set_iterator", _,⟨_,Heap.get?_push_size _ rfl,rfl⟩,gw.lookup,?_⟩))
    refine h s.heap.objs.size [s.heap.objs.size,S] _ _ _ (fun A' hh=>aqu hh _ S (Nat.ne_of_lt hSlt) G.fit hw) ⟨⟨_,Heap.get?_push_size _ rfl,rfl,rfl⟩,Heap.get?_push_of_some _ ho⟩ (afe _ _) (Nat.le_refl _) (fun b hb => ?_) (fun b o e=>Heap.get?_push_of_some _ e) rfl rfl rfl
    simp only [List.mem_cons,List.not_mem_nil,or_false] at hb
    rcases hb with rfl | rfl
    · exact .inr (Nat.le_refl _)
    · exact .inl rfl
  | false =>
    have hl:t.led=true:=by
      have:=G.kept.2
      rw [hw] at this
      exact this
    cases hd:(!t.plain&&decide (es.size > 1)) with
    | false =>
      rw [Bool.and_false,if_neg (by simp)]
      refine wpAny_bind (wpAny_pure ?_)
      refine wpAny_bind (wpAny_setEpoch_of ho rfl G.fit ?_)
      refine wpAny_bind (wpAny_newObj_type (wpAny_pure ⟨_,rfl, "set_iterator", _,⟨_,Heap.get?_push_size _ rfl,rfl⟩,gw.lookup,?_⟩))
      refine h s.heap.objs.size [s.heap.objs.size,S] _ _ _ (fun A' hh=>anr hh _ S (Nat.ne_of_lt hSlt) G.fit hw G.kept.1 hd hl) ⟨⟨0,ani G.kept.1,_,Heap.get?_push_size _ rfl,rfl,rfl⟩,Heap.get?_push_of_some _ ho⟩ (.refl _) (Nat.le_refl _) (fun b hb => ?_) (fun b o e=>Heap.get?_push_of_some _ e) rfl rfl rfl
      simp only [List.mem_cons,List.not_mem_nil,or_false] at hb
      rcases hb with rfl | rfl
      · exact .inr (Nat.le_refl _)
      · exact .inl rfl
    | true =>
      rw [Bool.not_false,Bool.true_and,if_pos rfl]
      refine wpAny_bind (ag1 _ (List.range es.size) _ _ List.length_range fun js d hj => ?_)
      have hlen:js.length=es.size:=by rw [hj.length_eq,List.length_range]
      simp only [newTuple]
      refine wpAny_bind (wpAny_newObj_type ?_ (by show (js.map fun (i:Nat)=>rawInt i).toArray.size≤sizeLine; rw [List.size_toArray,List.length_map,hlen]; exact fits_of_scanBound hb))
      refine wpAny_bind (wpAny_setEpoch_of (Heap.get?_push_of_some _ ho) rfl G.fit ?_)
      refine wpAny_bind (wpAny_newObj_type (wpAny_pure ⟨_,rfl, "set_iterator", _,⟨_,Heap.get?_push_size _ rfl,rfl⟩,gw.lookup,?_⟩))
      have hq:∀ o:Obj,s.heap.objs.size≠(s.heap.push o).objs.size:=fun o=>by rw [Heap.size_push]; exact Nat.ne_of_lt (Nat.lt_succ_self _)
      have hS2:∀ o:Obj,S≠(s.heap.push o).objs.size:=fun o=>by rw [Heap.size_push]; exact Nat.ne_of_lt (Nat.lt_succ_of_lt hSlt)
      refine h _ _ _ _ _ (fun A' hh=>ant hh _ S s.heap.objs.size (hS2 _) (hq _) G.fit js hj) ⟨⟨_,Heap.get?_push_size _ rfl,rfl,rfl⟩,Heap.get?_push_of_some _ (Heap.get?_push_of_some _ ho),_,_,Heap.get?_push_of_some _ (Heap.get?_push_size _ rfl),rfl⟩ ?_ ?_ (fun b hb => ?_) (fun b o e=>Heap.get?_push_of_some _ (Heap.get?_push_of_some _ e)) rfl rfl rfl
      · refine (hj.map _).trans ?_
        have e:(List.range es.size).map (fun j=>es.getD j (0,Value.none))=es.toList:=by
          apply List.ext_getElem
          · simp
          · intro i h1 h2
            have h3:i < es.size:=by simpa using h2
            simp [Array.getD,h3]
        rw [e]
      · rw [Heap.size_push]; exact Nat.le_succ _
      · simp only [List.mem_cons,List.not_mem_nil,or_false] at hb
        rcases hb with rfl | rfl | rfl
        · right; rw [Heap.size_push]; exact Nat.le_succ _
        · exact .inl rfl
        · exact .inr (Nat.le_refl _)
end
end Stt
namespace Stt
open PySem PySem.Spec PyProof.Rows
theorem agd:typeLookup (.type "set") "__len__" = pure (some (.builtin "set.__len__")):=by rw [typeLookup_type,builtinLookup_eq_fast]; kernel_rfl
theorem aem:∀ {es:List (Int×Value)},(∀ e∈es,Ent e)→IntsAre (es.map (·.2)) (es.map keyE)
  | [],_=>.nil
  | e::r,h=>by
    obtain ⟨k,u,he⟩:=h e (List.mem_cons_self ..)
    subst he
    exact .cons k u (aem fun e he=>h e (List.mem_cons_of_mem _ he))
theorem ao3 {ord:Array (Int×Value)} {acc:Array Value} {n:Nat} (h:ItemsOf (PW ord) acc n) (hn:ord.size=n):acc.toList=ord.toList.map (·.2):=by
  apply List.ext_getElem
  · rw [List.length_map,Array.length_toList,Array.length_toList,h.1,hn]
  · intro i h1 h2
    obtain ⟨e,he,hv⟩:=h.2 i acc.toList[i] (by rw [←Array.getElem?_toList]; exact List.getElem?_eq_getElem h1)
    rw [hv,List.getElem_map]
    rw [←Array.getElem?_toList] at he
    have h3:i < ord.toList.length:=by simpa using h2
    rw [List.getElem?_eq_getElem h3] at he
    cases he
    rfl
theorem an7 {h:Heap} {a:Addr} {xs:Array Value} {n:Nat} (ho:h.get? a=some (seqObj "list" xs n)) (vs:List Value) (out:Array Value):∃ m,(sortedHeap h a vs out).get? a=some (seqObj "list" out m) :=
  ⟨_,get?_update_seq (Heap.get?_push_of_some _ (Heap.get?_push_of_some _ (get?_update_seq ho (fun _ => #[])))) (fun _=>out)⟩
theorem amv {h:Heap} {a b:Addr} {o:Obj} {vs:List Value} {out:Array Value} (e:h.get? b=some o) (hb:b≠a):(sortedHeap h a vs out).get? b=some o :=
  (Heap.get?_update_other _ _ (Ne.symm hb)).trans (Heap.get?_push_of_some _ (Heap.get?_push_of_some _ ((Heap.get?_update_other _ _ (Ne.symm hb)).trans e)))
section
variable {prog:Program} {w:World} {A:Around} {E:Value→Shared→Prop} {s:Shared}
theorem ak9 {S:Addr} {es:Array (Int×Value)} {ep:Nat} {t:SetTable} {ns:List Int} {Q:List Value→Shared→Prop} (hh:A.handled=none) (ho:s.heap.get? S=some (setO es ep t)) (G:SetG w es t ns) (hb:es.size < scanBound)
    (hQ:∀ (s':Shared) (acc:List Value) (ks:List Int),s.heap.objs.size < s'.heap.objs.size→(∀ b o,s.heap.get? b=some o→s'.heap.get? b=some o)→s'.gens=s.gens→s'.os=s.os→IntsAre acc ks→ks.Perm (es.toList.map keyE)→Q acc s') :
    wpAny (model prog w) A (collect (.ref S)) Q E s:=by
  have hSlt:S < s.heap.objs.size:=Heap.lt_size ho
  unfold collect
  refine wpAny_bind (wpAny_runValue (codeAny_builtin F.entry_proto_collect ?_))
  rw [Around.under_plainId F.plain_proto_collect _]
  show wpAny _ A.in1 (newList [] >>= fun l=>again (.builtin "list.__iadd__" ⟨[l,.ref S],[]⟩)) _ _ s
  refine wpAny_bind (wpAny_newObj_type ?_)
  refine wpAny_pure ⟨plainId_quiet F.plain_list_iadd _,codeAny_builtin F.entry_list_iadd ?_⟩
  rw [Around.under_plainId F.plain_list_iadd _]
  have ho1:(s.heap.push { cls:=.type "list", data:=.seq ([]:List Value).toArray }).get? S=some (setO es ep t):=Heap.get?_push_of_some _ ho
  have hL:(s.heap.push { cls:=.type "list", data:=.seq ([]:List Value).toArray }).get? s.heap.objs.size=some { cls:=.type "list", data:=.seq ([]:List Value).toArray }:=Heap.get?_push_size _ rfl
  have hold:∀ b o,s.heap.get? b=some o→(s.heap.push { cls:=.type "list", data:=.seq ([]:List Value).toArray }).get? b=some o:=fun b o e=>Heap.get?_push_of_some _ e
  have hsz1:(s.heap.push { cls:=.type "list", data:=.seq ([]:List Value).toArray }).objs.size=s.heap.objs.size+1:=Heap.size_push _ _
  show wpAny _ A.in1 (Builtin.List.listExtendWith (.ref s.heap.objs.size) (.ref S) (.ref s.heap.objs.size)) _ _ { s with heap:=s.heap.push { cls:=.type "list", data:=.seq ([]:List Value).toArray } }
  generalize s.heap.push { cls:=.type "list", data:=.seq ([]:List Value).toArray }=H1 at ho1 hL hold hsz1 ⊢
  unfold Builtin.List.listExtendWith
  refine wpAny_bind (wpAny_typeOf (T := "set") ⟨_,ho1,rfl⟩ ?_)
  have h1:Builtin.List.listSameRef (.ref s.heap.objs.size) (.ref S)=false:=by simp [Builtin.List.listSameRef,Nat.ne_of_gt hSlt]
  have h2:(Value.type "set" == Value.type "list")=false:=by decide
  have h3:(Value.type "set" == Value.type "tuple")=false:=by decide
  simp only [h1,h2,h3,Bool.or_false,Bool.false_eq_true,if_false]
  refine wpAny_bind (aq2 (s:={ s with heap:=H1 }) ho1 G hb fun I fp St ord s2 W hst hord hI hfp hk2 hg2 ho2 ht2 => ?_)
  have hSs:s2.heap.get? S=some (setO es ep t):=hk2 _ _ ho1
  have hLs:s2.heap.get? s.heap.objs.size=some { cls:=.type "list", data:=.seq ([]:List Value).toArray }:=hk2 _ _ hL
  refine wpAny_bind (wpAny_holding ?_)
  unfold Builtin.List.listLengthHint
  refine wpAny_bind (wpAny_specialOf (T := "set") ⟨_,hSs,rfl⟩ agd ?_)
  generalize hid:("set.__len__" : String)=id0
  wp_delta
  rw [show splitId id0=some ("set","__len__") from by subst hid; decide +kernel]
  subst hid
  refine wpAny_bind (wpAny_isInstance (T := "set") (b:=true) ⟨_,hSs,rfl⟩ (by rw [isSubtype_type]; kernel_rfl) ?_)
  show wpAny _ A.in1 (typeOf (Value.ref S) >>= _) _ _ _
  refine wpAny_bind (wpAny_typeOf (T := "set") ⟨_,hSs,rfl⟩ ?_)
  refine wpAny_pure ?_
  rw [if_pos (by decide)]
  refine wpAny_bind (wpAny_rule ?_)
  refine wpAny_bind ?_
  show wpAny _ A.in1 (updateSeq s.heap.objs.size (·.push .none) >>= fun _=>updateSeq s.heap.objs.size (·.pop)) _ _ _
  refine wpAny_bind (wpAny_updateSeq hLs rfl ?_)
  have hS₂:=Heap.get?_update_self (Obj.mapSeq (·.push Value.none)) hLs rfl
  refine wpAny_updateSeq hS₂ rfl ?_
  have hS₃:=Heap.get?_update_self (Obj.mapSeq (·.pop)) hS₂ rfl
  have oth:∀ b o,b≠s.heap.objs.size→s2.heap.get? b=some o →
      ((s2.heap.update s.heap.objs.size (Obj.mapSeq (·.push Value.none))).update s.heap.objs.size (Obj.mapSeq (·.pop))).get? b=some o :=
    fun b o hb e=>(Heap.get?_update_other _ _ (Ne.symm hb)).trans ((Heap.get?_update_other _ _ (Ne.symm hb)).trans e)
  have hSf:s.heap.objs.size∉fp:=fun hm=>by
    rcases hfp _ hm with e | e
    · exact Nat.ne_of_gt hSlt e
    · have e':s.heap.objs.size+1≤s.heap.objs.size:=hsz1▸e
      exact Nat.not_succ_le_self _ e'
  have hIne:s.heap.objs.size+1≤I:=hsz1▸hI
  refine wpAny_pure ⟨plainId_quiet F.plain_extend_loop _,codeAny_extend_loopS (W A.in1 hh).toS (fits_of_scanBound hb) _ hSf _ es.size 0 _ _ _ rfl (Nat.zero_le _)
    ((W A.in1 hh).frame 0 s2.heap _ hst fun b hb o e=>oth b o (fun h=>hSf (h▸hb)) e) hS₃ (ItemsOf.nil _) fun s' acc' c' hm hS' hacc => ?_⟩
  show wpAny _ A (load s.heap.objs.size >>= _) _ _ s'
  refine wpAny_bind (wpAny_load hS' ?_)
  have hosz:ord.size=es.size:=by rw [←Array.length_toList,hord.length_eq,Array.length_toList]
  have hacc':=ao3 hacc hosz
  refine wpAny_pure (hQ s' acc'.toList (ord.toList.map keyE) (Heap.lt_size hS') (fun b o e => ?_) (hm.gens.trans hg2) (hm.os.trans ho2) ?_ (hord.map _))
  · have hlt:=Heap.lt_size e
    refine hm.heap b o (fun hb => ?_) (oth b o (Nat.ne_of_lt hlt) (hk2 b o (hold b o e)))
    simp only [List.mem_cons,List.not_mem_nil,or_false] at hb
    rcases hb with rfl | rfl
    · exact Nat.lt_irrefl _ hlt
    · exact absurd hlt (Nat.not_lt.mpr (Nat.le_trans (Nat.le_succ _) hIne))
  · rw [hacc']
    exact aem fun e he=>G.ent e (hord.mem_iff.mp he)
set_option maxHeartbeats 1000000 in
theorem amu {S:Addr} {es:Array (Int×Value)} {ep:Nat} {t:SetTable} {ns:List Int} {Q:Value→Shared→Prop} (hh:A.handled=none) (ho:s.heap.get? S=some (setO es ep t)) (G:SetG w es t ns) (h64:es.size < 64)
    (h:∀ (s':Shared) (a:Addr) (out:Array Value) (m:Nat) (ns':List Int),s.heap.objs.size≤a→(∀ b o,s.heap.get? b=some o→s'.heap.get? b=some o)→s'.gens=s.gens→s'.os=s.os→s'.heap.get? a=some (seqObj "list" out m) →
      IntsAre out.toList ns'→ns'.Perm (es.toList.map keyE)→ns'.Pairwise (· ≤ ·)→Q (.ref a) s') :
    wpAny (model prog w) A (call (.builtin "sorted") [.ref S]) Q E s:=by
  refine Calls.call_function_entry kind_sorted plain_sorted entry_sorted (args_sorted1 _) ?_
  unfold Builtin.«sorted»
  refine wpAny_bind (m:=checkCount "sorted" 1 1 _) (wpAny_pure ?_)
  refine wpAny_bind (ak9 hh ho G (by unfold scanBound; omega) fun s1 acc ks hlt1 hk hg hos hI hp => ?_)
  have hlen:acc.length=es.size:=by rw [hI.length,hp.length_eq,List.length_map,Array.length_toList]
  refine wpAny_bind (wpAny_newList ?_)
  have hoL:(s1.heap.push (seqObj "list" acc.toArray 0)).get? s1.heap.objs.size=some (seqObj "list" acc.toArray 0):=Heap.get?_push_size _ rfl
  show wpAny _ _ _ _ _ { s1 with heap:=s1.heap.push (seqObj "list" acc.toArray 0) }
  refine wpAny_bind (wpAny_holding (wpAny_call_entry slot_list_sort ⟨_,hoL,rfl⟩ entry_list_sort (list_sort_tree hoL hI (by omega) fun out ns' a1 a2 a3=>⟨_,rfl,?_⟩) (args_list_sort _)))
  obtain ⟨m,hm⟩:=an7 hoL acc out
  refine wpAny_pure ⟨_,rfl,?_⟩
  refine h _ s1.heap.objs.size out m ns' (Nat.le_of_lt hlt1) ?_ hg hos hm a1 (a2.trans hp) a3
  intro b o e
  exact amv (Heap.get?_push_of_some _ (hk b o e)) (Nat.ne_of_lt (Nat.lt_trans (Heap.lt_size e) hlt1))
end
end Stt
namespace Dn
open PySem PySem.Spec PyProof.Rows L2 Mn
noncomputable def dedI:List Int→List Int
  | []=>[]
  | x::r=>if r.contains x then dedI r else x::dedI r
theorem ac6:∀ (l:List Int) (x:Int),x∈dedI l↔x∈l
  | [],x=>.rfl
  | y::r,x=>by
    unfold dedI
    split
    · rename_i h
      rw [ac6 r x,List.mem_cons]
      exact ⟨.inr,fun z=>z.elim (fun e=>e▸List.contains_iff_mem.mp h) id⟩
    · rw [List.mem_cons,List.mem_cons,ac6 r x]
theorem abt:∀ l:List Int,(dedI l).Nodup
  | []=>List.Pairwise.nil
  | y::r=>by
    unfold dedI
    split
    · exact abt r
    · rename_i h
      exact List.Pairwise.cons (fun z hz e=>h (List.contains_iff_mem.mpr (e▸(ac6 r z).mp hz))) (abt r)
theorem aci:∀ l:List Int,(dedI l).length≤l.length
  | []=>Nat.le_refl _
  | y::r=>by
    unfold dedI
    have:=aci r
    split
    · simp only [List.length_cons]; omega
    · simp only [List.length_cons]; omega
theorem acy:∀ {a b:List Int},a.Nodup→b.Nodup→(∀ x,x∈a↔x∈b)→a.Perm b
  | [],b,_,_,h=>by
    cases b with
    | nil=>exact .refl _
    | cons y r=>exact absurd ((h y).mpr (List.mem_cons_self ..)) (List.not_mem_nil)
  | x::r,b,ha,hb,h=>by
    have hx:x∈b:=(h x).mp (List.mem_cons_self ..)
    have hp:=List.perm_cons_erase hx
    refine (List.Perm.cons x (acy (List.Pairwise.of_cons ha) (hb.erase x) fun y => ?_)).trans hp.symm
    rw [hb.mem_erase_iff]
    have hxr:x∉r:=fun z=>(List.pairwise_cons.mp ha).1 x z rfl
    constructor
    · intro hy
      exact ⟨fun e=>hxr (e▸hy),(h y).mp (List.mem_cons_of_mem _ hy)⟩
    · rintro ⟨hne,hy⟩
      exact (List.mem_cons.mp ((h y).mpr hy)).resolve_left hne
noncomputable def setI (ns:List Int):List Int:=sortI (dedI ns)
section
variable {K:PySem.W.Frag} {X:Cx} {e a b c:Expr} {es:List Expr} {pos p p2:Pos}
noncomputable def SetH (w:World) (a:Addr) (ns:List Int):Heap→Prop:=fun h=>∃ es ep t,h.get? a=some (Stt.setO es ep t)∧Stt.SetG w es t ns∧es.size≤ns.length
noncomputable def a1a (w:World):List V→Hp→VK→Prop:=fun vs H Q=>∃ p ns,vs=[.ref p]∧H p=some (.tup (ns.map V.int))∧ns.length < 4000∧∀ a,H a=none→Q (.ref a) (upd H a (.ext (SetH w a ns)))
theorem ass (hc:X.calm=true):aam X (.type "set") (a1a X.w):=by
  intro pins s σ H xs us Q I r ⟨p,ns,hv,hp,hz,q⟩
  subst hv
  obtain ⟨u,rfl,ru⟩:=vals1 r
  cases ru
  obtain ⟨its,rv,pt,_⟩:=I.tuple (SqT.of hp)
  have hlen:=rv.length
  rw [List.length_map] at hlen
  refine Stt.awz (I.ok.hd hc) pt (intsAre_of rv) (by rw [List.size_toArray]; unfold scanBound; omega) fun h' tk es ep t ho g hsz hk => ?_
  have hn:H s.heap.objs.size=none:=I.hok.fresh (Nat.le_refl _)
  refine ⟨.ref s.heap.objs.size,_,I.laid hk (Nat.le_refl _) ?_,rfl,q _ hn⟩
  refine ⟨⟨es,ep,t,ho,g,?_⟩,⟨_,ho⟩,fun h1 h2 ⟨es,ep,t,z,g,zz⟩ k=>⟨es,ep,t,k _ z,g,zz⟩⟩
  have hsz':es.size≤its.length:=by simpa using hsz
  omega
noncomputable def rcSS (w:World):List V→Hp→VK→Prop:=fun vs H Q=>∃ a ns,vs=[.ref a]∧H a=some (.ext (SetH w a ns))∧ns.length < 64∧∀ b,H b=none→Q (.ref b) (upd H b (.lst ((setI ns).map V.int)))
theorem awa (hc:X.calm=true):aam X (.builtin "sorted") (rcSS X.w):=by
  intro pins s σ H xs us Q I r ⟨a,ns,hv,ha,hz,q⟩
  subst hv
  obtain ⟨u,rfl,ru⟩:=vals1 r
  cases ru
  obtain ⟨⟨es,ep,t,ho,g,hsz⟩,_⟩:=I.hok a _ ha
  refine Stt.amu (I.ok.hd hc) ho g (by omega) fun s' b out m ns' hb hk hg hos hob hI hp hs => ?_
  have hn:H b=none:=I.hok.fresh hb
  have e':ns'=setI ns:=aqz (hp.trans (acy g.nd (abt ns) fun k=>by rw [g.mem k,ac6])) hs
  subst e'
  obtain ⟨h',g',d',tk',os'⟩:=s'
  subst hg
  subst hos
  have I1:Inv X pins σ (upd H b (.lst ((setI ns).map V.int))) { s with heap:=h',toks:=tk' }:=I.laid hk hb ⟨by
    rw [List.length_map]
    have h1:(setI ns).length=(dedI ns).length:=(sortI_perm _).length_eq
    have h2:=aci ns
    exact Nat.le_of_lt (an8 (by omega)),out.toList,m,aec hI,by simpa using hob⟩
  exact ⟨.ref b,_,⟨I1.ok,I1.os,I1.bare,I1.base,I1.loc,I1.cell,I1.free,I1.freeC,I1.pin,I1.hok,I1.len⟩,rfl,q b hn⟩
noncomputable def gSet:D→Option Rv
  | .tup l=>(aaf l).bind fun ns=>if ns.length < 64 then some (.fr ((setI ns).map D.int)) else none
  | _=>none
theorem ajl {x y:Str} {m:M (List D)} {pp qq:Pos} {ppos:Pos} (hc:X.calm=true) (hg1:Gl X x) (hm1:X.mg x=none) (hv1:bootBuiltins x=some (.builtin "sorted")) (hg2:Gl X y) (hm2:X.mg y=none) (hv2:bootBuiltins y=some (.type "set"))
    (ha:EA K X [e] m) (hn1:x ≠ "__name__" := by decide) (hdb1:(x==("__debug__" : Str))=false:=by decide) (hn2:y ≠ "__name__" := by decide) (hdb2:(y==("__debug__" : Str))=false:=by decide)
    (he:starEach [e] X.env=[(false,eval e X.env)]:=by rfl) (he2:starEach [.Call (.Name y qq) [e] [] ppos] X.env=[(false,eval (.Call (.Name y qq) [e] [] ppos) X.env)]:=by rfl) :
    ER K X (.Call (.Name x pp) [.Call (.Name y qq) [e] [] ppos] [] pos) (dz (g1 gSet) m):=ER.mk fun hk=>PE.imp (aho (awa hc) hg1 hm1 hv1 (aap (acz (ass hc) hg2 hm2 hv2 (ha hk) hn2 hdb2 he rfl) agp he2) hn1 hdb1 he2 rfl) fun σ H Q hq0=>by
  obtain ⟨tg,F,ρ,r,ρ',G,em,q⟩:=hq0
  obtain ⟨ds,ρ1,e1,em⟩:=bh em
  obtain ⟨e2,rfl⟩:=jc em
  refine ⟨tg,F,ρ,ds,_,G,e1,fun vs H1 F1 G1 x1 bl => ?_⟩
  cases ds with
  | nil=>cases e2
  | cons d tl =>
    cases tl with
    | cons _ _=>cases e2
    | nil =>
      cases d with
      | tup l =>
        have e2:(aaf l).bind (fun ns=>if ns.length < 64 then some (Rv.fr ((setI ns).map D.int)) else none)=some r:=e2
        cases ei:aaf l with
        | none=>rw [ei] at e2; cases e2
        | some ns =>
          rw [ei] at e2
          have e2:(if ns.length < 64 then some (Rv.fr ((setI ns).map D.int)) else none)=some r:=e2
          split at e2
          · rename_i h64
            cases e2
            obtain ⟨v,rfl,bv⟩:=bl.one
            obtain ⟨p,ws,rfl,ea,hl⟩:=bv.tup
            rw [ah1 ei] at hl
            rw [hl.int_inv] at ea
            refine ⟨p,ns,rfl,G1.sub _ _ ea,by omega,fun a hna => ?_⟩
            show rcSS X.w _ _ _
            refine ⟨a,ns,rfl,jh,h64,fun b hnb => ?_⟩
            have G2:=G1.fresh hna (.ext (SetH X.w a ns))
            have X2:=G1.freshX hna (.ext (SetH X.w a ns))
            exact Res.lst G2 (fun v H3 F3 G3 x3 rr=>q v H3 F3 G3 ((x1.trans X2).trans x3) (nq (x1.trans X2) rr)) (aez _) hnb
          · cases e2
      | _=>cases e2
@[simp] theorem a0c (l:List D):gSet (.tup l)=(aaf l).bind fun ns=>if ns.length < 64 then some (.fr ((setI ns).map D.int)) else none:=rfl
end
end Dn
namespace Dn
open PySem L2 Mn
theorem oh {c:M Bool} {g:Sd} (Inv:Nat→Ro→Prop) (Done:Ro→Prop) (hs:∀ k ρ,Inv k ρ→(∃ ρ',c ρ=some (.ok false,ρ')∧Done ρ')∨∃ ρ1 ρ2 k',c ρ=some (.ok true,ρ1)∧g ρ1=some (.nx,ρ2)∧k' < k∧Inv k' ρ2) :
    ∀ (n k:Nat) (ρ:Ro),k < n→Inv k ρ→∃ ρ',whileD c g n ρ=some (.nx,ρ')∧Done ρ'
  | 0,k,ρ,h,_=>absurd h (Nat.not_lt_zero _)
  | n+1,k,ρ,h,h0=>by
    unfold whileD
    rcases hs k ρ h0 with ⟨ρ',e,d⟩ | ⟨ρ1,ρ2,k',e1,e2,hk,h2⟩
    · rw [e]
      exact ⟨ρ',rfl,d⟩
    · rw [e1]
      dsimp only
      rw [e2]
      exact oh Inv Done hs n k' ρ2 (by omega) h2
theorem aat:100000 < fuel:=by unfold fuel; decide
theorem apr (a b:Int):eqD (.int a) (.int b)=decide (a=b):=by
  show (a==b)=_
  by_cases h:a=b <;> simp [h]
theorem awf (ns:List Int) (a:Int):(ns.map D.int).any (fun y=>eqD y (.int a))=decide (a∈ns):=by
  induction ns with
  | nil=>simp
  | cons x r ih=>simp [apr,List.mem_cons,ih,eq_comm]
theorem ac5 (n:Nat) (ns:List Int):(ns.map D.int).all (okD n)=true:=by
  induction ns with
  | nil=>rfl
  | cons x r ih=>simp [okD]
theorem ad1 (neg:Bool) (a:Int) (ns:List Int):gIn neg (.int a) (.lst (ns.map D.int))=some (.v (.bl (if neg then !decide (a∈ns) else decide (a∈ns)))):=by
  have h:=ac5 30 ns
  have h2:=awf ns a
  simp only [gIn,itemsD,h,h2]
  simp [okD]
theorem ah6:∀ (a b:List Int),eqDs (a.map D.int) (b.map D.int)=decide (a=b)
  | [],[]=>rfl
  | [],_::_=>rfl
  | _::_,[]=>rfl
  | x::r,y::t=>by
    show (eqD (.int x) (.int y)&&eqDs (r.map D.int) (t.map D.int))=_
    rw [apr,ah6 r t]
    by_cases h:x=y <;> simp [h]
theorem apq (a b:List Int):eqD (.tup (a.map D.int)) (.tup (b.map D.int))=decide (a=b):=by
  rw [←ah6]
  exact ak4 _ _
theorem al8 (neg:Bool) (a b:List Int):gEq neg (.tup (a.map D.int)) (.tup (b.map D.int))=some (.v (.bl (if neg then !decide (a=b) else decide (a=b)))):=by
  have h1:okD 30 (.tup (a.map D.int))=true:=ac5 29 a
  have h2:okD 30 (.tup (b.map D.int))=true:=ac5 29 b
  simp only [gEq,h1,h2,apq]
  simp
theorem apj (r:List Int):∀ x:Int,(0≤r.foldl (fun m y=>if decide (y < m)=true then y else m) x)↔0≤x∧∀ y∈r,0≤y:=by
  induction r with
  | nil=>intro x; simp
  | cons z t ih =>
    intro x
    rw [List.foldl_cons,ih]
    by_cases h:z < x
    · simp only [h,decide_true,if_true,List.mem_cons,forall_eq_or_imp]
      constructor
      · rintro ⟨a,b⟩; exact ⟨by omega,a,b⟩
      · rintro ⟨_,a,b⟩; exact ⟨a,b⟩
    · simp only [h,decide_false,Bool.false_eq_true,if_false,List.mem_cons,forall_eq_or_imp]
      constructor
      · rintro ⟨a,b⟩; exact ⟨a,by omega,b⟩
      · rintro ⟨a,_,b⟩; exact ⟨a,b⟩
noncomputable def minI (ns:List Int):Int:=adk (fun i j=>decide (i < j)) ns
theorem alz {ns:List Int} (h:ns≠[]):0≤minI ns↔∀ y∈ns,0≤y:=by
  cases ns with
  | nil=>exact absurd rfl h
  | cons x r =>
    show 0≤r.foldl (fun m y=>if decide (y < m)=true then y else m) x↔_
    rw [apj]
    simp
theorem asd {ns:List Int} (h:ns≠[]):avm (.lst (ns.map D.int))=some (.v (.int (minI ns))):=by
  show (aaf (ns.map D.int)).bind _=_
  rw [aje]
  simp [h,minI]
theorem ape {ns:List Int} (h:ns.length < 64):gSet (.tup (ns.map D.int))=some (.fr ((setI ns).map D.int)):=by
  show (aaf (ns.map D.int)).bind _=_
  rw [aje]
  simp [h]
theorem al0 (ns:List Int) (x:Int):x∈setI ns↔x∈ns:=by
  unfold setI
  rw [(sortI_perm _).mem_iff,ac6]
theorem am3 (ns:List Int):(setI ns).Nodup:=by
  unfold setI
  rw [(sortI_perm _).nodup_iff]
  exact abt ns
end Dn
namespace Dn
open PySem L2 Mn
@[simp] theorem ayy (d:D):aph [d]=(itemsD d).map ad7:=rfl
@[simp] theorem ayt (a b:D):akx [a,b]=(itemsD a).bind fun l1=>(itemsD b).bind fun l2=>if l1.length≤l2.length then some (aan l1 l2) else none:=rfl
@[simp] theorem avi (a b c:D):a2v [a,b,c]=(itemsD a).bind fun l1=>(itemsD b).bind fun l2=>(itemsD c).bind fun l3=>if l1.length≤l2.length∧l1.length≤l3.length then some (awp l1 l2 l3) else none:=rfl
@[simp] theorem awo (ρ:Ro) (f:Int→Int→Int) (i:Nat) (mi m:M D):ah9 f i mi m ρ=(dM (mOwn i) fun _=>dM mi fun k=>dM (mOwn i) fun l=>dM (lift ((asI k).bind (ixN l.length))) fun j=>dM (lift ((l[j]?).bind asI)) fun x=>dM m fun y=>dM (lift (asI y)) fun y=>dM (mOwn i) fun l2=>dM (lift (if l2.length=l.length then some () else none)) fun _=>dM (ac7 i (l2.set j (.int (f x y)))) fun _=>dNx) ρ:=rfl
@[simp] theorem ayb (ρ:Ro) (i:Nat) (ms:M (List D)):ayc i ms ρ=((dq i).bind fun d0=>ms.bind fun ds=>(dq i).bind fun d=>(lift (match d0,d with
  | .lst _,.lst _=>some ()
  | .tup _,.tup _=>some ()
  | _,_=>none)).bind fun _=>lift (ah4 d ds)) ρ:=rfl
@[simp] theorem avw (l:List D) (x:D):ah4 (.lst l) [x]=if okD 30 x&&l.all (okD 30) then some (.int (l.countP fun y=>eqD y x)) else none:=rfl
@[simp] theorem avv (l:List D) (x:D):ah4 (.tup l) [x]=if okD 30 x&&l.all (okD 30) then some (.int (l.countP fun y=>eqD y x)) else none:=rfl
theorem acs {l1 l2:List D} (h:l1.length≤l2.length):(aan l1 l2).length=l1.length:=by unfold aan; rw [List.length_zipWith]; omega
theorem xf {ns:List Int} {k:Int} (h0:0≤k) (h1:k < (ns.length:Int)):atI (ns.map D.int) k=some (.int (ns.getD k.toNat 0)):=by
  have hk:k.toNat < ns.length:=by omega
  have q:atI (ns.map D.int) ((k.toNat:Nat):Int)=some (.int (ns.getD k.toNat 0)):=aic (by simp [List.getElem?_eq_getElem hk])
  rw [show ((k.toNat:Nat):Int)=k by omega] at q
  exact q
theorem ack {n:Nat} {k:Int} (h0:0≤k) (h1:k < (n:Int)):ixN n k=some k.toNat:=by
  unfold ixN
  simp [h0,h1]
end Dn
namespace Dn
open PySem PySem.Spec PyProof.Rows L2 Mn
theorem ig {K:PySem.W.Frag} {P:Program} {w:World} {mg:Str→Option Value} {base:Heap} {x qual:Str} {st:Stmt} {f:Addr} {fd:FuncData} {N ps:List Str} {k nl np:Nat} {g:Sd} (F:Fun K x qual st f fd) (S:FnScope N ps (ao st)) (h1:N.length=nl) (h2:ps.length=np)
    (body:∀ (cdv:Value) (A:Around) (outer:List Env) (s:Shared) (H:Hp) (E:XK),Room k (A.deeper (envOfC qual (ao st) s.heap.objs.size f cdv))→SVs K (cxOf CX0 P w K mg base N qual (ao st) f cdv A outer s H E).nox (cj st) g) :
    FnOk P w K mg base CX0 (k+1) f fd ps (spOf K np (fnD nl np g)):=by
  subst h1 h2
  exact a3d F S body
end Dn
namespace Dn
open PySem PySem.Spec PyProof.Rows L2 Mn
section
variable {K:PySem.W.Frag} {X:Cx} {e:Expr} {pos:Pos}
noncomputable def gLS:D→Option Rv
  | .tup l=>(aaf l).bind fun ns=>if ns.length < 64 then some (.v (.int ((dedI ns).length:Int))) else none
  | _=>none
@[simp] theorem a2z (l:List D):gLS (.tup l)=(aaf l).bind fun ns=>if ns.length < 64 then some (.v (.int ((dedI ns).length:Int))) else none:=rfl
end
end Dn
namespace Dn
open PySem PySem.Spec PyProof.Rows L2 Mn
end Dn
namespace Dn
open PySem PySem.Spec PyProof.Rows L2 Mn
section
variable {K:PySem.W.Frag} {X:Cx}
theorem ali:∀ {xs:List V} {us:List Value},Vals xs us→Vals xs.reverse us.reverse
  | [],_,h=>by cases h; exact .nil
  | _::_,_,h=>by
    cases h with
    | cons r t =>
      rw [List.reverse_cons,List.reverse_cons]
      exact (ali t).append (.cons r .nil)
theorem ao5 {F:Hp}:∀ {l:List D} {vs:List V},IsL K F l vs→IsL K F l.reverse vs.reverse
  | [],_,h=>by cases h; exact .nil
  | _::_,_,h=>by
    cases h with
    | cons r t =>
      rw [List.reverse_cons,List.reverse_cons]
      exact (ao5 t).append (.cons r .nil)
noncomputable def rReverse:V→List V→Hp→VK→Prop:=fun x vs H Q=>∃ l xs,x=.ref l∧vs=[]∧H l=some (.lst xs)∧xs.length < sizeLine∧Q .non (upd H l (.lst xs.reverse))
theorem mt_reverse:MtR X "list.reverse" rReverse:=by
  intro pins s σ H x vs v us Q I rx rv h
  obtain ⟨l,xs,rfl,rfl,hH,hz,q⟩:=h
  cases rx
  cases rv
  obtain ⟨z,its,n,r,hl,e⟩:=I.lstM hH
  refine call_meets F.slot_list_reverse ⟨_,e,rfl⟩ F.entry_list_reverse (F.args_list_reverse_1 _)
    (PySem.AutoListH.list_reverse_list_0 l its.toArray n (by rw [List.size_toArray]; omega)) ⟨e,?_⟩
  refine ⟨.non,_,I.lset (its':=its.reverse) (ys:=xs.reverse) hH e ?_ (ali r) ?_,rfl,q⟩
  · simp
  · rw [List.length_reverse]
    omega
noncomputable def ah2 (l ds:List D):Option (D×List D):=match ds with
  | []=>if l.length < capS then some (.non,l.reverse) else none
  | _=>none
@[simp] theorem ath (l:List D):ah2 l []=if l.length < capS then some (.non,l.reverse) else none:=rfl
theorem akl:MutD K rReverse ah2:=by
  intro F H a xs vs l ds d l' Q g hh hc hl hd eg q
  match ds,eg with
  | [],eg =>
    have eg:(if l.length < capS then some (D.non,l.reverse) else none)=some (d,l'):=eg
    split at eg
    · rename_i hz
      cases eg
      cases hd
      exact ⟨a,xs,rfl,rfl,hh,by rw [sizeLine_eq,←hl.length]; exact hz,q _ _ .non (ao5 hl)⟩
    · cases eg
theorem av3 {a:Expr} {i:Nat} {name:Str} {id:String} {r:V→List V→Hp→VK→Prop} {g:List D→List D→Option (D×List D)} {apos cpos:Pos} (hr:MutD K r g) (slot:Slot "list" name id) (hty:typeOf (.builtin id)=pure (.type "method_descriptor")) (hm:MtR X id r) (ho:PE X a (tVar i))
    (hbase:attributeBase a name X.env (eval a X.env)=eval a X.env:=by rfl) (hline:(apos.endLine==cpos.line)=true:=by rfl) :
    EV K X (.Call (.Attribute a name apos) [] [] cpos) (mMut i g mNil):=EV.mk fun hk=>by
  intro pins s σ H Q I ⟨tg,F,ρ,d,ρ',G,em,q⟩
  obtain ⟨l0,ρ0,e0,em1⟩:=bh em
  obtain ⟨ds,ρ1,e1,em2⟩:=bh em1
  obtain ⟨l,ρ2,e2,em3⟩:=bh em2
  obtain ⟨x,ρ3,e3,em4⟩:=bh em3
  obtain ⟨u,ρ4,e4,em5⟩:=bh em4
  obtain ⟨rfl,rfl⟩:=j7 em5
  obtain ⟨eg,rfl⟩:=jc e3
  obtain ⟨rfl,rfl⟩:=j7 e1
  obtain ⟨rfl,t0,b,xs0,es0,hv,hh0,hl0⟩:=ac0 G e0
  obtain ⟨rfl,t,a',xs,es',hv',hh,hl⟩:=ac0 G e2
  rw [hv] at hv'
  cases hv'
  refine axn (r:=fun x vs H Q=>(∀ b xs,x=.ref b→H b=some (.lst xs)→xs.length≤capS)→r x vs H Q) PySem.F.plainAttrs_list slot hty (fun pins s σ H x xs v us Q I rx rv h=>hm pins s σ H x xs v us Q I rx rv (h fun b xs _ hb => ?_)) ho hbase hline pins s σ H Q I ?_
  · obtain ⟨z,_⟩:=I.lstM hb
    rw [sizeLine_eq] at z
    exact z
  refine ⟨_,hv,.inl ⟨rfl,_,SqL.of hh0⟩,fun cap => ?_⟩
  refine hr F H _ xs [] l [] x.1 x.2 Q G.sub hh (cap _ _ rfl hh) hl .nil eg fun w ys iw il => ?_
  obtain ⟨G2,x2⟩:=ahx G e4 hv il
  exact q w _ F G2 x2 iw
end
end Dn
namespace Dn
open PySem PySem.Spec PyProof.Rows L2 Mn
section
variable {K:PySem.W.Frag} {X:Cx} {a:Expr} {pos p2:Pos}
noncomputable def mIx1 (m:M Rv):M Rv:=m.bind fun r=>match r with
  | .tf _ l=>ret (.fr l)
  | _=>lift none
@[simp] theorem a2c (m:M Rv) (ρ:Ro):mIx1 m ρ=(m.bind fun r=>match r with
  | .tf _ l=>ret (.fr l)
  | _=>lift none) ρ:=rfl
end
end Dn
namespace L2
open PySem PySem.Spec PyProof.Rows
section
variable {X:Cx} {tg:Expr}
end
end L2
namespace Dn
open PySem PySem.Spec PyProof.Rows L2 Mn
section
variable {K:PySem.W.Frag} {X:Cx} {tgt a b c:Expr} {p pos:Pos}
noncomputable def ay7 (lo:Int) (n:Nat):List Int:=(List.range n).map fun i=>lo - ((i:Nat):Int)
noncomputable def ayz:List D→Option (List D)
  | [.int i,.int j,.int k]=>if k = -1∧i.natAbs < 1000000000∧j.natAbs < 1000000000 then some ((ay7 i (i - j).toNat).map D.int) else none
  | _=>none
@[simp] theorem awm (i j:Int):ayz [.int i,.int j,.int (-1)]=if i.natAbs < 1000000000∧j.natAbs < 1000000000 then some ((ay7 i (i - j).toNat).map D.int) else none:=by simp [ayz]
end
end Dn
namespace Mn
open PySem PySem.Spec PyProof.Rows L2
section
variable {X:Cx}
end
end Mn
namespace Dn
open PySem PySem.Spec PyProof.Rows L2 Mn
section
variable {K:PySem.W.Frag} {X:Cx}
end
end Dn
namespace My
open PySem L2 Mn Dn
noncomputable def agy:Sd :=
  (dRet (M.v (mAnd (mIsi .int (dq 0)) (mUn gNot (mIsi .bool (dq 0))))))
noncomputable def aak:Fd:=fnD 1 1 agy
noncomputable def aai:Sd :=
  (dRet (M.v (mAnd (M.d (mFn aak [some 0] (f9 0 jb))) (agr (fun i j=>decide (i≤j)) (fun i j=>decide (i≤j)) (mVar 1) (mVar 0) (mVar 2)))))
noncomputable def jd:Fd:=fnD 3 3 aai
noncomputable def u5:Sd :=
  (dRet (M.v (mAnd (mIsi .tuple (dq 0)) (agr (fun i j=>decide (i≤j)) (fun i j=>decide (i≤j)) (mVar 1) (M.d (dz (g1 fun d=>(itemsD d).map fun l=>.v (.int l.length)) (dm 0 mNil))) (mVar 2)))))
noncomputable def fj:Fd:=fnD 3 3 u5
noncomputable def ak6:M D :=
  (M.d (mOp (gIn false) (bw 0 (dq 1))))
noncomputable def aia:M Bool :=
  (aae (M.d (dz (g1 gAll) (cg (M.d (z6 [none,some 1] (vq (M.d (mOp gIx (bw 2 (dq 0))))) (cz 0) (ret true) ak6)) mNil))))
noncomputable def ak5:M D :=
  (mVar 0)
noncomputable def ag9:M Bool :=
  (jk (gCmp fun i j=>decide (i < j)) (gr (M.d (dz (g1 fun d=>(itemsD d).map fun l=>.v (.int l.length)) (dm 1 mNil))) (dq 2)))
noncomputable def ag6:Sd :=
  (dSeq (dSet 2 (dz (g1 fun d=>(itemsD d).map fun l=>.v (.int l.length)) (dm 1 mNil))) (dSet 1 (z6 [none,some 1,some 0] (vq (mVar 1)) (cz 0) aia ak5)))
noncomputable def atf:Sd :=
  (dSeq (dSet 1 (abv (cg (M.d (dz (g1 fun d=>(itemsD d).map fun l=>.v (.int l.length)) (dm 0 mNil))) mNil))) (dSeq (dSet 2 (mOp gAdd (gr (M.d (dz (g1 fun d=>(itemsD d).map fun l=>.v (.int l.length)) (dm 1 mNil))) (ret (.int 1))))) (dSeq (whileD ag9 ag6 fuel) (dRet (dz (g1 fun d=>(itemsD d).map fun l=>.v (.tup l)) (dm 1 mNil))))))
noncomputable def ajk:Fd:=fnD 3 1 atf
noncomputable def aag:Sd :=
  (dSeq (dSet 1 (mFn ajk [some 0] (f9 0 jb))) (dIf (jk (gEq true) (bw 1 (mTup mNil))) (fun _=>none) dNx))
noncomputable def lq:Fd:=fnD 2 1 aag
noncomputable def abn:M D :=
  (M.d (mFn jd [some 0,none,none] (f9 0 (bj (ret (.int 0)) (bj (M.d (mOp (gInt fSub) (gr (M.d (dz (g1 fun d=>(itemsD d).map fun l=>.v (.int l.length)) (dm 1 mNil))) (ret (.int 1))))) jb)))))
noncomputable def afw:Sd :=
  (dSeq (dIf (ab8 (aae (M.d (mFn fj [some 1,none,none] (f9 1 (bj (M.d (dz (g1 fun d=>(itemsD d).map fun l=>.v (.int l.length)) (dm 0 mNil))) (bj (M.d (dz (g1 fun d=>(itemsD d).map fun l=>.v (.int l.length)) (dm 0 mNil))) jb))))))) (dRet (M.v (ret (.bl false)))) dNx) (dRet (dz (g1 gAll) (cg (M.d (z6 [none,none] (mGet akx (cg (mVar 1) (cg (mVar 0) mNil))) (bTup 2 (j6 (cz 0) (j6 (cz 1) bNil))) (ret true) abn)) mNil))))
noncomputable def ym:Fd:=fnD 2 2 afw
noncomputable def zq:Sd :=
  (dIf (ab8 (aae (M.d (mFn ym [none,none] (bj (mVar 0) (bj (mVar 1) jb)))))) (fun _=>none) dNx)
noncomputable def j5:Fd:=fnD 2 2 zq
noncomputable def abm:M D :=
  (M.d (mOp gIx (bw 1 (M.d (mOp (gInt fSub) (bw 0 (ret (.int 1))))))))
noncomputable def afv:Sd :=
  (dRet (dz (g1 fun d=>(itemsD d).map fun l=>.v (.tup l)) (cg (M.d (z6 [none,none] (mGet akx (cg (mVar 1) (cg (mVar 0) mNil))) (bTup 2 (j6 (cz 0) (j6 (cz 1) bNil))) (ret true) abm)) mNil)))
noncomputable def rn:Fd:=fnD 2 2 afv
noncomputable def vh:M Bool :=
  (jk (gIn false) (gr (M.d (mOp gIx (bw 2 (dq 0)))) (dq 1)))
noncomputable def z8:M D :=
  (mVar 0)
noncomputable def vg:M Bool :=
  (jk (gCmp fun i j=>decide (i < j)) (gr (M.d (dz (g1 fun d=>(itemsD d).map fun l=>.v (.int l.length)) (dm 2 mNil))) (dq 3)))
noncomputable def vf:Sd :=
  (dSeq (dSet 3 (dz (g1 fun d=>(itemsD d).map fun l=>.v (.int l.length)) (dm 2 mNil))) (dSet 2 (z6 [none,some 2,some 0] (vq (mVar 2)) (cz 0) vh z8)))
noncomputable def adb:Sd :=
  (dSeq (dSet 2 (dz (g1 fun d=>(itemsD d).map fun l=>.fr l) (dm 1 mNil))) (dSeq (dSet 3 (mOp gAdd (gr (M.d (dz (g1 fun d=>(itemsD d).map fun l=>.v (.int l.length)) (dm 2 mNil))) (ret (.int 1))))) (dSeq (whileD vg vf fuel) (dRet (ai6 2)))))
noncomputable def uf:Fd:=fnD 4 2 adb
noncomputable def agx:Sd :=
  (dRet (mOp (gEq false) (gr (M.d (mFn uf [none,none] (bj (M.d (mFn rn [none,none] (bj (mVar 0) (bj (mVar 1) jb)))) (bj (M.d (abv (cg (M.d (dz (g1 fun d=>(itemsD d).map fun l=>.v (.int l.length)) (dm 0 mNil))) mNil))) jb)))) (M.d (mLst mNil)))))
noncomputable def aaj:Fd:=fnD 2 2 agx
noncomputable def yj:Sd :=
  (dIf (ab8 (aae (M.d (mFn aaj [none,none] (bj (mVar 0) (bj (mVar 1) jb)))))) (fun _=>none) dNx)
noncomputable def jt:Fd:=fnD 2 2 yj
noncomputable def aav:M D :=
  (M.d (mFn jd [some 0,none,some 1] (f9 0 (bj (ret (.int 0)) (f9 1 jb)))))
noncomputable def aen:Sd :=
  (dSeq (dIf (ab8 (aae (M.d (mFn fj [some 1,none,none] (f9 1 (bj (M.d (dz (g1 fun d=>(itemsD d).map fun l=>.v (.int l.length)) (dm 0 mNil))) (bj (M.d (dz (g1 fun d=>(itemsD d).map fun l=>.v (.int l.length)) (dm 0 mNil))) jb))))))) (dRet (M.v (ret (.bl false)))) dNx) (dRet (dz (g1 gAll) (cg (M.d (z6 [none,some 2] (vq (mVar 1)) (cz 0) (ret true) aav)) mNil))))
noncomputable def v5:Fd:=fnD 3 3 aen
noncomputable def yh:Sd :=
  (dIf (ab8 (aae (M.d (mFn v5 [some 0,none,none] (f9 0 (bj (mVar 1) (bj (ret (.int 100)) jb))))))) (fun _=>none) dNx)
noncomputable def jr:Fd:=fnD 2 2 yh
noncomputable def aah:Sd :=
  (dSeq (ad8 (mFn j5 [none,none] (bj (mVar 0) (bj (mVar 1) jb)))) (ad8 (mFn jr [some 0,none] (f9 0 (bj (mVar 2) jb)))))
noncomputable def lu:Fd:=fnD 3 3 aah
noncomputable def qy:M Bool :=
  (jk (gEq true) (bw 4 (dq 2)))
noncomputable def qx:Sd :=
  (dSeq (dSet 3 (M.v (mVar 4))) (dSet 4 (mIf (jk (gCmp fun i j=>decide (j≤i)) (bw 3 (ret (.int 0)))) (mOp gIx (bw 0 (dq 3))) (M.v (mVar 1)))))
noncomputable def yl:Sd :=
  (dSeq (dSet 3 (M.v (mVar 2))) (dSeq (dSet 4 (mIf (jk (gCmp fun i j=>decide (j≤i)) (bw 3 (ret (.int 0)))) (mOp gIx (bw 0 (dq 3))) (M.v (mVar 1)))) (dSeq (whileD qy qx fuel) (dRet (ai6 3)))))
noncomputable def f_ahead_on_ring:Fd:=fnD 5 3 yl
noncomputable def abq:M Bool :=
  (jk (gCmp fun i j=>decide (j≤i)) (bw 2 (ret (.int 0))))
noncomputable def ado:Sd :=
  (dSet 2 (mOp gIx (bw 0 (dq 2))))
noncomputable def ajg:Sd :=
  (dSeq (dSet 2 (M.v (mVar 1))) (dSeq (whileD abq ado fuel) (dRet (ai6 2))))
noncomputable def abk:Fd:=fnD 3 2 ajg
noncomputable def acu:M Bool :=
  (jk (gCmp fun i j=>decide (j≤i)) (bw 7 (ret (.int 0))))
noncomputable def ae2:Sd :=
  (dSeq (ad8 (M.v (mMut 6 ad2 (cg (mVar 5) mNil)))) (dSeq (dSub 3 (mVar 7) (M.d (mOp (gInt fMod) (gr (M.d (mOp (gInt fSub) (gr (M.d (mOp gIx (bw 3 (dq 7)))) (ret (.int 1))))) (M.d (dz (g1 fun d=>(itemsD d).map fun l=>.v (.int l.length)) (cg (M.d (mOp gIx (bw 0 (dq 7)))) mNil))))))) (dSeq (dSub 4 (mVar 7) (M.d (mOp gIx (gr (M.d (mOp gIx (bw 0 (dq 7)))) (M.d (mOp (gInt fSub) (gr (M.d (mOp gIx (bw 3 (dq 7)))) (ret (.int 1))))))))) (dSeq (dSet 5 (M.v (mVar 7))) (dSet 7 (mFn f_ahead_on_ring [some 4,none,none] (f9 4 (bj (mVar 2) (bj (mVar 5) jb)))))))))
noncomputable def al6:Sd :=
  (dSeq (dSet 3 (dz (g1 fun d=>(itemsD d).map fun l=>.fr l) (dm 1 mNil))) (dSeq (dSet 4 (dz (g1 fun d=>(itemsD d).map fun l=>.fr l) (cg (M.d (mFn rn [none,none] (bj (mVar 0) (bj (mVar 1) jb)))) mNil))) (dSeq (dSet 5 (mFn abk [some 4,none] (f9 4 (bj (mVar 2) jb)))) (dSeq (dSet 6 (mLst mNil)) (dSeq (dSet 7 (mFn f_ahead_on_ring [some 4,none,none] (f9 4 (bj (mVar 2) (bj (mVar 5) jb))))) (dSeq (whileD acu ae2 fuel) (dSeq (ad8 (M.v (mMut 6 ah2 mNil))) (dRet (M.v (mTup (cg (M.d (dz (g1 fun d=>(itemsD d).map fun l=>.v (.tup l)) (dm 3 mNil))) (cg (mVar 6) mNil))))))))))))
noncomputable def adg:Fd:=fnD 8 3 al6
noncomputable def qd:Sd :=
  (ah9 (fun i j=>i+j) 0 (mVar 3) (ret (.int 1)))
noncomputable def aa5:Sd :=
  (dSeq (ah9 (fun i j=>i+j) 0 (mVar 1) (ret (.int 1))) (dFor (vq (M.d (aox 2 (ret none) (ai5 (mUn gNeg (ret (.int 1))))))) (cz 3) qd))
noncomputable def m5:Fd:=fnD 4 3 aa5
noncomputable def qz:Sd :=
  (dSeq (dSet 7 (mFn adg [none,none,none] (bj (mVar 0) (bj (mVar 1) (bj (mVar 4) jb))))) (dSeq (dSet 1 (mOp gIx (bw 7 (ret (.int 0))))) (ad8 (mFn m5 [some 3,none,none] (f9 3 (bj (mVar 4) (bj (M.d (mOp gIx (bw 7 (ret (.int 1))))) jb)))))))
noncomputable def wg:Sd :=
  (dFor (mGet u6 (cg (mVar 5) mNil)) (cz 6) qz)
noncomputable def abj:Sd :=
  (dSeq (dSet 3 (mOp gMul (gr (M.d (mLst (cg (ret (.int 0)) mNil))) (M.d (dz (g1 fun d=>(itemsD d).map fun l=>.v (.int l.length)) (dm 0 mNil)))))) (dSeq (dFor (mGet aph (cg (mVar 2) mNil)) (bTup 2 (j6 (cz 4) (j6 (cz 5) bNil))) wg) (dRet (M.v (mTup (cg (mVar 1) (cg (M.d (dz (g1 fun d=>(itemsD d).map fun l=>.v (.tup l)) (dm 3 mNil))) mNil)))))))
noncomputable def n6:Fd:=fnD 8 3 abj
noncomputable def acd:Sd :=
  (dSeq (ad8 (mFn lu [none,none,none] (bj (mVar 0) (bj (mVar 1) (bj (mVar 2) jb))))) (dSeq (ad8 (mFn lq [some 0] (f9 0 jb))) (dSeq (ad8 (mFn jt [none,none] (bj (mVar 0) (bj (mVar 1) jb)))) (dRet (mFn n6 [none,none,none] (bj (mVar 0) (bj (mVar 1) (bj (mVar 2) jb))))))))
noncomputable def qp:Fd:=fnD 3 3 acd
noncomputable def acp:Sd :=
  (dSeq (dIf (jk (gCmp fun i j=>decide (i < j)) (bw 1 (M.d (dz (g1 fun d=>(itemsD d).map fun l=>.v (.int l.length)) (dm 0 mNil))))) (dRet (mOp gIx (bw 0 (dq 1)))) dNx) (dRet (M.v (ret (.int 0)))))
noncomputable def f__law_cell:Fd:=fnD 2 2 acp
noncomputable def agz:Sd :=
  (dSeq (dSet 1 (dz (g2 (gInt fun i j=>some (if j > i then j else i))) (dm 0 (cg (M.d (mOp (gInt fSub) (gr (ret (.int 0)) (dq 0)))) mNil)))) (dRet (mLst (cg (mVar 1) (cg (M.d (dz (g1 ase) (cg (M.d (mOp (gCmp fun i j=>decide (j≤i)) (bw 1 (M.d (mOp (gInt fPow) (gr (ret (.int 10)) (ret (.int 18)))))))) mNil))) mNil)))))
noncomputable def f__law_pen:Fd:=fnD 2 1 agz
noncomputable def aco:Sd :=
  (dSeq (dIf (jk (gEq false) (gr (M.d (mOp gIx (bw 0 (ret (.int 1))))) (ret (.int 1)))) (dSeq (dAsg (M.d (dz (g2 ah3) (cg (M.d (mOp gIx (bw 0 (ret (.int 0))))) (dm 1 mNil)))) (bTup 2 (j6 (cz 2) (j6 (cz 3) bNil)))) (dSeq (dSub 0 (ret (.int 0)) (mVar 2)) (dRet (ai6 3)))) dNx) (dSeq (dSet 4 (mOp (gInt fMod) (gr (M.d (mOp gMul (gr (M.d (mOp gAdd (gr (M.d (mOp (gInt fMod) (gr (M.d (mOp gIx (bw 0 (ret (.int 0))))) (ret (.int 2147483647))))) (ret (.int 40503))))) (ret (.int 69621))))) (ret (.int 2147483629))))) (dSeq (dSet 4 (mOp (gInt fMod) (gr (M.d (mOp gAdd (gr (M.d (mOp gMul (bw 4 (dq 4)))) (ret (.int 7817))))) (ret (.int 2147483587))))) (dSeq (dSub 0 (ret (.int 0)) (M.d (mOp (gInt fMod) (gr (M.d (mOp gAdd (gr (M.d (mOp gMul (bw 4 (ret (.int 48271))))) (ret (.int 11))))) (ret (.int 2147483629)))))) (dRet (mOp (gInt fMod) (gr (M.d (mOp (gInt fDiv) (gr (M.d (mOp gIx (bw 0 (ret (.int 0))))) (ret (.int 32))))) (dq 1))))))))
noncomputable def f__law_draw:Fd:=fnD 5 2 aco
noncomputable def aeo:Sd :=
  (dRet (M.v (mAnd (mIsi .int (dq 0)) (mUn gNot (mIsi .bool (dq 0))))))
noncomputable def v6:Fd:=fnD 1 1 aeo
noncomputable def aay:M D :=
  (M.d (mOp (gInt fSub) (gr (M.d (mFn f__law_draw [some 1,none] (f9 1 (bj (M.d (mOp gAdd (bw 2 (dq 3)))) jb)))) (dq 3))))
noncomputable def aas:Sd :=
  (dSeq (dSet 7 (mOp gAdd (gr (ret (.int 1)) (M.d (mFn f__law_draw [some 0,some 2] (f9 0 (f9 2 jb))))))) (ad8 (M.v (mMut 5 ad2 (cg (M.d (dz (g1 fun d=>(itemsD d).map fun l=>.v (.tup l)) (cg (M.d (z6 [none,some 0,some 3,some 4] (mGet u6 (cg (mVar 7) mNil)) (cz 0) (ret true) aay)) mNil))) mNil)))))
noncomputable def aer:Sd :=
  (dSeq (dSet 3 (mOp gAdd (gr (ret (.int 1)) (M.d (mFn f__law_draw [some 0,some 1] (f9 0 (f9 1 jb))))))) (dSeq (dSet 4 (mOp gIx (gr (M.d (mLst (cg (ret (.int 0)) (cg (ret (.int 1)) (cg (ret (.int 3)) (cg (ret (.int 3)) mNil)))))) (M.d (mFn f__law_draw [some 0,none] (f9 0 (bj (ret (.int 4)) jb))))))) (dSeq (dSet 5 (mLst mNil)) (dSeq (dFor (mGet u6 (cg (mVar 3) mNil)) (cz 6) aas) (dRet (dz (g1 fun d=>(itemsD d).map fun l=>.v (.tup l)) (dm 5 mNil)))))))
noncomputable def f__law_house:Fd:=fnD 8 3 aer
noncomputable def yz:M Bool :=
  (jk (gIn true) (bw 0 (dq 1)))
noncomputable def yt:M D :=
  (mVar 0)
noncomputable def ni:M Bool :=
  (jk (gCmp fun i j=>decide (i < j)) (bw 3 (M.d (dz (g1 fun d=>(itemsD d).map fun l=>.v (.int l.length)) (dm 2 mNil)))))
noncomputable def jq:Sd :=
  (dSeq (dIf (jk (gCmp fun i j=>decide (j≤i)) (gr (M.d (mOp gIx (bw 2 (dq 3)))) (ret (.int 0)))) (dSet 2 (mOp gAdd (bw 2 (M.d (z6 [none,some 2] (vq (M.d (dz (g1 gSet) (cg (M.d (mOp gIx (bw 0 (M.d (mOp gIx (bw 2 (dq 3))))))) mNil)))) (cz 0) yz yt))))) dNx) (dSet 3 (mOp gAdd (bw 3 (ret (.int 1))))))
noncomputable def ace:Sd :=
  (dSeq (dSet 2 (mLst (cg (mVar 1) mNil))) (dSeq (dSet 3 (M.v (ret (.int 0)))) (dSeq (whileD ni jq fuel) (dRet (ai6 2)))))
noncomputable def qt:Fd:=fnD 4 2 ace
noncomputable def l1__law_open:Sd :=
  (dIf (jk (gCmp fun i j=>decide (j≤i)) (gr (M.d (dz (g1 avm) (cg (M.d (mFn qt [some 3,none] (f9 3 (bj (mVar 4) jb)))) mNil))) (ret (.int 0)))) (dSeq (dSet 5 (mFn f__law_draw [some 0,none] (f9 0 (bj (M.d (dz (g1 fun d=>(itemsD d).map fun l=>.v (.int l.length)) (cg (M.d (mOp gIx (bw 3 (dq 4)))) mNil))) jb)))) (dSub 3 (mVar 4) (M.d (mOp gAdd (gr (M.d (mOp gAdd (gr (M.d (mCut (M.d (mOp gIx (bw 3 (dq 4)))) (ret none) (ai5 (mVar 5)))) (mTup (cg (M.d (mOp (gInt fSub) (gr (mUn gNeg (ret (.int 1))) (M.d (mFn f__law_draw [some 0,none] (f9 0 (bj (ret (.int 3)) jb))))))) mNil))))) (M.d (mCut (M.d (mOp gIx (bw 3 (dq 4)))) (ai5 (M.d (mOp gAdd (bw 5 (ret (.int 1)))))) (ret none)))))))) dNx)
noncomputable def afx:Sd :=
  (dSeq (dSet 3 (dz (g1 fun d=>(itemsD d).map fun l=>.fr l) (cg (M.d (mFn f__law_house [some 0,some 1,some 2] (f9 0 (f9 1 (f9 2 jb))))) mNil))) (dSeq (dFor (mGet u6 (cg (M.d (dz (g1 fun d=>(itemsD d).map fun l=>.v (.int l.length)) (dm 3 mNil))) mNil)) (cz 4) l1__law_open) (dRet (dz (g1 fun d=>(itemsD d).map fun l=>.v (.tup l)) (dm 3 mNil)))))
noncomputable def f__law_open:Fd:=fnD 6 3 afx
noncomputable def z9:M D :=
  (M.d (mFn f__law_draw [some 1,none] (f9 1 (bj (M.d (dz (g1 fun d=>(itemsD d).map fun l=>.v (.int l.length)) (dm 0 mNil))) jb))))
noncomputable def ade:Sd :=
  (dRet (dz (g1 fun d=>(itemsD d).map fun l=>.v (.tup l)) (cg (M.d (z6 [none,some 0] (vq (mVar 1)) (cz 0) (ret true) z9)) mNil)))
noncomputable def f__law_arrows:Fd:=fnD 2 2 ade
noncomputable def afy:Sd :=
  (dSeq (dSet 3 (mOp gIx (bw 1 (dq 2)))) (dSeq (dSet 4 (dz (g1 fun d=>(itemsD d).map fun l=>.fr l) (dm 1 mNil))) (dSeq (dSub 4 (mVar 2) (M.d (mOp (gInt fMod) (gr (M.d (mOp gAdd (bw 3 (ret (.int 1))))) (M.d (dz (g1 fun d=>(itemsD d).map fun l=>.v (.int l.length)) (cg (M.d (mOp gIx (bw 0 (dq 2)))) mNil))))))) (dRet (M.v (mTup (cg (M.d (dz (g1 fun d=>(itemsD d).map fun l=>.v (.tup l)) (dm 4 mNil))) (cg (M.d (mOp gIx (gr (M.d (mOp gIx (bw 0 (dq 2)))) (dq 3)))) mNil))))))))
noncomputable def yo:Fd:=fnD 5 3 afy
noncomputable def aaw:M D :=
  (M.d (mFn v6 [some 0] (f9 0 jb)))
noncomputable def aep:Sd :=
  (dSeq (dIf (mOrB (ab8 (aae (mIsi .tuple (dq 0)))) (jk (gEq true) (bw 0 (dq 1)))) (dRet (M.v (ret (.bl false)))) dNx) (dRet (dz (g1 gAll) (cg (M.d (z6 [none] (vq (mVar 0)) (cz 0) (ret true) aaw)) mNil))))
noncomputable def t8:Fd:=fnD 2 2 aep
noncomputable def zc:M Bool :=
  (au8 (jk (gCmp fun i j=>decide (j≤i)) (bw 5 (ret (.int 0)))) (jk (gCmp fun i j=>decide (i < j)) (gr (M.d (dz (g1 fun d=>(itemsD d).map fun l=>.v (.int l.length)) (dm 4 mNil))) (dq 3))))
noncomputable def aa7:Sd :=
  (dSeq (dAsg (M.d (mFn yo [some 0,some 1,none] (f9 0 (f9 1 (bj (mVar 5) jb))))) (bTup 2 (j6 (cz 1) (j6 (cz 5) bNil)))) (ad8 (M.v (mMut 4 ad2 (cg (mVar 5) mNil)))))
noncomputable def af0:Sd :=
  (dSeq (dSet 4 (mLst mNil)) (dSeq (dSet 5 (M.v (mVar 2))) (dSeq (whileD zc aa7 fuel) (dRet (M.v (mTup (cg (mVar 1) (cg (mVar 4) mNil))))))))
noncomputable def f__law_gone:Fd:=fnD 6 4 af0
noncomputable def z7:Sd :=
  (dSub 3 (mVar 4) (M.d (mOp gAdd (gr (M.d (mOp gIx (bw 3 (dq 4)))) (ret (.int 1))))))
noncomputable def adc:Sd :=
  (dSeq (dSet 3 (mOp gMul (gr (M.d (mLst (cg (ret (.int 0)) mNil))) (M.d (dz (g1 fun d=>(itemsD d).map fun l=>.v (.int l.length)) (dm 0 mNil)))))) (dSeq (dFor (vq (M.d (mOp gAdd (gr (M.d (mLst (cg (mVar 1) mNil))) (M.d (aox 2 (ret none) (ai5 (mUn gNeg (ret (.int 1)))))))))) (cz 4) z7) (dRet (dz (g1 fun d=>(itemsD d).map fun l=>.v (.tup l)) (dm 3 mNil)))))
noncomputable def ug:Fd:=fnD 5 3 adc
noncomputable def abo:M D :=
  (M.d (mOp gIx (bw 0 (M.d (mOp (gInt fMod) (gr (M.d (mOp (gInt fSub) (bw 1 (ret (.int 1))))) (M.d (dz (g1 fun d=>(itemsD d).map fun l=>.v (.int l.length)) (dm 0 mNil)))))))))
noncomputable def afz:Sd :=
  (dRet (z6 [none,none] (mGet akx (cg (mVar 0) (cg (mVar 1) mNil))) (bTup 2 (j6 (cz 0) (j6 (cz 1) bNil))) (ret true) abo))
noncomputable def yp:Fd:=fnD 2 2 afz
noncomputable def vz:Sd :=
  (dIf (jk (gCmp fun i j=>decide (j≤i)) (bw 4 (ret (.int 0)))) (dSet 4 (mOp gIx (bw 2 (dq 4)))) dNx)
noncomputable def vy:Sd :=
  (dSeq (dSet 4 (M.v (mVar 3))) (dSeq (dFor (mGet u6 (cg (M.d (dz (g1 fun d=>(itemsD d).map fun l=>.v (.int l.length)) (dm 0 mNil))) mNil)) (cz 5) vz) (dIf (jk (gCmp fun i j=>decide (j≤i)) (bw 4 (ret (.int 0)))) (dRet (M.v (ret (.bl false)))) dNx)))
noncomputable def acn:Sd :=
  (dSeq (dSet 2 (mFn yp [none,none] (bj (mVar 0) (bj (mVar 1) jb)))) (dSeq (dFor (mGet u6 (cg (M.d (dz (g1 fun d=>(itemsD d).map fun l=>.v (.int l.length)) (dm 0 mNil))) mNil)) (cz 3) vy) (dRet (M.v (ret (.bl true))))))
noncomputable def u9:Fd:=fnD 6 2 acn
noncomputable def aa1:M Bool :=
  (jk (gIn true) (bw 0 (dq 1)))
noncomputable def aaz:M D :=
  (mVar 0)
noncomputable def qj:M Bool :=
  (mOrB (jk (gCmp fun i j=>decide (i < j)) (bw 1 (ret (.int 0)))) (jk (gIn false) (bw 1 (dq 2))))
noncomputable def w6:M D :=
  (mVar 0)
noncomputable def qe:Sd :=
  (dSeq (dSet 6 (mOp gIx (bw 1 (dq 5)))) (dSeq (dSet 7 (z6 [none,none,some 3] (mGet aph (cg (mVar 6) mNil)) (bTup 2 (j6 (cz 0) (j6 (cz 1) bNil))) qj w6)) (dIf (jk (gEq true) (bw 7 (M.d (mLst mNil)))) (dSeq (dIf (jk (gIn true) (gr (M.d (mOp (gInt fMod) (gr (M.d (mOp (gInt fSub) (gr (M.d (mOp gIx (bw 4 (dq 5)))) (ret (.int 1))))) (M.d (dz (g1 fun d=>(itemsD d).map fun l=>.v (.int l.length)) (dm 6 mNil)))))) (dq 7))) (dSub 4 (mVar 5) (M.d (mOp (gInt fMod) (gr (M.d (mOp gAdd (gr (M.d (mOp gIx (bw 7 (M.d (mFn f__law_draw [some 0,none] (f9 0 (bj (M.d (dz (g1 fun d=>(itemsD d).map fun l=>.v (.int l.length)) (dm 7 mNil))) jb))))))) (ret (.int 1))))) (M.d (dz (g1 fun d=>(itemsD d).map fun l=>.v (.int l.length)) (dm 6 mNil))))))) dNx) (ad8 (M.v (mMut 3 ad2 (cg (mVar 5) mNil))))) dNx)))
noncomputable def wk:M Bool :=
  (jk (gCmp fun i j=>decide (i < j)) (gr (M.d (dz (g1 fun d=>(itemsD d).map fun l=>.v (.int l.length)) (dm 3 mNil))) (M.d (dz (g1 fun d=>(itemsD d).map fun l=>.v (.int l.length)) (dm 1 mNil)))))
noncomputable def aao:Sd :=
  (dFor (vq (M.d (z6 [none,some 3] (mGet u6 (cg (M.d (dz (g1 fun d=>(itemsD d).map fun l=>.v (.int l.length)) (dm 1 mNil))) mNil)) (cz 0) aa1 aaz))) (cz 5) qe)
noncomputable def aes:Sd :=
  (dSeq (dSet 3 (mLst mNil)) (dSeq (dSet 4 (dz (g1 fun d=>(itemsD d).map fun l=>.fr l) (dm 2 mNil))) (dSeq (whileD wk aao fuel) (dRet (dz (g1 fun d=>(itemsD d).map fun l=>.v (.tup l)) (dm 4 mNil))))))
noncomputable def v7:Fd:=fnD 8 3 aes
noncomputable def yu:M D :=
  (M.d (mOp gAdd (bw 0 (dq 1))))
noncomputable def ue:Sd :=
  (dSeq (dAsg (M.d (mFn f__law_gone [some 0,none,none,none] (f9 0 (bj (mVar 1) (bj (mVar 4) (bj (ret (.int 2000)) jb)))))) (bTup 2 (j6 (cz 1) (j6 (cz 5) bNil)))) (dSeq (dIf (jk (gCmp fun i j=>decide (j≤i)) (gr (M.d (mOp gIx (bw 5 (mUn gNeg (ret (.int 1)))))) (ret (.int 0)))) (dRet (M.v (ret .non))) dNx) (dSet 3 (z6 [none,none] (mGet akx (cg (mVar 3) (cg (M.d (mFn ug [some 0,none,some 5] (f9 0 (bj (mVar 4) (f9 5 jb))))) mNil))) (bTup 2 (j6 (cz 0) (j6 (cz 1) bNil))) (ret true) yu))))
noncomputable def acf:Sd :=
  (dSeq (dSet 3 (mOp gMul (gr (M.d (mLst (cg (ret (.int 0)) mNil))) (M.d (dz (g1 fun d=>(itemsD d).map fun l=>.v (.int l.length)) (dm 0 mNil)))))) (dSeq (dFor (vq (mVar 2)) (cz 4) ue) (dRet (M.v (mTup (cg (mVar 1) (cg (M.d (dz (g1 fun d=>(itemsD d).map fun l=>.v (.tup l)) (dm 3 mNil))) mNil)))))))
noncomputable def qu:Fd:=fnD 6 3 acf
noncomputable def wu:Sd :=
  (dSet 3 (mOp gAdd (bw 3 (M.d (mOp gMul (gr (M.d (mLst (cg (mVar 4) mNil))) (dq 5)))))))
noncomputable def aax:M D :=
  (agr (fun i j=>decide (i≤j)) (fun i j=>decide (i < j)) (ret (.int 0)) (mVar 0) (M.d (dz (g1 fun d=>(itemsD d).map fun l=>.v (.int l.length)) (dm 1 mNil))))
noncomputable def ud:Sd :=
  (dIf (jk (gEq true) (gr (M.d (mFn qu [some 0,none,none] (f9 0 (bj (M.d (mOp gIx (bw 7 (ret (.int 0))))) (bj (mVar 8) jb))))) (mTup (cg (mVar 1) (cg (M.d (mOp gIx (bw 7 (ret (.int 1))))) mNil))))) (dRet (M.v (ret (.bl false)))) dNx)
noncomputable def l3__law_right:Sd :=
  (dSeq (dSet 7 (mFn qp [none,none,none] (bj (mVar 0) (bj (mVar 1) (bj (mVar 2) jb))))) (dSeq (dIf (mOrB (ab8 (aae (mIsi .tuple (dq 7)))) (mOrB (jk (gEq true) (gr (M.d (dz (g1 fun d=>(itemsD d).map fun l=>.v (.int l.length)) (dm 7 mNil))) (ret (.int 2)))) (ab8 (aae (M.d (mFn t8 [none,none] (bj (M.d (mOp gIx (bw 7 (ret (.int 0))))) (bj (M.d (mOp gIx (bw 7 (ret (.int 0))))) jb)))))))) (dRet (M.v (ret (.bl false)))) dNx) (dSeq (dIf (mOrB (jk (gEq true) (gr (M.d (dz (g1 fun d=>(itemsD d).map fun l=>.v (.int l.length)) (cg (M.d (mOp gIx (bw 7 (ret (.int 0))))) mNil))) (M.d (dz (g1 fun d=>(itemsD d).map fun l=>.v (.int l.length)) (dm 0 mNil))))) (ab8 (aae (M.d (dz (g1 gAll) (cg (M.d (z6 [none,none] (mGet akx (cg (M.d (mOp gIx (bw 7 (ret (.int 0))))) (cg (mVar 0) mNil))) (bTup 2 (j6 (cz 0) (j6 (cz 1) bNil))) (ret true) aax)) mNil)))))) (dRet (M.v (ret (.bl false)))) dNx) (dSeq (dIf (mOrB (ab8 (aae (M.d (mFn u9 [none,none] (bj (mVar 0) (bj (M.d (mOp gIx (bw 7 (ret (.int 0))))) jb)))))) (ab8 (aae (M.d (mFn t8 [none,none] (bj (M.d (mOp gIx (bw 7 (ret (.int 1))))) (bj (M.d (mOp gIx (bw 7 (ret (.int 1))))) jb))))))) (dRet (M.v (ret (.bl false)))) dNx) (dFor (vq (M.d (mLst (cg (mVar 3) (cg (M.d (au6 (mVar 3) (mUn gNeg (ret (.int 1))))) mNil))))) (cz 8) ud)))))
noncomputable def aeq:Sd :=
  (dSeq (dSet 3 (mLst mNil)) (dSeq (dFor (mGet aph (cg (mVar 2) mNil)) (bTup 2 (j6 (cz 4) (j6 (cz 5) bNil))) wu) (dSeq (dFor (mGet u6 (cg (ret (.int 2)) mNil)) (cz 6) l3__law_right) (dRet (M.v (ret (.bl true)))))))
noncomputable def lw:Fd:=fnD 9 3 aeq
noncomputable def amf:M D :=
  (M.d (mFn f__law_draw [some 1,none] (f9 1 (bj (ret (.int 3)) jb))))
noncomputable def ajc:Sd :=
  (dIf (ab8 (aae (M.d (mFn lw [none,none,none] (bj (mVar 3) (bj (mVar 4) (bj (mVar 6) jb))))))) (dRet (M.v (ret (.bl false)))) dNx)
noncomputable def l2_law:Sd :=
  (dSeq (dSet 2 (mFn f__law_pen [some 1] (f9 1 jb))) (dSeq (dSet 3 (mFn f__law_open [some 2,none,none] (f9 2 (bj (M.d (mOp gIx (gr (M.d (mLst (cg (ret (.int 2)) (cg (ret (.int 3)) (cg (ret (.int 4)) mNil))))) (M.d (mFn f__law_draw [some 2,none] (f9 2 (bj (ret (.int 3)) jb))))))) (bj (ret (.int 3)) jb))))) (dSeq (dSet 4 (mFn v7 [some 2,some 3,none] (f9 2 (f9 3 (bj (M.d (mFn f__law_arrows [some 2,none] (f9 2 (bj (mVar 3) jb)))) jb))))) (dSeq (dSet 5 (dz (g1 fun d=>(itemsD d).map fun l=>.v (.tup l)) (cg (M.d (z6 [none,some 2] (vq (mVar 3)) (cz 0) (ret true) amf)) mNil))) (dFor (vq (M.d (mLst (cg (mVar 5) (cg (M.d (mOp gMul (gr (mTup (cg (ret (.int 0)) mNil)) (M.d (dz (g1 fun d=>(itemsD d).map fun l=>.v (.int l.length)) (dm 3 mNil)))))) (cg (mVar 5) mNil)))))) (cz 6) ajc)))))
noncomputable def ays:Sd :=
  (dSeq (dIf (mOrB (ab8 (aae (M.d (mFn lw [none,none,none] (bj (mTup (cg (mTup (cg (mUn gNeg (ret (.int 2))) mNil)) mNil)) (bj (mTup (cg (ret (.int 0)) mNil)) (bj (mTup (cg (ret (.int 3)) mNil)) jb))))))) (ab8 (aae (M.d (mFn lw [none,none,none] (bj (mTup (cg (mTup (cg (ret (.int 0)) (cg (ret (.int 0)) (cg (mUn gNeg (ret (.int 1))) mNil)))) mNil)) (bj (mTup (cg (ret (.int 0)) mNil)) (bj (mTup (cg (ret (.int 0)) mNil)) jb)))))))) (dRet (M.v (ret (.bl false)))) dNx) (dSeq (dFor (vq (M.d (mOp gAdd (gr (M.d (mLst (cg (M.d (mFn f__law_cell [some 0,none] (f9 0 (bj (ret (.int 0)) jb)))) mNil))) (M.d (aox 0 (ai5 (ret (.int 1))) (ai5 (ret (.int 3))))))))) (cz 1) l2_law) (dRet (M.v (ret (.bl true))))))
noncomputable def apn:Fd:=fnD 7 1 ays
end My
namespace My
open PySem L2 Mn Dn
noncomputable def agj:D→Bool
  | .int _=>true
  | _=>false
noncomputable def ag5 (a b:Int):D→Bool
  | .int i=>decide (a≤i)&&decide (i≤b)
  | _=>false
@[simp] theorem avc (d:D):aak [.val d]=some (.ok (.v (.bl (agj d))),[.val d]):=by
  cases d <;> simp [aak,agy,isTy,agj]
@[simp] theorem al3 (d:D) (a b:Int):jd [.val d,.val (.int a),.val (.int b)]=some (.ok (.v (.bl (ag5 a b d))),[.val d,.val (.int a),.val (.int b)]):=by
  cases d <;> simp [jd,aai,agj,ag5]
theorem ap2 (ns:List Int) (k:Int) (h:0≤k):∃ n,f__law_cell [.val (.kst (ns.map D.int)),.val (.int k)]=some (.ok (.v (.int n)),[.val (.kst (ns.map D.int)),.val (.int k)]):=by
  by_cases hk:k < (ns.length:Int)
  · have e:atI (ns.map D.int) k=some (.int (ns[k.toNat]'(by omega))):=by
      have h2:atI (ns.map D.int) ((k.toNat:Nat):Int)=some (.int (ns[k.toNat]'(by omega))):=aic (by simp [List.getElem?_map,List.getElem?_eq_getElem (show k.toNat < ns.length by omega)])
      rw [show ((k.toNat:Nat):Int)=k by omega] at h2
      exact h2
    exact ⟨ns[k.toNat]'(by omega),by simp [f__law_cell,acp,hk,e]⟩
  · exact ⟨0,by simp [f__law_cell,acp,hk]⟩
noncomputable def pen (P:Int×Int):List D:=[.int P.1,.int P.2]
@[simp] theorem a1h (P Q:Int×Int):(pen P=pen Q)=(P=Q):=by
  obtain ⟨a,b⟩:=P
  obtain ⟨c,d⟩:=Q
  simp [pen]
theorem arb (n:Int):∃ P,f__law_pen [.val (.int n)]=some (.ok (.fr (pen P)),[.val (.int n)]):=by
  refine ⟨(if 0 - n > n then 0 - n else n,if 10 ^ 18≤(if 0 - n > n then 0 - n else n) then 1 else 0),?_⟩
  simp [f__law_pen,agz,pen,fPow]
theorem qw (P:Int×Int) (m:Int) (h0:0 < m) (h1:m < 1000000000000000000000000000000000000000000000000000000000000):∃ r P',f__law_draw [.own (some 0) (pen P),.val (.int m)]=some (.ok (.v (.int r)),[.own (some 0) (pen P'),.val (.int m)])∧0≤r∧r < m:=by
  obtain ⟨a,b⟩:=P
  by_cases hb:b=1
  · refine ⟨a % m,(a / m,b),?_,Int.emod_nonneg _ (by omega),Int.emod_lt_of_pos _ h0⟩
    simp [f__law_draw,aco,pen,hb,h0,h1,atI,ixN]
  · have z0:0≤(a % 2147483647+40503)*69621 % 2147483629:=Int.emod_nonneg _ (by decide)
    have z1:(a % 2147483647+40503)*69621 % 2147483629 < 2147483629:=Int.emod_lt_of_pos _ (by decide)
    generalize hz:(a % 2147483647+40503)*69621 % 2147483629=z at z0 z1
    have hm:fMul z z=some (z*z):=by
      unfold fMul
      rw [if_pos (.inl ⟨by omega,by omega⟩)]
    refine ⟨((z*z+7817) % 2147483587*48271+11) % 2147483629 / 32 % m,(((z*z+7817) % 2147483587*48271+11) % 2147483629,b),?_,Int.emod_nonneg _ (by omega),Int.emod_lt_of_pos _ h0⟩
    have h69:∀ x:Int,fMul x 69621=some (x*69621):=fun x=>by unfold fMul; rw [if_pos (.inr (by decide))]
    have h48:∀ x:Int,fMul x 48271=some (x*48271):=fun x=>by unfold fMul; rw [if_pos (.inr (by decide))]
    simp [f__law_draw,aco,pen,hb,h0,h1,atI,ixN,h69,h48,hm,fMod,fDiv,hz]
structure HouseOk (m w:Int) (rooms:List (List Int)):Prop where
  one:1≤rooms.length
  most:(rooms.length:Int)≤m
  room:∀ r∈rooms,1≤r.length∧(r.length:Int)≤w∧∀ x∈r,-3≤x∧x < (rooms.length:Int)
noncomputable def hDs (rooms:List (List Int)):List D:=rooms.map fun r=>D.tup (r.map D.int)
noncomputable def hD (rooms:List (List Int)):D:=.tup (hDs rooms)
theorem am9 (P:Int×Int) (m w:Int) (m1:1≤m) (m2:m≤10) (w1:1≤w) (w2:w≤6):∃ rooms P',f__law_house [.own (some 0) (pen P),.val (.int m),.val (.int w)]=some (.ok (.v (hD rooms)),[.own (some 0) (pen P'),.val (.int m),.val (.int w)])∧HouseOk m w rooms:=by
  obtain ⟨r1,P1,e1,r1a,r1b⟩:=qw P m (by omega) (by omega)
  obtain ⟨r2,P2,e2,r2a,r2b⟩:=qw P1 4 (by decide) (by decide)
  have hg:∃ g:Int,atI [D.int 0,D.int 1,D.int 3,D.int 3] r2=some (.int g)∧0≤g∧g≤3:=by
    have:r2=0∨r2=1∨r2=2∨r2=3:=by omega
    rcases this with rfl | rfl | rfl | rfl
    · exact ⟨0,rfl,by decide,by decide⟩
    · exact ⟨1,rfl,by decide,by decide⟩
    · exact ⟨3,rfl,by decide,by decide⟩
    · exact ⟨3,rfl,by decide,by decide⟩
  obtain ⟨g,eg,g0,g3⟩:=hg
  have loop:=aau (b:=cz 6) (g:=aas) (fun i ρ=>∃ rooms P o1 o2,ρ=[.own (some 0) (pen P),.val (.int m),.val (.int w),.val (.int (1+r1)),.val (.int g),.own none (hDs rooms),o1,o2]∧rooms.length=i∧∀ r∈rooms,1≤r.length∧(r.length:Int)≤w∧∀ x∈r,-3≤x∧x < 1+r1)
    (l:=jj 0 (1+r1).toNat) (ρ:=[.own (some 0) (pen P2),.val (.int m),.val (.int w),.val (.int (1+r1)),.val (.int g),.own none [],.emp,.emp]) 0 ⟨[],P2,.emp,.emp,rfl,rfl,by simp⟩ ?_
  · obtain ⟨ρ',e3,rooms,P3,o1,o2,rfl,hl,hr⟩:=loop
    have hl:rooms.length=(1+r1).toNat:=by simpa [jj] using hl
    refine ⟨rooms,P3,?_,by omega,by omega,fun r h => ?_⟩
    · have hb:(1+r1).natAbs < 4611686018427387904:=by omega
      simp [f__law_house,aer,e1,e2,eg,hb,e3,hD]
    · obtain ⟨a,b,c⟩:=hr r h
      exact ⟨a,b,fun x hx=>by have:=c x hx; omega⟩
  · rintro i d ρ hd ⟨rooms,P4,o1,o2,rfl,hl,hr⟩
    obtain ⟨r5,P5,e5,r5a,r5b⟩:=qw P4 w (by omega) (by omega)
    have comp:=uo (b:=cz 0) (mc:=ret true) (me:=aay) (fun j ys ρ=>∃ ns P o,ρ=[o,.own (some 1) (pen P),.val (.int (1+r1)),.val (.int g)]∧ys=ns.map D.int∧ns.length=j∧∀ x∈ns,-3≤x∧x < 1+r1)
      (l:=jj 0 (1+r5).toNat) (ys:=[]) (ρ:=[.emp,.own (some 1) (pen P5),.val (.int (1+r1)),.val (.int g)]) 0 ⟨[],P5,.emp,rfl,rfl,rfl,by simp⟩ ?_
    · obtain ⟨ys,ρ',e6,ns,P6,o,rfl,rfl,hn,hx⟩:=comp
      have hn:ns.length=(1+r5).toNat:=by simpa [jj] using hn
      have hb:(1+r5).natAbs < 4611686018427387904:=by omega
      have hc1:ns.length≤capS:=b8 (by omega)
      have hi:i < (1+r1).toNat:=by
        have:=(List.getElem?_eq_some_iff.mp hd).1
        simpa [jj] using this
      have hc2:(hDs rooms).length < capS:=by simp [hDs,capS]; omega
      refine ⟨_,[.own (some 0) (pen P6),.val (.int m),.val (.int w),.val (.int (1+r1)),.val (.int g),.own none (hDs (rooms++[ns])),.val d,.val (.int (1+r5))],rfl,.inl (by simp [aas,e5,hb,e6,hc1,hc2]; simp [hDs]),rooms++[ns],P6,_,_,rfl,by simp [hl],fun r h => ?_⟩
      rcases List.mem_append.mp h with h | h
      · exact hr r h
      · obtain rfl:r=ns:=by simpa using h
        exact ⟨by omega,by omega,hx⟩
    · rintro j d ys ρ hd ⟨ns,P6,o,rfl,rfl,hn,hx⟩
      obtain ⟨r7,P7,e7,r7a,r7b⟩:=qw P6 (1+r1+g) (by omega) (by omega)
      refine ⟨_,_,true,rfl,rfl,.inr ⟨rfl,.int (r7 - g),_,by simp [aay,e7]; rfl,ns++[r7 - g],P7,_,rfl,by simp,by simp [hn],fun x h => ?_⟩⟩
      rcases List.mem_append.mp h with h | h
      · exact hx x h
      · obtain rfl:x=r7 - g:=by simpa using h
        omega
@[simp] theorem atb (d:D):v6 [.val d]=some (.ok (.v (.bl (agj d))),[.val d]):=by
  cases d <;> simp [v6,aeo,isTy,agj]
end My
namespace My
open PySem L2 Mn Dn
structure Hs (rooms:List (List Int)):Prop where
  one:1≤rooms.length
  most:rooms.length≤10
  room:∀ r∈rooms,1≤r.length∧r.length≤6∧∀ x∈r,-3≤x∧x < (rooms.length:Int)
noncomputable def dr (rooms:List (List Int)) (x:Int):List Int:=rooms.getD x.toNat []
inductive Rch (rooms:List (List Int)) (a:Int):Int→Prop
  | base:Rch rooms a a
  | step {x d:Int}:Rch rooms a x→0≤x→d∈dr rooms x→Rch rooms a d
theorem aea {rooms:List (List Int)} {x:Int} (h0:0≤x) (h1:x < (rooms.length:Int)):atI (hDs rooms) x=some (.tup ((dr rooms x).map D.int)):=by
  have hk:x.toNat < rooms.length:=by omega
  have q:atI (hDs rooms) ((x.toNat:Nat):Int)=some (.tup ((dr rooms x).map D.int)):=aic (by simp [hDs,dr,List.getElem?_eq_getElem hk])
  rw [show ((x.toNat:Nat):Int)=x by omega] at q
  exact q
theorem Hs.dr {rooms:List (List Int)} (h:Hs rooms) {x:Int} (h0:0≤x) (h1:x < (rooms.length:Int)):1≤(dr rooms x).length∧(My.dr rooms x).length≤6∧∀ y∈My.dr rooms x,-3≤y∧y < (rooms.length:Int):=by
  have hk:x.toNat < rooms.length:=by omega
  have e:My.dr rooms x=rooms[x.toNat]:=by simp [My.dr,hk]
  rw [e]
  exact h.room _ (List.getElem_mem hk)
theorem Rch.range {rooms:List (List Int)} (h:Hs rooms) {a x:Int} (ha:0≤a∧a < (rooms.length:Int)) (r:Rch rooms a x) : -3≤x∧x < (rooms.length:Int):=by
  induction r with
  | base=>omega
  | step r h0 hd ih=>exact (h.dr h0 ih.2).2.2 _ hd
theorem ai1:∀ (m:Nat) (l:List Int),l.Nodup→(∀ x∈l,-3≤x∧x < (m:Int) - 3)→l.length≤m
  | 0,l,_,h=>by
    cases l with
    | nil=>simp
    | cons x r=>have:=h x (List.mem_cons_self ..); omega
  | m+1,l,hn,h=>by
    have h1:(l.erase ((m:Int) - 3)).length≤m:=ai1 m _ (hn.erase _) fun x hx=>by
      rw [hn.mem_erase_iff] at hx
      have:=h x hx.2
      have:=hx.1
      omega
    have h2:l.length≤(l.erase ((m:Int) - 3)).length+1:=by
      rw [List.length_erase]
      split <;> omega
    omega
theorem at4 {rooms:List (List Int)} (h:Hs rooms) {a:Int} (ha:0≤a∧a < (rooms.length:Int)) {ns:List Int} (hn:ns.Nodup) (hr:∀ x∈ns,Rch rooms a x):ns.length≤13:=by
  have:=ai1 (rooms.length+3) ns hn fun x hx=>by have:=Rch.range h ha (hr x hx); omega
  have:=h.most
  omega
theorem amx {rooms:List (List Int)} {a:Int} {ns:List Int} (h0:a∈ns) (hc:∀ x∈ns,0≤x→∀ d∈dr rooms x,d∈ns) {x:Int} (r:Rch rooms a x):x∈ns:=by
  induction r with
  | base=>exact h0
  | step r h0 hd ih=>exact hc _ ih h0 _ hd
theorem azl {ns:List Int} {i:Nat} (h:i < ns.length):atI (ns.map D.int) (i:Int)=some (.int ns[i]):=aic (by simp [List.getElem?_eq_getElem h])
noncomputable def azr (rooms:List (List Int)) (S:Sl):Prop:=S=.val (hD rooms)∨S=.own (some 0) (hDs rooms)
theorem aip {rooms:List (List Int)} (h:Hs rooms) {S:Sl} (hS:azr rooms S) {a:Int} {ns:List Int} {i:Nat} (hi:i < ns.length) (hz:ns.length≤13) (hx:ns[i] < (rooms.length:Int)) :
    jq [S,.val (.int a),.own none (ns.map D.int),.val (.int (i:Nat))]=some (.nx,[S,.val (.int a),.own none ((if 0≤ns[i] then ns++(setI (dr rooms ns[i])).filter (fun d => !decide (d∈ns)) else ns).map D.int),.val (.int ((i:Nat)+1))]):=by
  have ei:=azl hi
  by_cases h0:0≤ns[i]
  · obtain ⟨k1,k2,k3⟩:=h.dr h0 hx
    have er:=aea h0 hx
    have es:=ape (ns:=dr rooms ns[i]) (by omega)
    have ef:compD (cz 0) yz yt ((setI (dr rooms ns[i])).map D.int) [] [.emp,.own (some 1) (ns.map D.int)]=some (.ok (((setI (dr rooms ns[i])).filter (fun d => !decide (d∈ns))).map D.int),acj .emp ((setI (dr rooms ns[i])).map D.int)::[.own (some 1) (ns.map D.int)]):=by
      rw [uc (p:=fun d=>match d with | .int k => !decide (k∈ns) | _=>false) (f:=id)]
      · simp [List.filter_map,Function.comp_def]
      · intro d hd
        obtain ⟨k,_,rfl⟩:=List.mem_map.mp hd
        simp [yz,ad1]
      · intro d hd _
        simp [yt]
    have hlen:(setI (dr rooms ns[i])).length≤6:=by
      unfold setI
      rw [(sortI_perm _).length_eq]
      exact Nat.le_trans (aci _) k2
    have hc1:((setI (dr rooms ns[i])).filter (fun d => !decide (d∈ns))).length≤6:=Nat.le_trans (List.length_filter_le _ _) hlen
    have hc2:ns.length+((setI (dr rooms ns[i])).filter (fun d => !decide (d∈ns))).length≤capS:=b8 (by omega)
    have hc3:((setI (dr rooms ns[i])).filter (fun d => !decide (d∈ns))).length≤capS:=b8 (by omega)
    rcases hS with rfl | rfl
    · simp [jq,hD,ei,h0,er,es,ef,hc1,hc2,hc3]
    · simp [jq,ei,h0,er,es,ef,hc1,hc2,hc3]
  · simp [jq,ei,h0]
end My
namespace My
open PySem L2 Mn Dn
theorem aiq {rooms:List (List Int)} (h:Hs rooms) {S:Sl} (hS:azr rooms S) {a:Int} (ha:0≤a∧a < (rooms.length:Int)) :
    ∃ ns:List Int,qt [S,.val (.int a)]=some (.ok (.fr (ns.map D.int)),[S,.val (.int a)])∧ns≠[]∧∀ x,x∈ns↔Rch rooms a x:=by
  have loop:=oh (c:=ni) (g:=jq)
    (fun k ρ=>∃ (ns:List Int) (i:Nat),ρ=[S,.val (.int a),.own none (ns.map D.int),.val (.int (i:Nat))]∧k=20 - i∧i≤ns.length∧ns.Nodup∧a∈ns∧(∀ x∈ns,Rch rooms a x)∧∀ j (hj:j < ns.length),j < i→0≤ns[j]→∀ d∈dr rooms ns[j],d∈ns)
    (fun ρ=>∃ (ns:List Int) (o:Sl),ρ=[S,.val (.int a),.own none (ns.map D.int),o]∧ns≠[]∧∀ x,x∈ns↔Rch rooms a x) ?_ fuel 20 [S,.val (.int a),.own none ([a].map D.int),.val (.int ((0:Nat):Int))] (Nat.lt_trans (by decide) aat)
    ⟨[a],0,rfl,rfl,by simp,by simp,by simp,by simp; exact .base,fun j hj hlt=>absurd hlt (Nat.not_lt_zero _)⟩
  · obtain ⟨ρ',e,ns,o,rfl,hne,hm⟩:=loop
    have e:whileD ni jq fuel [S,.val (.int a),.own none [.int a],.val (.int 0)]=some (.nx,[S,.val (.int a),.own none (ns.map D.int),o]):=e
    refine ⟨ns,?_,hne,hm⟩
    rcases hS with rfl | rfl <;> simp [qt,ace,e]
  · rintro k ρ ⟨ns,i,rfl,rfl,hi,hn,h0,hr,hc⟩
    have hz:=at4 h ha hn hr
    by_cases hlt:i < ns.length
    · refine .inr ⟨[S,.val (.int a),.own none (ns.map D.int),.val (.int (i:Nat))],_,20 - (i+1),?_,aip h hS hlt hz (Rch.range h ha (hr _ (List.getElem_mem hlt))).2,by omega,?_⟩
      · have:(i:Int) < (ns.length:Int):=by omega
        rcases hS with rfl | rfl <;> simp [ni,this]
      · by_cases hp:0≤ns[i]
        · rw [if_pos hp]
          refine ⟨_,i+1,rfl,rfl,by simp; omega,?_,List.mem_append_left _ h0,?_,?_⟩
          · rw [List.nodup_append]
            refine ⟨hn,List.Pairwise.sublist List.filter_sublist (am3 _),fun x hx y hy e => ?_⟩
            have:=(List.mem_filter.mp hy).2
            subst e
            simp [hx] at this
          · intro x hx
            rcases List.mem_append.mp hx with hx | hx
            · exact hr x hx
            · exact .step (hr _ (List.getElem_mem hlt)) hp ((al0 _ _).mp (List.mem_filter.mp hx).1)
          · intro j hj hji hjp d hd
            have hjl:j < ns.length:=by omega
            rw [List.getElem_append_left hjl] at hjp hd
            rcases Nat.lt_or_ge j i with z | z
            · exact List.mem_append_left _ (hc j hjl z hjp d hd)
            · have:j=i:=by omega
              subst this
              by_cases hdn:d∈ns
              · exact List.mem_append_left _ hdn
              · exact List.mem_append_right _ (List.mem_filter.mpr ⟨(al0 _ _).mpr hd,by simp [hdn]⟩)
        · rw [if_neg hp]
          refine ⟨_,i+1,rfl,rfl,hlt,hn,h0,hr,?_⟩
          intro j hj hji hjp d hd
          rcases Nat.lt_or_ge j i with z | z
          · exact hc j hj z hjp d hd
          · have:j=i:=by omega
            subst this
            exact absurd hjp hp
    · refine .inl ⟨[S,.val (.int a),.own none (ns.map D.int),.val (.int (i:Nat))],?_,ns,_,rfl,List.ne_nil_of_mem h0,fun x=>⟨hr x,amx h0 fun y hy hp d hd => ?_⟩⟩
      · have:¬(i:Int) < (ns.length:Int):=by omega
        rcases hS with rfl | rfl <;> simp [ni,this]
      · obtain ⟨j,hj,rfl⟩:=List.mem_iff_getElem.mp hy
        exact hc j hj (by omega) hp d hd
end My
namespace My
open PySem L2 Mn Dn
open Classical in
noncomputable def caught (rooms:List (List Int)) (a:Int):Bool:=decide (∀ x,Rch rooms a x→0≤x)
theorem gk (rooms:List (List Int)) (a:Int):caught rooms a=true↔∀ x,Rch rooms a x→0≤x:=by
  unfold caught
  exact @decide_eq_true_iff _ (Classical.propDecidable _)
noncomputable def upto (n:Nat):List Int:=(List.range n).map fun i=>((i:Nat):Int)
theorem xx (n:Nat):jj 0 n=(upto n).map D.int:=by
  unfold jj upto
  rw [List.map_map]
  apply List.map_congr_left
  intro i _
  simp
theorem ji {n:Nat} {x:Int} (h:x∈upto n):0≤x∧x < (n:Int):=by
  obtain ⟨i,hi,rfl⟩:=List.mem_map.mp h
  have:=List.mem_range.mp hi
  omega
noncomputable def gf (rooms:List (List Int)):List Int:=(upto rooms.length).filter (caught rooms)
theorem ae6 {rooms:List (List Int)} (h:Hs rooms):(rooms.length:Int).natAbs < 4611686018427387904:=by have:=h.most; omega
theorem aoh {rooms:List (List Int)} (h:Hs rooms):u6 [.int (rooms.length:Int)]=some (jj 0 rooms.length):=by
  rw [aky,if_pos (ae6 h),Int.toNat_natCast]
end My
namespace My
open PySem L2 Mn Dn
noncomputable def keepI (rooms:List (List Int)) (S:List Int):List Int:=S.filter fun x=>(dr rooms x).all fun d=>decide (d∈S)
theorem atv {rooms:List (List Int)} (h:Hs rooms) (S:List Int) {x:Int} (h0:0≤x) (h1:x < (rooms.length:Int)) :
    aia [.val (.int x),.val (.lst (S.map D.int)),.val (hD rooms)]=some (.ok ((dr rooms x).all fun d=>decide (d∈S)),[.val (.int x),.val (.lst (S.map D.int)),.val (hD rooms)]):=by
  have er:=aea h0 h1
  obtain ⟨k1,k2,k3⟩:=h.dr h0 h1
  have ef:compD (cz 0) (ret true) ak6 ((dr rooms x).map D.int) [] [.emp,.val (.lst (S.map D.int))]=some (.ok ((dr rooms x).map fun d=>.bl (decide (d∈S))),acj .emp ((dr rooms x).map D.int)::[.val (.lst (S.map D.int))]):=by
    rw [adi (f:=fun d=>match d with | .int k=>.bl (decide (k∈S)) | _=>.non)]
    · simp
    · intro d hd
      obtain ⟨k,_,rfl⟩:=List.mem_map.mp hd
      simp [ak6,ad1]
  have hc:(dr rooms x).length≤capS:=b8 (by omega)
  have hb:wj ((dr rooms x).map fun d=>D.bl (decide (d∈S)))=some ((dr rooms x).map fun d=>decide (d∈S)):=ala _ _
  simp [aia,hD,er,ef,hc,hb,Function.comp_def]
theorem an3 {rooms:List (List Int)} (h:Hs rooms) (S:List Int) (hS:∀ x∈S,0≤x∧x < (rooms.length:Int)) :
    compD (cz 0) aia ak5 (S.map D.int) [] [.emp,.val (.lst (S.map D.int)),.val (hD rooms)]=some (.ok ((keepI rooms S).map D.int),acj .emp (S.map D.int)::[.val (.lst (S.map D.int)),.val (hD rooms)]):=by
  rw [uc (p:=fun d=>match d with | .int x=>(dr rooms x).all fun d=>decide (d∈S) | _=>false) (f:=id)]
  · simp only [keepI,List.filter_map,Function.comp_def,List.map_id,List.nil_append]
  · intro d hd
    obtain ⟨k,hk,rfl⟩:=List.mem_map.mp hd
    exact atv h S (hS k hk).1 (hS k hk).2
  · intro d hd _
    simp [ak5]
theorem aws {rooms:List (List Int)} (h:Hs rooms) {S:List Int} (hS:∀ x∈S,0≤x∧x < (rooms.length:Int)) (hl:S.length≤10) (o:Sl) :
    ag6 [.val (hD rooms),.own none (S.map D.int),o]=some (.nx,[.val (hD rooms),.own none ((keepI rooms S).map D.int),.val (.int (S.length:Nat))]):=by
  have e:=an3 h S hS
  have hc:(keepI rooms S).length≤capS:=b8 (Nat.le_trans (List.length_filter_le _ _) (by omega))
  generalize keepI rooms S=T at e hc
  simp only [hD] at e ⊢
  simp [ag6,e,hc]
theorem ahm {rooms:List (List Int)} {x d y:Int} (h0:0≤x) (hd:d∈dr rooms x) (hy:Rch rooms d y):Rch rooms x y:=by
  induction hy with
  | base=>exact .step .base h0 hd
  | step r h1 hd1 ih=>exact .step ih h1 hd1
theorem atu {rooms:List (List Int)} (h:Hs rooms):ajk [.val (hD rooms)]=some (.ok (.v (.tup ((gf rooms).map D.int))),[.val (hD rooms)]):=by
  have hm:=h.most
  have ul:(upto rooms.length).length=rooms.length:=by simp [upto]
  have e0:((upto rooms.length).filter fun _=>true)=upto rooms.length:=List.filter_eq_self.mpr fun _ _=>rfl
  have loop:=oh (c:=ag9) (g:=ag6)
    (fun k ρ=>∃ (p:Int→Bool) (m:Nat),ρ=[.val (hD rooms),.own none (((upto rooms.length).filter p).map D.int),.val (.int (m:Nat))]∧k=m∧((upto rooms.length).filter p).length≤m∧(m=((upto rooms.length).filter p).length→keepI rooms ((upto rooms.length).filter p)=(upto rooms.length).filter p)∧∀ x∈gf rooms,p x=true)
    (fun ρ=>∃ o,ρ=[.val (hD rooms),.own none ((gf rooms).map D.int),o]) ?_ fuel (rooms.length+1) [.val (hD rooms),.own none (((upto rooms.length).filter fun _=>true).map D.int),.val (.int ((rooms.length+1:Nat):Int))] (Nat.lt_trans (show rooms.length+1 < 100000 by omega) aat)
    ⟨fun _=>true,rooms.length+1,rfl,rfl,by rw [e0,ul]; omega,fun z=>by rw [e0,ul] at z; omega,fun _ _=>rfl⟩
  · obtain ⟨ρ',e,o,rfl⟩:=loop
    rw [e0] at e
    have hb:u6 [.int (rooms.length:Int)]=some (jj 0 rooms.length):=aoh h
    have hb':rooms.length < 1000000:=by omega
    have hl:(hDs rooms).length=rooms.length:=by simp [hDs]
    have er:=xx rooms.length
    have hcast:((rooms.length+1:Nat):Int)=(rooms.length:Int)+1:=by omega
    rw [hcast] at e
    simp only [hD] at e ⊢
    simp [ajk,atf,hl,hb',er,ul,e]
  · rintro k ρ ⟨p,m,rfl,hkm,hle,hcl,hp⟩
    subst hkm
    have hS:∀ x∈(upto rooms.length).filter p,0≤x∧x < (rooms.length:Int):=fun x hx=>ji (List.mem_filter.mp hx).1
    have hl:((upto rooms.length).filter p).length≤10:=Nat.le_trans (List.length_filter_le _ _) (by omega)
    by_cases hlt:((upto rooms.length).filter p).length < k
    · refine .inr ⟨_,_,((upto rooms.length).filter p).length,?_,aws h hS hl (.val (.int (k:Nat))),hlt,(fun x=>((dr rooms x).all fun d=>decide (d∈(upto rooms.length).filter p))&&p x),((upto rooms.length).filter p).length,?_,rfl,?_,?_,?_⟩
      · generalize (upto rooms.length).filter p=S at hlt
        have:(S.length:Int) < (k:Int):=by omega
        simp [ag9,this]
      · unfold keepI
        rw [List.filter_filter]
      · rw [←List.filter_filter]
        exact List.length_filter_le _ _
      · rw [←List.filter_filter]
        intro z
        have:keepI rooms ((upto rooms.length).filter p)=(upto rooms.length).filter p:=List.filter_eq_self.mpr fun a ha=>by
          by_cases q:((dr rooms a).all fun d=>decide (d∈(upto rooms.length).filter p))=true
          · exact q
          · exfalso
            have:(((upto rooms.length).filter p).filter fun x=>(dr rooms x).all fun d=>decide (d∈(upto rooms.length).filter p)).length < ((upto rooms.length).filter p).length:=List.length_filter_lt_length_iff_exists.mpr ⟨a,ha,by simpa using q⟩
            omega
        show keepI rooms (keepI rooms ((upto rooms.length).filter p))=keepI rooms ((upto rooms.length).filter p)
        rw [this,this]
      · intro x hx
        rw [Bool.and_eq_true]
        refine ⟨List.all_eq_true.mpr fun d hd=>decide_eq_true ?_,hp x hx⟩
        obtain ⟨x1,x2⟩:=List.mem_filter.mp hx
        have hx0:=ji x1
        have hd0:0≤d:=(gk rooms x).mp x2 d (.step .base hx0.1 hd)
        have hd1:=((h.dr hx0.1 hx0.2).2.2 d hd).2
        have du:d∈upto rooms.length:=by
          unfold upto
          exact List.mem_map.mpr ⟨d.toNat,List.mem_range.mpr (by omega),by omega⟩
        have dt:d∈gf rooms:=List.mem_filter.mpr ⟨du,(gk rooms d).mpr fun y hy=>(gk rooms x).mp x2 y (ahm hx0.1 hd hy)⟩
        exact List.mem_filter.mpr ⟨du,hp d dt⟩
    · refine .inl ⟨[.val (hD rooms),.own none (((upto rooms.length).filter p).map D.int),.val (.int (k:Nat))],?_,.val (.int (k:Nat)),?_⟩
      · generalize (upto rooms.length).filter p=S at hlt
        have:¬(S.length:Int) < (k:Int):=by omega
        simp [ag9,this]
      · have hk:=hcl (by omega)
        have:(upto rooms.length).filter p=gf rooms:=by
          unfold gf
          refine List.filter_congr fun x hx => ?_
          by_cases c:caught rooms x=true
          · rw [c]
            exact hp x (List.mem_filter.mpr ⟨hx,c⟩)
          · have:p x=false:=by
              cases q:p x with
              | false=>rfl
              | true =>
                exfalso
                refine c ((gk rooms x).mpr fun y hy => ?_)
                have:y∈(upto rooms.length).filter p:=by
                  induction hy with
                  | base=>exact List.mem_filter.mpr ⟨hx,q⟩
                  | step r h0 hd ih =>
                    rw [←hk] at ih
                    have:=List.all_eq_true.mp (List.mem_filter.mp ih).2 _ hd
                    simpa using this
                exact (hS y this).1
            rw [this]
            simpa using c
        rw [this]
end My
namespace My
open PySem L2 Mn Dn
theorem HouseOk.hs {m w:Int} {rooms:List (List Int)} (h:HouseOk m w rooms) (hm:m≤10) (hw:w≤6):Hs rooms :=
  ⟨h.one,by have:=h.most; omega,fun r hr=>by obtain ⟨a,b,c⟩:=h.room r hr; exact ⟨a,by omega,c⟩⟩
theorem aoe {n d:Nat} {k:Int} (h0:0≤k):HT.sIx n d (some k)=min k.toNat n:=by
  show (if k < 0 then (k+(n:Int)).toNat else min k.toNat n)=_
  rw [if_neg (by omega)]
theorem azc {ns:List Int} {k:Int} (h0:0≤k) (h1:k < (ns.length:Int)):cutD (ns.map D.int) none (some k)=(ns.take k.toNat).map D.int:=by
  unfold cutD
  rw [aoe h0,List.length_map,List.map_take]
  have:HT.sIx ns.length 0 none=0:=rfl
  rw [this,Nat.min_eq_left (by omega),Nat.sub_zero,List.drop_zero]
theorem asn {ns:List Int} {k:Int} (h0:0≤k) (h1:k≤(ns.length:Int)):cutD (ns.map D.int) (some k) none=(ns.drop k.toNat).map D.int:=by
  unfold cutD
  rw [aoe h0,List.length_map,List.map_drop]
  have:HT.sIx ns.length ns.length none=ns.length:=rfl
  rw [this,Nat.min_eq_left (by omega)]
  exact List.take_of_length_le (by simp)
noncomputable def bend (r:List Int) (k:Nat) (x:Int):List Int:=r.take k++[x]++r.drop (k+1)
theorem aq1 (rooms:List (List Int)) (j:Nat) (r:List Int):(hDs rooms).set j (.tup (r.map D.int))=hDs (rooms.set j r):=by
  simp [hDs,List.map_set]
theorem Hs.set {rooms:List (List Int)} (h:Hs rooms) (j:Nat) {r:List Int} (hr:1≤r.length∧r.length≤6∧∀ x∈r,-3≤x∧x < (rooms.length:Int)):Hs (rooms.set j r) :=
  ⟨by rw [List.length_set]; exact h.one,by rw [List.length_set]; exact h.most,fun q hq=>by
    rw [List.length_set]
    rcases List.mem_or_eq_of_mem_set hq with z | rfl
    · exact h.room q z
    · exact hr⟩
noncomputable def Opn (rooms:List (List Int)) (a:Int):Prop:=∃ x,Rch rooms a x∧x < 0
theorem ak7 {rooms:List (List Int)} {k:Int} (h0:0≤k) (h1:k < (rooms.length:Int)) (r:List Int):dr (rooms.set k.toNat r) k=r:=by
  have:k.toNat < rooms.length:=by omega
  simp [dr,this]
theorem apt {rooms:List (List Int)} {k y:Int} (h0:0≤k) (hy:0≤y) (hne:y≠k) (r:List Int):dr (rooms.set k.toNat r) y=dr rooms y:=by
  have:k.toNat≠y.toNat:=by omega
  simp [dr,List.getElem?_set,this]
theorem at3 {rooms:List (List Int)} {k a y:Int} (h0:0≤k) (r:List Int) (h:Rch rooms a y):Rch (rooms.set k.toNat r) a y∨Rch rooms k y:=by
  induction h with
  | base=>exact .inl .base
  | step p hp hd ih =>
    rename_i x d
    rcases ih with ih | ih
    · by_cases e:x=k
      · subst e
        exact .inr (.step .base hp hd)
      · exact .inl (.step ih hp (by rw [apt h0 hp e]; exact hd))
    · exact .inr (.step ih hp hd)
theorem aop {rooms:List (List Int)} (h:Hs rooms) {W:Nat} (hW:∀ r∈rooms,r.length≤W) (P:Int×Int) {A B o:Sl} {k:Int} (h0:0≤k) (h1:k < (rooms.length:Int)) :
    ∃ rooms' P' o',l1__law_open [.own (some 0) (pen P),A,B,.own none (hDs rooms),.val (.int k),o]=some (.nx,[.own (some 0) (pen P'),A,B,.own none (hDs rooms'),.val (.int k),o'])∧Hs rooms'∧(∀ r∈rooms',r.length≤W)∧rooms'.length=rooms.length∧Opn rooms' k∧∀ a,Opn rooms a→Opn rooms' a:=by
  obtain ⟨ns,e,hne,hm⟩:=aiq h (S:=.own (some 0) (hDs rooms)) (.inr rfl) ⟨h0,h1⟩
  have em:=asd hne
  by_cases z:0≤minI ns
  · have hcaught:∀ x,Rch rooms k x→0≤x:=fun x hx=>(alz hne).mp z x ((hm x).mpr hx)
    obtain ⟨a1,a2,a3⟩:=h.dr h0 h1
    have er:=aea h0 h1
    have aw:=hW (dr rooms k) (by
      have hk:k.toNat < rooms.length:=by omega
      unfold dr
      rw [List.getD_eq_getElem?_getD,List.getElem?_eq_getElem hk]
      exact List.getElem_mem hk)
    generalize hrow:dr rooms k=r at a1 a2 a3 er aw
    obtain ⟨r1,P1,e1,r1a,r1b⟩:=qw P r.length (by omega) (by omega)
    obtain ⟨r2,P2,e2,r2a,r2b⟩:=qw P1 3 (by decide) (by decide)
    have c1:=azc (ns:=r) r1a r1b
    have c2:=asn (ns:=r) (k:=r1+1) (by omega) (by omega)
    have hk:(r1+1).toNat=r1.toNat+1:=by omega
    rw [hk] at c2
    have ix:ixN (hDs rooms).length k=some k.toNat:=by
      have hl:(hDs rooms).length=rooms.length:=by simp [hDs]
      rw [hl]
      unfold ixN
      simp [h0,h1]
    have k1:(r.take r1.toNat).length≤6:=by rw [List.length_take]; omega
    have k2:(r.drop (r1.toNat+1)).length≤6:=by rw [List.length_drop]; omega
    have k3:(r.take r1.toNat).length+1≤capS:=b8 (by omega)
    have k4:(r.take r1.toNat).length+1+(r.drop (r1.toNat+1)).length≤capS:=b8 (by omega)
    have hin:(-1 - r2)∈bend r r1.toNat (-1 - r2):=by simp [bend]
    refine ⟨rooms.set k.toNat (bend r r1.toNat (-1 - r2)),P2,.val (.int r1),?_,h.set _ ?_,fun q hq => ?_,List.length_set,⟨-1 - r2,.step .base h0 (by rw [ak7 h0 h1]; exact hin),by omega⟩,fun a ⟨x,hx,hx0⟩ => ?_⟩
    · rw [←aq1]
      unfold bend
      generalize r.take r1.toNat=ta at c1 k3 k4
      generalize r.drop (r1.toNat+1)=td at c2 k4
      simp [l1__law_open,e,em,z,er,e1,e2,c1,c2,k3,k4,ix]
    · refine ⟨by simp [bend]; omega,by simp [bend]; omega,fun x hx => ?_⟩
      have:=h.one
      unfold bend at hx
      rcases List.mem_append.mp hx with hx | hx
      · rcases List.mem_append.mp hx with hx | hx
        · exact a3 x (List.mem_of_mem_take hx)
        · rw [List.mem_singleton] at hx
          omega
      · exact a3 x (List.mem_of_mem_drop hx)
    · rcases List.mem_or_eq_of_mem_set hq with z | rfl
      · exact hW q z
      · simp [bend]
        omega
    · rcases at3 h0 (bend r r1.toNat (-1 - r2)) hx with q | q
      · exact ⟨x,q,hx0⟩
      · have:=hcaught x q
        omega
  · refine ⟨rooms,P,o,by simp [l1__law_open,e,em,z],h,hW,rfl,?_,fun _ x=>x⟩
    have:¬ ∀ y∈ns,0≤y:=fun w=>z ((alz hne).mpr w)
    apply Classical.byContradiction
    intro w
    refine this fun y hy => ?_
    rcases Int.lt_or_le y 0 with q | q
    · exact absurd ⟨y,(hm y).mp hy,q⟩ w
    · exact q
theorem alj {rooms:List (List Int)} (h:∀ a,0≤a→a < (rooms.length:Int)→Opn rooms a):gf rooms=[]:=by
  unfold gf
  refine List.filter_eq_nil_iff.mpr fun a ha hc => ?_
  obtain ⟨x,hx,hx0⟩:=h a (ji ha).1 (ji ha).2
  have:=(gk rooms a).mp hc x hx
  omega
theorem open_spec (P:Int×Int) (m w:Int) (m1:1≤m) (m2:m≤10) (w1:1≤w) (w2:w≤6):∃ rooms P',f__law_open [.own (some 0) (pen P),.val (.int m),.val (.int w)]=some (.ok (.v (hD rooms)),[.own (some 0) (pen P'),.val (.int m),.val (.int w)])∧Hs rooms∧gf rooms=[]∧(rooms.length:Int)≤m∧∀ r∈rooms,r.length≤w.toNat:=by
  obtain ⟨rooms,P1,e1,ho⟩:=am9 P m w m1 m2 w1 w2
  have h:=ho.hs m2 w2
  have loop:=aau (b:=cz 4) (g:=l1__law_open) (fun i ρ=>∃ rs P o1 o2,ρ=[.own (some 0) (pen P),.val (.int m),.val (.int w),.own none (hDs rs),o1,o2]∧Hs rs∧(∀ r∈rs,r.length≤w.toNat)∧rs.length=rooms.length∧∀ a:Int,0≤a→a < (i:Int)→Opn rs a)
    (l:=jj 0 rooms.length) (ρ:=[.own (some 0) (pen P1),.val (.int m),.val (.int w),.own none (hDs rooms),.emp,.emp]) 0 ⟨rooms,P1,.emp,.emp,rfl,h,fun r hr=>by have:=(ho.room r hr).2.1; omega,rfl,fun a x y=>by omega⟩ ?_
  · obtain ⟨ρ',e2,rs,P2,o1,o2,rfl,hs,hw,hl,hop⟩:=loop
    refine ⟨rs,P2,?_,hs,alj fun a x y=>hop a x (by simp [jj]; omega),by rw [hl]; exact ho.most,hw⟩
    have hl0:(hDs rooms).length=rooms.length:=by simp [hDs]
    have hb':rooms.length < 4611686018427387904:=by simpa using ae6 h
    simp [f__law_open,afx,e1,hD,hl0,hb',e2]
  · rintro i d ρ hd ⟨rs,P3,o1,o2,rfl,hs,hw,hl,hop⟩
    rw [xx,List.getElem?_map] at hd
    obtain ⟨k,hk,rfl⟩:=Option.map_eq_some_iff.mp hd
    have hk':=ji (List.mem_of_getElem? hk)
    have hki:k=(i:Int):=by
      unfold upto at hk
      rw [List.getElem?_map] at hk
      obtain ⟨j,hj,rfl⟩:=Option.map_eq_some_iff.mp hk
      have hlt:i < rooms.length:=by
        have:=(List.getElem?_eq_some_iff.mp hj).1
        simpa using this
      rw [List.getElem?_range hlt] at hj
      cases hj
      rfl
    obtain ⟨rs',P4,o',e3,hs',hw',hl',h5,h6⟩:=aop hs hw P3 (A:=.val (.int m)) (B:=.val (.int w)) (o:=o2) hk'.1 (by rw [hl]; exact hk'.2)
    refine ⟨[.own (some 0) (pen P3),.val (.int m),.val (.int w),.own none (hDs rs),.val (.int k),o2],_,rfl,.inl e3,rs',P4,_,_,rfl,hs',hw',hl'.trans hl,fun a x y => ?_⟩
    by_cases q:a=k
    · rw [q]; exact h5
    · exact h6 a (hop a x (by omega))
end My
namespace My
open PySem L2 Mn Dn
theorem nu (rooms:List (List Int)):(hDs rooms).length=rooms.length:=by simp [hDs]
theorem afu {rooms:List (List Int)} {i:Nat} {d:D} (h:(hDs rooms)[i]? = some d):∃ r,rooms[i]? = some r∧d=.tup (r.map D.int):=by
  unfold hDs at h
  rw [List.getElem?_map] at h
  obtain ⟨r,e,rfl⟩:=Option.map_eq_some_iff.mp h
  exact ⟨r,e,rfl⟩
structure Arr (rooms:List (List Int)) (as:List Int):Prop where
  len:as.length=rooms.length
  ok:∀ (i:Nat) (a:Int) (r:List Int),as[i]? = some a→rooms[i]? = some r→0≤a∧a < (r.length:Int)
noncomputable def ar (as:List Int) (x:Int):Int:=as.getD x.toNat 0
theorem Arr.at {rooms:List (List Int)} {as:List Int} (h:Arr rooms as) {x:Int} (h0:0≤x) (h1:x < (rooms.length:Int)):0≤ar as x∧ar as x < ((dr rooms x).length:Int):=by
  have hk:x.toNat < rooms.length:=by omega
  have hk2:x.toNat < as.length:=by rw [h.len]; exact hk
  have:=h.ok x.toNat as[x.toNat] rooms[x.toNat] (List.getElem?_eq_getElem hk2) (List.getElem?_eq_getElem hk)
  simpa [ar,dr,hk,hk2] using this
theorem ald (P:Int×Int) {rooms:List (List Int)} (h:Hs rooms):∃ as P',f__law_arrows [.own (some 0) (pen P),.val (hD rooms)]=some (.ok (.v (.tup (as.map D.int))),[.own (some 0) (pen P'),.val (hD rooms)])∧Arr rooms as:=by
  have comp:=uo (b:=cz 0) (mc:=ret true) (me:=z9) (fun j ys ρ=>∃ ns P o,ρ=[o,.own (some 1) (pen P)]∧ys=ns.map D.int∧ns.length=j∧∀ (i:Nat) (a:Int) (r:List Int),ns[i]? = some a→rooms[i]? = some r→0≤a∧a < (r.length:Int))
    (l:=hDs rooms) (ys:=[]) (ρ:=[.emp,.own (some 1) (pen P)]) 0 ⟨[],P,.emp,rfl,rfl,rfl,by simp⟩ ?_
  · obtain ⟨ys,ρ',e6,ns,P6,o,rfl,rfl,hn,hx⟩:=comp
    rw [nu,Nat.zero_add] at hn
    have hc:ns.length≤capS:=b8 (by have:=h.most; omega)
    exact ⟨ns,P6,by simp [f__law_arrows,ade,hD,e6,hc],hn,hx⟩
  · rintro j d ys ρ hd ⟨ns,P6,o,rfl,rfl,hn,hx⟩
    obtain ⟨r,hr,rfl⟩:=afu hd
    obtain ⟨k1,k2,k3⟩:=h.room r (List.mem_of_getElem? hr)
    obtain ⟨r7,P7,e7,r7a,r7b⟩:=qw P6 (r.length:Int) (by omega) (by omega)
    refine ⟨_,_,true,rfl,rfl,.inr ⟨rfl,.int r7,[.val (.tup (r.map D.int)),.own (some 1) (pen P7)],by simp [z9,e7],ns++[r7],P7,_,rfl,by simp,by simp [hn],fun i a q ha hq => ?_⟩⟩
    rcases Nat.lt_or_ge i ns.length with z | z
    · rw [List.getElem?_append_left z] at ha
      exact hx i a q ha hq
    · have hi:i=ns.length:=by
        have:=(List.getElem?_eq_some_iff.mp ha).1
        simp at this
        omega
      subst hi
      simp at ha
      subst ha
      have:ns.length=j:=by omega
      rw [this,hr] at hq
      cases hq
      exact ⟨r7a,r7b⟩
noncomputable def gone (rooms:List (List Int)) (as:List Int) (k:Int):List Int:=as.set k.toNat ((ar as k+1) % ((dr rooms k).length:Int))
noncomputable def led (rooms:List (List Int)) (as:List Int) (k:Int):Int:=(dr rooms k).getD (ar as k).toNat 0
section
variable {rooms:List (List Int)} (h:Hs rooms) {as:List Int} (ha:Arr rooms as) {k:Int} (h0:0≤k) (h1:k < (rooms.length:Int))
include h ha h0 h1
theorem ae0:atI (as.map D.int) k=some (.int (ar as k)):=xf h0 (by rw [ha.len]; exact h1)
theorem awd:atI ((dr rooms k).map D.int) (ar as k)=some (.int (led rooms as k)):=xf (ha.at h0 h1).1 (ha.at h0 h1).2
theorem adf (x:Int):fMod x ((dr rooms k).length:Int)=some (x % ((dr rooms k).length:Int)):=by
  have:=(h.dr h0 h1).1
  unfold fMod
  rw [if_pos (by omega)]
theorem au9:yo [.val (hD rooms),.val (.tup (as.map D.int)),.val (.int k)]=some (.ok (.v (.tup [.tup ((gone rooms as k).map D.int),.int (led rooms as k)])),[.val (hD rooms),.val (.tup (as.map D.int)),.val (.int k)]):=by
  have e1:=aea h0 h1
  have e2:=ae0 h ha h0 h1
  have e3:=awd h ha h0 h1
  have e4:=adf h ha h0 h1 (ar as k+1)
  have e5:ixN as.length k=some k.toNat:=ack h0 (by rw [ha.len]; exact h1)
  have e6:as.length≤capS:=b8 (by have:=h.most; rw [ha.len]; omega)
  simp [yo,afy,hD,e1,e2,e3,e4,e5,e6,gone]
end
section
variable {rooms:List (List Int)} (h:Hs rooms) {as:List Int} (ha:Arr rooms as) {k:Int} (h0:0≤k) (h1:k < (rooms.length:Int))
include h ha h0 h1
theorem ac9:Arr rooms (gone rooms as k):=by
  have hd:=(h.dr h0 h1).1
  refine ⟨by unfold gone; rw [List.length_set]; exact ha.len,fun i a r g1 g2 => ?_⟩
  unfold gone at g1
  rw [List.getElem?_set] at g1
  split at g1
  · rename_i hi
    subst hi
    split at g1
    · cases g1
      have:dr rooms k=r:=by simp [dr,g2]
      rw [this] at hd ⊢
      exact ⟨Int.emod_nonneg _ (by omega),Int.emod_lt_of_pos _ (by omega)⟩
    · cases g1
  · exact ha.ok i a r g1 g2
end
theorem ata {rooms:List (List Int)} (h:Hs rooms) {as:List Int} (ha:Arr rooms as) {k:Int} (h0:0≤k) (h1:k < (rooms.length:Int)) : -3≤led rooms as k∧led rooms as k < (rooms.length:Int):=by
  obtain ⟨a1,a2⟩:=ha.at h0 h1
  have hk:(ar as k).toNat < (dr rooms k).length:=by omega
  have:led rooms as k∈dr rooms k:=by
    unfold led
    simp [hk]
  exact (h.dr h0 h1).2.2 _ this
end My
namespace My
open PySem L2 Mn Dn
theorem ajd {rooms:List (List Int)} (h:Hs rooms) {as:List Int} (ha:Arr rooms as):ym [.val (hD rooms),.val (.tup (as.map D.int))]=some (.ok (.v (.bl true)),[.val (hD rooms),.val (.tup (as.map D.int))]):=by
  have hl:=ha.len
  have hle:(as.map D.int).length≤(hDs rooms).length:=by rw [nu,List.length_map]; omega
  have comp:=uo (b:=bTup 2 (j6 (cz 0) (j6 (cz 1) bNil))) (mc:=ret true) (me:=abn) (fun j ys ρ=>∃ o1 o2,ρ=[o1,o2]∧ys=(List.replicate j true).map D.bl)
    (l:=aan (as.map D.int) (hDs rooms)) (ys:=[]) (ρ:=[.emp,.emp]) 0 ⟨.emp,.emp,rfl,rfl⟩ ?_
  · obtain ⟨ys,ρ',e6,o1,o2,rfl,rfl⟩:=comp
    rw [acs hle,List.length_map,Nat.zero_add] at e6
    have hc:as.length≤capS:=b8 (by have:=h.most; omega)
    have e1:fj [.val (.tup (as.map D.int)),.val (.int (rooms.length:Int)),.val (.int (rooms.length:Int))]=some (.ok (.v (.bl true)),[.val (.tup (as.map D.int)),.val (.int (rooms.length:Int)),.val (.int (rooms.length:Int))]):=by
      have:(as.length:Int)=rooms.length:=by omega
      simp [fj,u5,isTy,this]
    have hle2:as.length≤(hDs rooms).length:=by simpa using hle
    have hl3:=nu rooms
    have hl4:rooms.length≤capS:=hl▸hc
    have hbl:wj (List.replicate rooms.length (D.bl true))=some (List.replicate rooms.length true):=by
      have:=ab1 (List.replicate rooms.length true)
      rwa [List.map_replicate] at this
    simp only [hD]
    simp [ym,afw,hl3,e1,e6,hl,hl4,hbl]
  · rintro j d ys ρ hd ⟨o1,o2,rfl,rfl⟩
    obtain ⟨d1,d2,g1,g2,rfl⟩:=aa6 hd
    obtain ⟨r,hr,rfl⟩:=afu g2
    rw [List.getElem?_map] at g1
    obtain ⟨a,ga,rfl⟩:=Option.map_eq_some_iff.mp g1
    obtain ⟨b0,b1⟩:=ha.ok j a r ga hr
    have b2:a≤(r.length:Int) - 1:=by omega
    refine ⟨[.val (.int a),.val (.tup (r.map D.int))],_,true,by simp,rfl,.inr ⟨rfl,.bl true,[.val (.int a),.val (.tup (r.map D.int))],by simp [abn,ag5,b0,b2],_,_,rfl,?_⟩⟩
    rw [List.replicate_succ',List.map_append]
    rfl
end My
namespace My
open PySem L2 Mn Dn
noncomputable def wd (rooms:List (List Int)) (k:Int):Int:=((dr rooms k).length:Int)
noncomputable def ql (rooms:List (List Int)) (as:List Int) (k:Int):Int:=(dr rooms k).getD ((ar as k - 1) % wd rooms k).toNat 0
theorem aqf {r:List Int} {a:Int} (h0:0≤a) (h1:a < (r.length:Int)):atI (r.map D.int) (a - 1)=some (.int (r.getD ((a - 1) % (r.length:Int)).toNat 0)):=by
  by_cases z:1≤a
  · rw [Int.emod_eq_of_lt (by omega) (by omega)]
    exact xf (by omega) (by omega)
  · have:a=0:=by omega
    subst this
    have e:((0:Int) - 1) % (r.length:Int)=(r.length:Int) - 1:=by
      have:=Int.add_emod_right ((0:Int) - 1) (r.length:Int)
      rw [←this,Int.emod_eq_of_lt (by omega) (by omega)]
      omega
    rw [e]
    have hn:((r.length:Int) - 1).toNat=r.length - 1:=by omega
    rw [hn]
    have hl:r.length - 1 < r.length:=by omega
    have h3:ixN (r.map D.int).length (0 - 1)=some (r.length - 1):=by
      unfold ixN
      rw [List.length_map]
      have a1:¬(0≤(0:Int) - 1):=by omega
      have a2 : -(r.length:Int)≤(0:Int) - 1:=by omega
      simp [a2]
      omega
    unfold atI
    rw [h3]
    simp [List.getElem?_eq_getElem hl]
noncomputable def lasts (rooms:List (List Int)) (as:List Int):List Int:=(List.range rooms.length).map fun (i:Nat)=>ql rooms as (i:Int)
theorem b7 (rooms:List (List Int)) (as:List Int):(lasts rooms as).length=rooms.length:=by unfold lasts; rw [List.length_map,List.length_range]
theorem agw (rooms:List (List Int)) (as:List Int) (j:Nat):((List.range (j+1)).map fun (i:Nat)=>ql rooms as (i:Int))=((List.range j).map fun (i:Nat)=>ql rooms as (i:Int))++[ql rooms as (j:Int)]:=by
  rw [List.range_succ,List.map_append]
  rfl
section
variable {rooms:List (List Int)} (h:Hs rooms) {as:List Int} (ha:Arr rooms as)
include h ha
theorem aej:rn [.val (hD rooms),.val (.tup (as.map D.int))]=some (.ok (.v (.tup ((lasts rooms as).map D.int))),[.val (hD rooms),.val (.tup (as.map D.int))]):=by
  have hl:=ha.len
  have hm:=h.most
  have hle:(as.map D.int).length≤(hDs rooms).length:=by rw [nu,List.length_map]; omega
  have comp:=uo (b:=bTup 2 (j6 (cz 0) (j6 (cz 1) bNil))) (mc:=ret true) (me:=abm) (fun j ys ρ=>∃ (o1 o2:Sl),ρ=[o1,o2]∧ys=((List.range j).map fun (i:Nat)=>ql rooms as (i:Int)).map D.int)
    (l:=aan (as.map D.int) (hDs rooms)) (ys:=[]) (ρ:=[.emp,.emp]) 0 ⟨.emp,.emp,rfl,rfl⟩ ?_
  · obtain ⟨ys,ρ',e6,o1,o2,rfl,rfl⟩:=comp
    rw [acs hle,List.length_map,Nat.zero_add,hl] at e6
    have hc:((lasts rooms as).map D.int).length≤capS:=by rw [List.length_map,b7]; exact b8 (by omega)
    have hle2:as.length≤(hDs rooms).length:=by simpa using hle
    change compD _ _ _ _ _ _=some (.ok ((lasts rooms as).map D.int),_) at e6
    generalize (lasts rooms as).map D.int=ld at *
    simp only [hD]
    simp [rn,afv,hle2,e6,hc]
  · rintro j d ys ρ hd ⟨o1,o2,rfl,rfl⟩
    obtain ⟨d1,d2,g1,g2,rfl⟩:=aa6 hd
    obtain ⟨r,hr,rfl⟩:=afu g2
    rw [List.getElem?_map] at g1
    obtain ⟨a,ea,rfl⟩:=Option.map_eq_some_iff.mp g1
    obtain ⟨b0,b1⟩:=ha.ok j a r ea hr
    have er:dr rooms (j:Int)=r:=by unfold dr; rw [List.getD_eq_getElem?_getD,Int.toNat_natCast,hr]; rfl
    have e3:ar as (j:Int)=a:=by unfold ar; rw [List.getD_eq_getElem?_getD,Int.toNat_natCast,ea]; rfl
    have e4:=aqf b0 b1
    have e5:ql rooms as ((0+j:Nat):Int)=r.getD ((a - 1) % (r.length:Int)).toNat 0:=by rw [Nat.zero_add]; unfold ql wd; rw [er,e3]
    refine ⟨[.val (.int a),.val (.tup (r.map D.int))],_,true,by simp,rfl,.inr ⟨rfl,.int (r.getD ((a - 1) % (r.length:Int)).toNat 0),[.val (.int a),.val (.tup (r.map D.int))],by simp [abm,e4],_,_,rfl,?_⟩⟩
    rw [agw,List.map_append,e5]
    rfl
end
end My
namespace My
open PySem L2 Mn Dn
theorem al9 (neg:Bool) (a b:List Int):gEq neg (.lst (a.map D.int)) (.lst (b.map D.int))=some (.v (.bl (if neg then !decide (a=b) else decide (a=b)))):=by
  have h1:okD 30 (.lst (a.map D.int))=true:=ac5 29 a
  have h2:okD 30 (.lst (b.map D.int))=true:=ac5 29 b
  have h3:eqD (.lst (a.map D.int)) (.lst (b.map D.int))=decide (a=b):=by
    rw [←ah6]
    exact ak4 _ _
  simp only [gEq,h1,h2,h3]
  rfl
end My
namespace My
open PySem L2 Mn Dn
noncomputable def lp (L:List Int):List (List Int):=L.map fun y=>[y]
theorem aa4 (L:List Int):(lp L).length=L.length:=List.length_map ..
theorem ak8 {L:List Int} {x:Int} (h0:0≤x) (h1:x < (L.length:Int)):dr (lp L) x=[L.getD x.toNat 0]:=by
  have hk:x.toNat < L.length:=by omega
  simp [dr,lp,hk]
structure Ways (L:List Int):Prop where
  one:1≤L.length
  most:L.length≤10
  ok:∀ y∈L,-3≤y∧y < (L.length:Int)
theorem Ways.hs {L:List Int} (w:Ways L):Hs (lp L):=⟨by rw [aa4]; exact w.one,by rw [aa4]; exact w.most,fun r hr=>by
  obtain ⟨y,hy,rfl⟩:=List.mem_map.mp hr
  rw [aa4]
  exact ⟨by simp,by simp,fun x hx=>by rw [List.mem_singleton] at hx; rw [hx]; exact w.ok _ hy⟩⟩
noncomputable def afn (L:List Int) (S:List Int):List Int:=S.filter fun x=>decide (L.getD x.toNat 0∈S)
theorem ar6 {L:List Int} (S:List Int) {x:Int} (h0:0≤x) (h1:x < (L.length:Int)) :
    vh [.val (.int x),.val (.lst (S.map D.int)),.val (.tup (L.map D.int))]=some (.ok (decide (L.getD x.toNat 0∈S)),[.val (.int x),.val (.lst (S.map D.int)),.val (.tup (L.map D.int))]):=by
  have er:=xf (ns:=L) h0 h1
  have e2:=ad1 false (L.getD x.toNat 0) S
  generalize L.getD x.toNat 0=y at *
  generalize L.map D.int=LL at *
  generalize decide (y∈S)=b at *
  generalize S.map D.int=SS at *
  simp [vh,er,e2]
theorem ana {L:List Int} (S:List Int) (hS:∀ x∈S,0≤x∧x < (L.length:Int)) :
    compD (cz 0) vh z8 (S.map D.int) [] [.emp,.val (.lst (S.map D.int)),.val (.tup (L.map D.int))]=some (.ok ((afn L S).map D.int),acj .emp (S.map D.int)::[.val (.lst (S.map D.int)),.val (.tup (L.map D.int))]):=by
  rw [uc (p:=fun d=>match d with | .int x=>decide (L.getD x.toNat 0∈S) | _=>false) (f:=id)]
  · simp only [afn,List.filter_map,Function.comp_def,List.map_id,List.nil_append]
  · intro d hd
    obtain ⟨k,hk,rfl⟩:=List.mem_map.mp hd
    exact ar6 S (hS k hk).1 (hS k hk).2
  · intro d hd _
    simp [z8]
theorem avf {L:List Int} (w:Ways L) {S:List Int} (hS:∀ x∈S,0≤x∧x < (L.length:Int)) (hl:S.length≤10) (A:D) (o:Sl) :
    vf [.val (.tup (L.map D.int)),.val A,.own none (S.map D.int),o]=some (.nx,[.val (.tup (L.map D.int)),.val A,.own none ((afn L S).map D.int),.val (.int (S.length:Nat))]):=by
  have e:=ana S hS
  have hc:(afn L S).length≤capS:=b8 (Nat.le_trans (List.length_filter_le _ _) (by omega))
  generalize afn L S=T at e hc
  generalize L.map D.int=LL at *
  simp [vf,e,hc]
theorem ar5 {L:List Int} (w:Ways L):uf [.val (.tup (L.map D.int)),.val (.lst ((upto L.length).map D.int))]=some (.ok (.fr ((gf (lp L)).map D.int)),[.val (.tup (L.map D.int)),.val (.lst ((upto L.length).map D.int))]):=by
  have hm:=w.most
  have h:=w.hs
  have tI:gf (lp L)=(upto L.length).filter (caught (lp L)):=by unfold gf; rw [aa4]
  have ul:(upto L.length).length=L.length:=by simp [upto]
  have e0:((upto L.length).filter fun _=>true)=upto L.length:=List.filter_eq_self.mpr fun _ _=>rfl
  have loop:=oh (c:=vg) (g:=vf)
    (fun k ρ=>∃ (p:Int→Bool) (m:Nat),ρ=[.val (.tup (L.map D.int)),.val (.lst ((upto L.length).map D.int)),.own none (((upto L.length).filter p).map D.int),.val (.int (m:Nat))]∧k=m∧((upto L.length).filter p).length≤m∧(m=((upto L.length).filter p).length→afn L ((upto L.length).filter p)=(upto L.length).filter p)∧∀ x∈gf (lp L),p x=true)
    (fun ρ=>∃ o,ρ=[.val (.tup (L.map D.int)),.val (.lst ((upto L.length).map D.int)),.own none ((gf (lp L)).map D.int),o]) ?_ fuel (L.length+1) [.val (.tup (L.map D.int)),.val (.lst ((upto L.length).map D.int)),.own none (((upto L.length).filter fun _=>true).map D.int),.val (.int ((L.length+1:Nat):Int))] (Nat.lt_trans (show L.length+1 < 100000 by omega) aat)
    ⟨fun _=>true,L.length+1,rfl,rfl,by rw [e0,ul]; omega,fun z=>by rw [e0,ul] at z; omega,fun _ _=>rfl⟩
  · obtain ⟨ρ',e,o,rfl⟩:=loop
    rw [e0] at e
    have hcast:((L.length+1:Nat):Int)=(L.length:Int)+1:=by omega
    rw [hcast] at e
    have ul2:((upto L.length).map D.int).length=L.length:=by rw [List.length_map,ul]
    have hc:((upto L.length).map D.int).length≤capS:=by rw [ul2]; exact b8 (by omega)
    generalize (upto L.length).map D.int=U at *
    generalize (gf (lp L)).map D.int=T at *
    generalize L.map D.int=LL at *
    simp [uf,adb,ul2,hc,e]
  · rintro k ρ ⟨p,m,rfl,hkm,hle,hcl,hp⟩
    subst hkm
    have hS:∀ x∈(upto L.length).filter p,0≤x∧x < (L.length:Int):=fun x hx=>ji (List.mem_filter.mp hx).1
    have hl:((upto L.length).filter p).length≤10:=Nat.le_trans (List.length_filter_le _ _) (by omega)
    by_cases hlt:((upto L.length).filter p).length < k
    · refine .inr ⟨_,_,((upto L.length).filter p).length,?_,avf w hS hl (.lst ((upto L.length).map D.int)) (.val (.int (k:Nat))),hlt,(fun x=>decide (L.getD x.toNat 0∈(upto L.length).filter p)&&p x),((upto L.length).filter p).length,?_,rfl,?_,?_,?_⟩
      · generalize (upto L.length).filter p=S at hlt
        have:(S.length:Int) < (k:Int):=by omega
        simp [vg,this]
      · unfold afn
        rw [List.filter_filter]
      · rw [←List.filter_filter]
        exact List.length_filter_le _ _
      · rw [←List.filter_filter]
        intro z
        have:afn L ((upto L.length).filter p)=(upto L.length).filter p:=List.filter_eq_self.mpr fun a ha=>by
          by_cases q:decide (L.getD a.toNat 0∈(upto L.length).filter p)=true
          · exact q
          · exfalso
            have:(((upto L.length).filter p).filter fun x=>decide (L.getD x.toNat 0∈(upto L.length).filter p)).length < ((upto L.length).filter p).length:=List.length_filter_lt_length_iff_exists.mpr ⟨a,ha,by simpa using q⟩
            omega
        show afn L (afn L ((upto L.length).filter p))=afn L ((upto L.length).filter p)
        rw [this,this]
      · intro x hx
        rw [Bool.and_eq_true]
        refine ⟨decide_eq_true ?_,hp x hx⟩
        have hx':=hx
        rw [tI] at hx'
        obtain ⟨x1,x2⟩:=List.mem_filter.mp hx'
        have hx0:=ji x1
        have hd:L.getD x.toNat 0∈dr (lp L) x:=by rw [ak8 hx0.1 hx0.2]; exact List.mem_singleton_self _
        generalize L.getD x.toNat 0=d at hd
        have hd0:0≤d:=(gk (lp L) x).mp x2 d (.step .base hx0.1 hd)
        have hd1:=((h.dr hx0.1 (by rw [aa4]; exact hx0.2)).2.2 d hd).2
        rw [aa4] at hd1
        have du:d∈upto L.length:=by
          unfold upto
          exact List.mem_map.mpr ⟨d.toNat,List.mem_range.mpr (by omega),by omega⟩
        have dt:d∈gf (lp L):=by
          rw [tI]
          exact List.mem_filter.mpr ⟨du,(gk (lp L) d).mpr fun y hy=>(gk (lp L) x).mp x2 y (ahm hx0.1 hd hy)⟩
        exact List.mem_filter.mpr ⟨du,hp d dt⟩
    · refine .inl ⟨[.val (.tup (L.map D.int)),.val (.lst ((upto L.length).map D.int)),.own none (((upto L.length).filter p).map D.int),.val (.int (k:Nat))],?_,.val (.int (k:Nat)),?_⟩
      · generalize (upto L.length).filter p=S at hlt
        have:¬(S.length:Int) < (k:Int):=by omega
        simp [vg,this]
      · have hk:=hcl (by omega)
        have:(upto L.length).filter p=gf (lp L):=by
          rw [tI]
          refine List.filter_congr fun x hx => ?_
          by_cases c:caught (lp L) x=true
          · rw [c]
            exact hp x (by rw [tI]; exact List.mem_filter.mpr ⟨hx,c⟩)
          · have:p x=false:=by
              cases q:p x with
              | false=>rfl
              | true =>
                exfalso
                refine c ((gk (lp L) x).mpr fun y hy => ?_)
                have:y∈(upto L.length).filter p:=by
                  induction hy with
                  | base=>exact List.mem_filter.mpr ⟨hx,q⟩
                  | step r h0 hd ih =>
                    have ih0:=hS _ ih
                    rw [←hk] at ih
                    have:=(List.mem_filter.mp ih).2
                    rw [ak8 ih0.1 ih0.2,List.mem_singleton] at hd
                    rw [hd]
                    exact of_decide_eq_true this
                exact (hS y this).1
            rw [this]
            simpa using c
        rw [this]
theorem j0 {rooms:List (List Int)} (h:Hs rooms) {as:List Int} (ha:Arr rooms as):Ways (lasts rooms as):=⟨by rw [b7]; exact h.one,by rw [b7]; exact h.most,fun y hy=>by
  rw [b7]
  unfold lasts at hy
  obtain ⟨i,hi,rfl⟩:=List.mem_map.mp hy
  have hi:=List.mem_range.mp hi
  obtain ⟨a1,a2,a3⟩:=h.dr (x:=(i:Int)) (by omega) (by omega)
  refine a3 _ ?_
  unfold ql
  have w0:0 < wd rooms (i:Int):=by unfold wd; omega
  have b0:=Int.emod_nonneg (ar as (i:Int) - 1) (show wd rooms (i:Int)≠0 by omega)
  have b1:=Int.emod_lt_of_pos (ar as (i:Int) - 1) w0
  have hk:((ar as (i:Int) - 1) % wd rooms (i:Int)).toNat < (dr rooms (i:Int)).length:=by unfold wd at *; omega
  rw [List.getD_eq_getElem?_getD,List.getElem?_eq_getElem hk]
  exact List.getElem_mem hk⟩
end My
namespace My
open PySem L2 Mn Dn
theorem ava {rooms:List (List Int)} (h:Hs rooms) {as:List Int} (ha:Arr rooms as) (w:Ways (lasts rooms as)):aaj [.val (hD rooms),.val (.tup (as.map D.int))]=some (.ok (.v (.bl (decide (gf (lp (lasts rooms as))=[])))),[.val (hD rooms),.val (.tup (as.map D.int))]):=by
  have hl:=nu rooms
  have hm:=h.most
  have hb':rooms.length < 1000000:=by omega
  have e1:=aej h ha
  have e2:=ar5 w
  rw [b7] at e2
  have er:=xx rooms.length
  have e3:gEq false (.lst ((gf (lp (lasts rooms as))).map D.int)) (.lst [])=some (.v (.bl (decide (gf (lp (lasts rooms as))=[])))):=al9 false _ []
  generalize decide (gf (lp (lasts rooms as))=[])=bb at *
  generalize (gf (lp (lasts rooms as))).map D.int=T at *
  generalize (lasts rooms as).map D.int=LL at *
  generalize (upto rooms.length).map D.int=U at *
  generalize as.map D.int=la at *
  simp only [hD] at *
  simp [aaj,agx,hl,hb',e1,er,e2,e3]
end My
namespace My
open PySem L2 Mn Dn
theorem aad:∀ (m:Nat) (l:List Int),l.Nodup→(∀ x∈l,0≤x∧x < (m:Int))→l.length≤m
  | 0,l,_,h=>by
    cases l with
    | nil=>simp
    | cons x r=>have:=h x (List.mem_cons_self ..); omega
  | m+1,l,hn,h=>by
    have h1:(l.erase (m:Int)).length≤m:=aad m _ (hn.erase _) fun x hx=>by
      rw [hn.mem_erase_iff] at hx
      have:=h x hx.2
      have:=hx.1
      omega
    have h2:l.length≤(l.erase (m:Int)).length+1:=by
      rw [List.length_erase]
      split <;> omega
    omega
theorem pig (f:Nat→Int) (n:Nat) (hf:∀ i,i≤n→0≤f i∧f i < (n:Int)):∃ i j,i < j∧j≤n∧f i=f j:=by
  apply Classical.byContradiction
  intro H
  have hn:((List.range (n+1)).map f).Nodup:=by
    rw [List.Nodup,List.pairwise_map]
    refine List.Pairwise.imp_of_mem (fun {a b} ha hb hlt e=>H ⟨a,b,hlt,?_,e⟩) List.pairwise_lt_range
    have:=List.mem_range.mp hb
    omega
  have:=aad n _ hn fun x hx=>by
    obtain ⟨i,hi,rfl⟩:=List.mem_map.mp hx
    have:=List.mem_range.mp hi
    exact hf i (by omega)
  rw [List.length_map,List.length_range] at this
  omega
theorem least {P:Nat→Prop}:∀ n,P n→∃ m,P m∧∀ i < m,¬P i:=fun n=>by
  induction n using Nat.strongRecOn with
  | _ n ih =>
    intro hn
    by_cases q:∃ i,i < n∧P i
    · obtain ⟨i,hi,hp⟩:=q
      exact ih i hi hp
    · exact ⟨n,hn,fun i hi hp=>q ⟨i,hi,hp⟩⟩
end My
namespace My
theorem afm:∀ {a b:List Int},a.Nodup→(∀ x∈a,x∈b)→a.length≤b.length
  | [],b,_,_=>Nat.zero_le _
  | x::r,b,hn,h=>by
    have hx:=h x (List.mem_cons_self ..)
    have h1:r.length≤(b.erase x).length:=afm (List.Pairwise.of_cons hn) fun y hy=>by
      have hne:y≠x:=fun e=>(List.pairwise_cons.mp hn).1 y hy e.symm
      exact (List.mem_erase_of_ne hne).mpr (h y (List.mem_cons_of_mem _ hy))
    rw [List.length_erase_of_mem hx] at h1
    have:=List.length_pos_of_mem hx
    rw [List.length_cons]
    omega
end My
namespace My
open PySem L2 Mn Dn
noncomputable def nxt (L:List Int) (p:Int):Int:=if 0≤p then L.getD p.toNat 0 else p
noncomputable def itr (L:List Int) (p:Int):Nat→Int
  | 0=>p
  | t+1=>itr L (nxt L p) t
theorem yc (L:List Int):∀ (s t:Nat) (p:Int),itr L p (s+t)=itr L (itr L p s) t
  | 0,t,p=>by rw [Nat.zero_add]; rfl
  | s+1,t,p=>by
    rw [show s+1+t=(s+t)+1 by omega]
    exact yc L s t (nxt L p)
theorem ahz (L:List Int) {p:Int} (h:p < 0):∀ t:Nat,itr L p t=p
  | 0=>rfl
  | t+1=>by
    have:nxt L p=p:=if_neg (by omega)
    show itr L (nxt L p) t=p
    rw [this]
    exact ahz L h t
theorem ax0 {L:List Int} (w:Ways L) {p:Int} (hp:p < (L.length:Int)):nxt L p < (L.length:Int):=by
  unfold nxt
  split
  · rename_i h0
    have hk:p.toNat < L.length:=by omega
    rw [List.getD_eq_getElem?_getD,List.getElem?_eq_getElem hk]
    exact (w.ok _ (List.getElem_mem hk)).2
  · exact hp
theorem aek {L:List Int} (w:Ways L):∀ (t:Nat) {p:Int},p < (L.length:Int)→itr L p t < (L.length:Int)
  | 0,_,h=>h
  | t+1,_,h=>aek w t (ax0 w h)
theorem alo {L:List Int} (w:Ways L):(∃ s∈upto L.length,∃ t,1≤t∧t≤L.length∧itr L s t=s)↔gf (lp L)≠[]:=by
  have tI:gf (lp L)=(upto L.length).filter (caught (lp L)):=by unfold gf; rw [aa4]
  constructor
  · rintro ⟨s,hs,t,t1,t2,e⟩
    have s0:=ji hs
    have em:∀ m:Nat,itr L s (m*t)=s:=fun m=>by
      induction m with
      | zero=>rw [Nat.zero_mul]; rfl
      | succ m ih=>rw [Nat.succ_mul,yc,ih,e]
    have hp:∀ m:Nat,0≤itr L s m:=fun m=>by
      rcases Int.lt_or_le (itr L s m) 0 with q | q
      · exfalso
        have hle:m≤m*t:=Nat.le_mul_of_pos_right m t1
        have h1:=yc L m (m*t - m) s
        rw [show m+(m*t - m)=m*t by omega,em m,ahz L q] at h1
        omega
      · exact q
    have hr:∀ x,Rch (lp L) s x→∃ m,x=itr L s m:=fun x hx=>by
      induction hx with
      | base=>exact ⟨0,rfl⟩
      | step r h0 hd ih =>
        obtain ⟨m,rfl⟩:=ih
        have hl:=aek w m s0.2
        rw [ak8 h0 hl,List.mem_singleton] at hd
        refine ⟨m+1,?_⟩
        rw [yc,hd]
        show _=nxt L (itr L s m)
        exact (if_pos h0).symm
    have:s∈gf (lp L):=by
      rw [tI]
      refine List.mem_filter.mpr ⟨hs,(gk _ _).mpr fun x hx => ?_⟩
      obtain ⟨m,rfl⟩:=hr x hx
      exact hp m
    exact List.ne_nil_of_mem this
  · intro hne
    obtain ⟨a,r,ha⟩:=List.exists_cons_of_ne_nil hne
    have hm:a∈gf (lp L):=by rw [ha]; exact List.mem_cons_self ..
    rw [tI] at hm
    obtain ⟨a1,a2⟩:=List.mem_filter.mp hm
    have a0:=ji a1
    have hc:=(gk _ _).mp a2
    have hr:∀ m:Nat,Rch (lp L) a (itr L a m):=fun m=>by
      induction m with
      | zero=>exact .base
      | succ m ih =>
        have h0:=hc _ ih
        have hl:=aek w m a0.2
        rw [yc]
        refine .step ih h0 ?_
        rw [ak8 h0 hl,List.mem_singleton]
        show nxt L (itr L a m)=_
        exact if_pos h0
    obtain ⟨i,j,hij,hj,e⟩:=pig (fun m=>itr L a m) L.length fun m _=>⟨hc _ (hr m),aek w m a0.2⟩
    have hi0:=hc _ (hr i)
    have hi1:=aek w i a0.2
    refine ⟨itr L a i,?_,j - i,by omega,by omega,?_⟩
    · unfold upto
      exact List.mem_map.mpr ⟨(itr L a i).toNat,List.mem_range.mpr (by omega),by omega⟩
    · rw [←yc,show i+(j - i)=j by omega]
      exact e.symm
end My
namespace My
open PySem L2 Mn Dn
end My
namespace My
open PySem L2 Mn Dn
theorem v9 {rooms:List (List Int)} {bs:List Int} {p:Int} (hp:p.toNat < bs.length):ar (gone rooms bs p) p=(ar bs p+1) % ((dr rooms p).length:Int):=by
  unfold gone
  generalize (ar bs p+1) % ((dr rooms p).length:Int)=z
  unfold ar
  simp [hp]
theorem ab3 {rooms:List (List Int)} {bs:List Int} {p x:Int} (hx:0≤x) (hp:0≤p) (hne:x≠p):ar (gone rooms bs p) x=ar bs x:=by
  have:p.toNat≠x.toNat:=by omega
  unfold gone
  generalize (ar bs p+1) % ((dr rooms p).length:Int)=z
  unfold ar
  simp [List.getD_eq_getElem?_getD,List.getElem?_set,this]
end My
namespace My
open PySem L2 Mn Dn
noncomputable def run (rooms:List (List Int)) (as:List Int) (k:Int):Nat→List Int×Int
  | 0=>(as,k)
  | n+1=>(gone rooms (run rooms as k n).1 (run rooms as k n).2,led rooms (run rooms as k n).1 (run rooms as k n).2)
noncomputable def plc (rooms:List (List Int)) (as:List Int) (k:Int) (t:Nat):List Int:=(List.range t).map fun i=>(run rooms as k (i+1)).2
noncomputable def bump (l:List Int) (x:Int):List Int:=l.set x.toNat (l.getD x.toNat 0+1)
noncomputable def cnt (rooms:List (List Int)) (as:List Int) (k:Int):Nat→List Int
  | 0=>List.replicate rooms.length 0
  | t+1=>bump (cnt rooms as k t) (run rooms as k t).2
section
variable {rooms:List (List Int)} (h:Hs rooms) {as:List Int} (ha:Arr rooms as) {k:Int} (h0:0≤k) (h1:k < (rooms.length:Int))
include h ha h0 h1
theorem xu:∀ t:Nat,(∀ i < t,0≤(run rooms as k i).2)→Arr rooms (run rooms as k t).1 ∧ -3≤(run rooms as k t).2∧(run rooms as k t).2 < (rooms.length:Int)
  | 0,_=>⟨ha,by show -3≤k; omega,h1⟩
  | t+1,hp=>by
    obtain ⟨a1,a2,a3⟩:=xu t fun i hi=>hp i (by omega)
    have a0:=hp t (by omega)
    exact ⟨ac9 h a1 a0 a3,ata h a1 a0 a3⟩
omit ha h0 h1 in
theorem av7 (t:Nat):(cnt rooms as k t).length=rooms.length:=by
  induction t with
  | zero=>simp [cnt]
  | succ t ih=>simp [cnt,bump,ih]
omit h ha h0 h1 in
theorem alr (t:Nat):plc rooms as k (t+1)=plc rooms as k t++[(run rooms as k (t+1)).2]:=by
  simp [plc,List.range_succ]
end
end My
namespace My
open PySem L2 Mn Dn
section
variable {rooms:List (List Int)} (h:Hs rooms) {as:List Int} (ha:Arr rooms as)
include h ha
theorem aks:yp [.val (hD rooms),.val (.tup (as.map D.int))]=some (.ok (.fr ((lasts rooms as).map D.int)),[.val (hD rooms),.val (.tup (as.map D.int))]):=by
  have hl:=ha.len
  have hm:=h.most
  have hle:(hDs rooms).length≤(as.map D.int).length:=by rw [nu,List.length_map]; omega
  have comp:=uo (b:=bTup 2 (j6 (cz 0) (j6 (cz 1) bNil))) (mc:=ret true) (me:=abo) (fun j ys ρ=>∃ (o1 o2:Sl),ρ=[o1,o2]∧ys=((List.range j).map fun (i:Nat)=>ql rooms as (i:Int)).map D.int)
    (l:=aan (hDs rooms) (as.map D.int)) (ys:=[]) (ρ:=[.emp,.emp]) 0 ⟨.emp,.emp,rfl,rfl⟩ ?_
  · obtain ⟨ys,ρ',e6,o1,o2,rfl,rfl⟩:=comp
    rw [acs hle,nu,Nat.zero_add] at e6
    have hc:((lasts rooms as).map D.int).length≤capS:=by rw [List.length_map,b7]; exact b8 (by omega)
    have hle2:(hDs rooms).length≤as.length:=by simpa using hle
    change compD _ _ _ _ _ _=some (.ok ((lasts rooms as).map D.int),_) at e6
    generalize (lasts rooms as).map D.int=ld at *
    simp only [hD]
    simp [yp,afz,hle2,e6,hc]
  · rintro j d ys ρ hd ⟨o1,o2,rfl,rfl⟩
    obtain ⟨d2,d1,g2,g1,rfl⟩:=aa6 hd
    obtain ⟨r,hr,rfl⟩:=afu g2
    rw [List.getElem?_map] at g1
    obtain ⟨a,ea,rfl⟩:=Option.map_eq_some_iff.mp g1
    obtain ⟨b0,b1⟩:=ha.ok j a r ea hr
    have er:dr rooms (j:Int)=r:=by unfold dr; rw [List.getD_eq_getElem?_getD,Int.toNat_natCast,hr]; rfl
    have e3:ar as (j:Int)=a:=by unfold ar; rw [List.getD_eq_getElem?_getD,Int.toNat_natCast,ea]; rfl
    have q0:=Int.emod_nonneg (a - 1) (b:=(r.length:Int)) (by omega)
    have q1:=Int.emod_lt_of_pos (a - 1) (b:=(r.length:Int)) (by omega)
    have e4:atI (r.map D.int) ((a - 1) % (r.length:Int))=some (.int (r.getD ((a - 1) % (r.length:Int)).toNat 0)):=xf q0 q1
    have e7:fMod (a - 1) (r.length:Int)=some ((a - 1) % (r.length:Int)):=by
      unfold fMod
      rw [if_pos (by omega)]
    have e5:ql rooms as ((0+j:Nat):Int)=r.getD ((a - 1) % (r.length:Int)).toNat 0:=by rw [Nat.zero_add]; unfold ql wd; rw [er,e3]
    refine ⟨[.val (.tup (r.map D.int)),.val (.int a)],_,true,by simp,rfl,.inr ⟨rfl,.int (r.getD ((a - 1) % (r.length:Int)).toNat 0),[.val (.tup (r.map D.int)),.val (.int a)],by simp [abo,e4,e7],_,_,rfl,?_⟩⟩
    rw [agw,List.map_append,e5]
    rfl
end
end My
namespace My
open PySem L2 Mn Dn
noncomputable def code:List Int→Int
  | []=>0
  | a::r=>a+6*code r
theorem apz:∀ {l:List Int},(∀ a∈l,0≤a∧a < 6)→0≤code l∧code l < ((6 ^ l.length:Nat):Int)
  | [],_=>⟨Int.le_refl 0,by show (0:Int) < ((6 ^ 0:Nat):Int); decide⟩
  | a::r,h=>by
    obtain ⟨h1,h2⟩:=apz (l:=r) fun x hx=>h x (List.mem_cons_of_mem _ hx)
    have h3:=h a (List.mem_cons_self ..)
    have e:6 ^ (a::r).length=6*6 ^ r.length:=by rw [List.length_cons,Nat.pow_succ,Nat.mul_comm]
    rw [e]
    show 0≤a+6*code r∧a+6*code r < _
    generalize 6 ^ r.length=q at *
    constructor <;> omega
theorem code_inj:∀ {l m:List Int},l.length=m.length→(∀ a∈l,0≤a∧a < 6)→(∀ a∈m,0≤a∧a < 6)→code l=code m→l=m
  | [],[],_,_,_,_=>rfl
  | [],_::_,h,_,_,_=>by simp at h
  | _::_,[],h,_,_,_=>by simp at h
  | a::r,b::t,h,h1,h2,e=>by
    have a1:=h1 a (List.mem_cons_self ..)
    have b1:=h2 b (List.mem_cons_self ..)
    have e:a+6*code r=b+6*code t:=e
    have hab:a=b:=by omega
    have hr:code r=code t:=by omega
    rw [hab,code_inj (by simpa using h) (fun x hx=>h1 x (List.mem_cons_of_mem _ hx)) (fun x hx=>h2 x (List.mem_cons_of_mem _ hx)) hr]
theorem ale {rooms:List (List Int)} (h:Hs rooms) {bs:List Int} (hb:Arr rooms bs):∀ a∈bs,0≤a∧a < 6:=fun a ha=>by
  obtain ⟨i,hi,rfl⟩:=List.mem_iff_getElem.mp ha
  have hr:i < rooms.length:=by rw [←hb.len]; exact hi
  have h1:=hb.ok i bs[i] rooms[i] (List.getElem?_eq_getElem hi) (List.getElem?_eq_getElem hr)
  have h2:=(h.room rooms[i] (List.getElem_mem hr)).2.1
  omega
theorem afc (rooms:List (List Int)) (as:List Int) (k:Int) {i j:Nat} (e:run rooms as k i=run rooms as k j):∀ m,run rooms as k (i+m)=run rooms as k (j+m)
  | 0=>e
  | m+1=>by
    have ih:=afc rooms as k e m
    show (gone rooms (run rooms as k (i+m)).1 (run rooms as k (i+m)).2,led rooms (run rooms as k (i+m)).1 (run rooms as k (i+m)).2)=(gone rooms (run rooms as k (j+m)).1 (run rooms as k (j+m)).2,led rooms (run rooms as k (j+m)).1 (run rooms as k (j+m)).2)
    rw [ih]
theorem agm {rooms:List (List Int)} (h:Hs rooms) (f:Nat→List Int×Int) (hf:∀ i,i≤10*6 ^ rooms.length→Arr rooms (f i).1∧0≤(f i).2∧(f i).2 < (rooms.length:Int)):∃ i j,i < j∧j≤10*6 ^ rooms.length∧f i=f j:=by
  have hm:=h.most
  have cd:∀ i,i≤10*6 ^ rooms.length→0≤code (f i).1∧code (f i).1 < ((6 ^ rooms.length:Nat):Int):=fun i hi=>by
    have a:=(hf i hi).1
    have:=apz (ale h a)
    rw [a.len] at this
    exact this
  obtain ⟨i,j,hij,hj,e⟩:=pig (fun i=>10*code (f i).1+(f i).2) (10*6 ^ rooms.length) fun i hi=>by
    have a:=hf i hi
    have b:=cd i hi
    generalize 6 ^ rooms.length=q6 at *
    constructor <;> omega
  have ai:=hf i (by omega)
  have aj:=hf j hj
  have e:10*code (f i).1+(f i).2=10*code (f j).1+(f j).2:=e
  have e1:(f i).2=(f j).2:=by omega
  have e2:(f i).1=(f j).1:=code_inj (by rw [ai.1.len,aj.1.len]) (ale h ai.1) (ale h aj.1) (by omega)
  exact ⟨i,j,hij,hj,Prod.ext e2 e1⟩
end My
namespace My
open PySem L2 Mn Dn
noncomputable def fo (r:Int) (L:List Int) (x:Int):Int:=if 0≤x then L.getD x.toNat 0 else r
noncomputable def itF (r:Int) (L:List Int) (x:Int):Nat→Int
  | 0=>x
  | m+1=>itF r L (fo r L x) m
theorem abh (r:Int) (L:List Int):∀ (s t:Nat) (x:Int),itF r L x (s+t)=itF r L (itF r L x s) t
  | 0,t,x=>by rw [Nat.zero_add]; rfl
  | s+1,t,x=>by
    rw [show s+1+t=(s+t)+1 by omega]
    exact abh r L s t (fo r L x)
theorem wy (r:Int) (L:List Int) (x:Int) (m:Nat):itF r L x (m+1)=fo r L (itF r L x m):=abh r L m 1 x
noncomputable def InN (L:List Int) (x:Int):Prop := -3≤x∧x < (L.length:Int)
noncomputable def adm (r:Int) (L:List Int) (p:Int):Prop:=∀ x,InN L x→∃ m,itF r L x m=p
section
variable {L:List Int} (w:Ways L) {r:Int} (r0:0≤r) (r1:r < (L.length:Int))
include w r0 r1
theorem ay2 {x:Int} (hx:InN L x):InN L (fo r L x):=by
  unfold fo
  split
  · rename_i h0
    have hk:x.toNat < L.length:=by have:=hx.2; omega
    rw [List.getD_eq_getElem?_getD,List.getElem?_eq_getElem hk]
    exact w.ok _ (List.getElem_mem hk)
  · exact ⟨by omega,r1⟩
theorem afq:∀ (m:Nat) {x:Int},InN L x→InN L (itF r L x m)
  | 0,_,h=>h
  | m+1,_,h=>afq m (ay2 w r0 r1 h)
theorem as9 {x p:Int} (hx:InN L x) {m:Nat} (e:itF r L x m=p) (hmin:∀ i < m,itF r L x i≠p):m≤13:=by
  rcases Nat.lt_or_ge 13 m with q | q
  · exfalso
    have hm:=w.most
    obtain ⟨i,j,hij,hj,ee⟩:=pig (fun i=>itF r L x i+3) 13 fun i _=>by
      have:=afq w r0 r1 i hx
      unfold InN at this
      constructor <;> omega
    have ee:itF r L x i+3=itF r L x j+3:=ee
    have e2:itF r L x i=itF r L x j:=by omega
    have e3:itF r L x (i+(m - j))=p:=by
      rw [abh,e2,←abh,show j+(m - j)=m by omega]
      exact e
    exact hmin _ (by omega) e3
  · exact q
theorem au0 {x q:Int} {m:Nat} (e:itF r L x m=q) (hmin:∀ i < m,itF r L x i≠q):∀ i,1≤i→i≤m→itF r L x i≠x:=fun i i1 i2 z=>by
  have e3:itF r L x (m - i)=q:=by
    have:=abh r L i (m - i) x
    rw [show i+(m - i)=m by omega,z,e] at this
    exact this.symm
  exact hmin _ (by omega) e3
theorem apk {p d:Int} (p0:0≤p) (p1:p < (L.length:Int)) (x:Int):fo r (L.set p.toNat d) x=if x=p then d else fo r L x:=by
  unfold fo
  by_cases hx:x=p
  · subst hx
    have hk:x.toNat < L.length:=by omega
    rw [if_pos p0,if_pos rfl,List.getD_eq_getElem?_getD,List.getElem?_set]
    simp [hk]
  · rw [if_neg hx]
    by_cases h0:0≤x
    · have:p.toNat≠x.toNat:=by omega
      rw [if_pos h0,if_pos h0,List.getD_eq_getElem?_getD,List.getElem?_set,if_neg this,←List.getD_eq_getElem?_getD]
    · rw [if_neg h0,if_neg h0]
theorem afp {p d:Int} (p0:0≤p) (p1:p < (L.length:Int)):∀ (m:Nat) {x:Int},(∀ i < m,itF r L x i≠p)→itF r (L.set p.toNat d) x m=itF r L x m
  | 0,_,_=>rfl
  | m+1,x,h=>by
    have h0:x≠p:=h 0 (by omega)
    show itF r (L.set p.toNat d) (fo r (L.set p.toNat d) x) m=itF r L (fo r L x) m
    rw [apk w r0 r1 p0 p1,if_neg h0]
    exact afp p0 p1 m fun i hi=>h (i+1) (by omega)
theorem anl {p d:Int} (p0:0≤p) (p1:p < (L.length:Int)) (h:adm r L p):adm r (L.set p.toNat d) d:=fun x hx=>by
  have hx:InN L x:=by unfold InN at *; rw [List.length_set] at hx; exact hx
  obtain ⟨m0,e0⟩:=h x hx
  obtain ⟨m,e,hmin⟩:=least (P:=fun m=>itF r L x m=p) m0 e0
  refine ⟨m+1,?_⟩
  rw [wy,afp w r0 r1 p0 p1 m hmin,e,apk w r0 r1 p0 p1,if_pos rfl]
theorem aqs {p d:Int} (p0:0≤p) (p1:p < (L.length:Int)) (hd:InN L d) (h:adm r L p):∃ m,itF r (L.set p.toNat d) d m=p∧(∀ i < m,itF r (L.set p.toNat d) d i≠p)∧fo r (L.set p.toNat d) p=d:=by
  obtain ⟨m0,e0⟩:=h d hd
  obtain ⟨m,e,hmin⟩:=least (P:=fun m=>itF r L d m=p) m0 e0
  refine ⟨m,?_,fun i hi => ?_,?_⟩
  · rw [afp w r0 r1 p0 p1 m hmin]
    exact e
  · rw [afp w r0 r1 p0 p1 i fun j hj=>hmin j (by omega)]
    exact hmin i hi
  · rw [apk w r0 r1 p0 p1,if_pos rfl]
theorem ake {x z:Int} (hx:InN L x) (h:Rch (lp L) x z):InN L z∧∃ m,itF r L x m=z:=by
  induction h with
  | base=>exact ⟨hx,0,rfl⟩
  | step _ h0 hd ih =>
    obtain ⟨hin,m,e⟩:=ih
    rw [ak8 h0 hin.2,List.mem_singleton] at hd
    have:fo r L (itF r L x m)=L.getD (itF r L x m).toNat 0:=if_pos (by rw [e]; exact h0)
    have e2:itF r L x (m+1)=L.getD (itF r L x m).toNat 0:=by rw [wy,this]
    rw [e] at e2
    rw [hd]
    exact ⟨by rw [←e2]; exact afq w r0 r1 _ hx,m+1,e2⟩
theorem aeb (hf:gf (lp L)=[]):adm r L r:=fun x hx=>by
  by_cases h0:0≤x
  · have nc:caught (lp L) x≠true:=fun c=>by
      have:x∈gf (lp L):=List.mem_filter.mpr ⟨by
        unfold upto
        rw [aa4]
        exact List.mem_map.mpr ⟨x.toNat,List.mem_range.mpr (by have:=hx.2; omega),by omega⟩,c⟩
      rw [hf] at this
      cases this
    rw [Ne,gk] at nc
    have:∃ z,Rch (lp L) x z∧z < 0:=by
      apply Classical.byContradiction
      intro H
      refine nc fun z hz => ?_
      rcases Int.lt_or_le z 0 with q | q
      · exact absurd ⟨z,hz,q⟩ H
      · exact q
    obtain ⟨z,hz,zn⟩:=this
    obtain ⟨_,m,e⟩:=ake w r0 r1 hx hz
    refine ⟨m+1,?_⟩
    rw [wy,e]
    exact if_neg (by omega)
  · exact ⟨1,if_neg h0⟩
theorem ajj {x:Int} (hx:InN L x) {m:Nat} (hm:itF r L x m < 0):∃ i,i≤m∧itF r L x i < 0∧∀ j < i,0≤itF r L x j:=by
  obtain ⟨i,hi,hmin⟩:=least (P:=fun i=>itF r L x i < 0) m hm
  refine ⟨i,?_,hi,fun j hj => ?_⟩
  · rcases Nat.lt_or_ge m i with q | q
    · exact absurd hm (hmin m q)
    · exact q
  · have:¬itF r L x j < 0:=hmin j hj
    omega
theorem ao4 {x:Int} (hx:InN L x):∀ m,(∀ j < m,0≤itF r L x j)→Rch (lp L) x (itF r L x m)
  | 0,_=>.base
  | m+1,h=>by
    have ih:=ao4 hx m fun j hj=>h j (by omega)
    have h0:=h m (by omega)
    have hin:=afq w r0 r1 m hx
    rw [wy]
    refine .step ih h0 ?_
    rw [ak8 h0 hin.2,List.mem_singleton]
    exact if_pos h0
theorem avy {g:Int} (hg:g < 0) (h:adm r L g):gf (lp L)=[]:=by
  unfold gf
  refine List.filter_eq_nil_iff.mpr fun x hx hc => ?_
  rw [aa4] at hx
  have hx':=ji hx
  have hin:InN L x:=⟨by omega,hx'.2⟩
  obtain ⟨m,e⟩:=h x hin
  obtain ⟨i,_,hi,hj⟩:=ajj w r0 r1 hin (m:=m) (by rw [e]; exact hg)
  have:=(gk (lp L) x).mp hc _ (ao4 w r0 r1 hin i hj)
  omega
theorem anb {g:Int} (hg:g < 0) (h:adm r L g):∃ m,m≤13∧itF r L r m=g∧∀ j < m,0≤itF r L r j:=by
  have hin:InN L r:=⟨by omega,r1⟩
  obtain ⟨m0,e0⟩:=h r hin
  obtain ⟨m,e,hmin⟩:=least (P:=fun m=>itF r L r m=g) m0 e0
  refine ⟨m,as9 w r0 r1 hin e hmin,e,fun j hj => ?_⟩
  rcases Int.lt_or_le (itF r L r j) 0 with q | q
  · exfalso
    have e1:itF r L r (j+1)=r:=by rw [wy]; exact if_neg (by omega)
    have e2:itF r L r (m - (j+1))=g:=by
      have:=abh r L (j+1) (m - (j+1)) r
      rw [show j+1+(m - (j+1))=m by omega,e1,e] at this
      exact this.symm
    exact hmin _ (by omega) e2
  · exact q
end
end My
namespace My
open PySem L2 Mn Dn
theorem ahy {a w:Int} (h0:0≤a) (h1:a < w):((a+1) % w - 1) % w=a:=by
  rcases Int.lt_or_le (a+1) w with q | q
  · rw [Int.emod_eq_of_lt (by omega) q,show a+1 - 1=a by omega,Int.emod_eq_of_lt h0 h1]
  · have e0:a+1=w:=by omega
    have e:=Int.add_emod_right (-1) w
    rw [e0,Int.emod_self,show (0:Int) - 1 = -1 by omega,←e,Int.emod_eq_of_lt (by omega) (by omega)]
    omega
theorem abg {rooms:List (List Int)} {as:List Int} {i:Nat} (hi:i < rooms.length):(lasts rooms as)[i]? = some (ql rooms as (i:Int)):=by
  unfold lasts
  rw [List.getElem?_map,List.getElem?_range hi]
  rfl
section
variable {rooms:List (List Int)} (h:Hs rooms) {bs:List Int} (hb:Arr rooms bs) {p:Int} (p0:0≤p) (p1:p < (rooms.length:Int))
include h hb p0 p1
theorem am8:ql rooms (gone rooms bs p) p=led rooms bs p:=by
  have a:=hb.at p0 p1
  have hl:=hb.len
  unfold ql wd led
  rw [v9 (by omega),ahy a.1 a.2]
theorem abx:lasts rooms (gone rooms bs p)=(lasts rooms bs).set p.toNat (led rooms bs p):=by
  apply List.ext_getElem?
  intro i
  by_cases hi:i < rooms.length
  · rw [abg hi,List.getElem?_set]
    by_cases q:p.toNat=i
    · rw [if_pos q,if_pos (by rw [b7]; omega)]
      have:((i:Nat):Int)=p:=by omega
      rw [this,am8 h hb p0 p1]
    · rw [if_neg q,abg hi]
      unfold ql
      rw [ab3 (by omega) p0 (by omega)]
  · rw [List.getElem?_eq_none (by rw [b7]; omega),List.getElem?_eq_none (by rw [List.length_set,b7]; omega)]
theorem agv (d:Int):((lasts rooms bs).set p.toNat d).set p.toNat (ql rooms bs p)=lasts rooms bs:=by
  rw [List.set_set]
  apply List.ext_getElem?
  intro i
  rw [List.getElem?_set]
  by_cases q:p.toNat=i
  · rw [if_pos q,if_pos (by rw [b7]; omega),abg (by omega)]
    have:((i:Nat):Int)=p:=by omega
    rw [this]
  · rw [if_neg q]
theorem ank:(ar (gone rooms bs p) p - 1) % ((dr rooms p).length:Int)=ar bs p:=by
  have a:=hb.at p0 p1
  have hl:=hb.len
  rw [v9 (by omega)]
  exact ahy a.1 a.2
theorem apb:(gone rooms bs p).set p.toNat (ar bs p)=bs:=by
  have hl:=hb.len
  unfold gone
  rw [List.set_set]
  apply List.ext_getElem?
  intro i
  rw [List.getElem?_set]
  by_cases q:p.toNat=i
  · have hk:i < bs.length:=by omega
    rw [if_pos q,if_pos (by omega),List.getElem?_eq_getElem hk]
    unfold ar
    rw [q,List.getD_eq_getElem?_getD,List.getElem?_eq_getElem hk]
    rfl
  · rw [if_neg q]
end
section
variable {rooms:List (List Int)} (h:Hs rooms) {as:List Int} (ha:Arr rooms as) {k:Int} (h0:0≤k) (h1:k < (rooms.length:Int)) (hf:gf (lp (lasts rooms as))=[])
include h ha h0 h1 hf
theorem afd:∀ t:Nat,(∀ i < t,0≤(run rooms as k i).2)→adm k (lasts rooms (run rooms as k t).1) (run rooms as k t).2
  | 0,_=>aeb (j0 h ha) h0 (by rw [b7]; exact h1) hf
  | t+1,hp=>by
    have hp':∀ i < t,0≤(run rooms as k i).2:=fun i hi=>hp i (by omega)
    obtain ⟨a1,a2,a3⟩:=xu h ha h0 h1 t hp'
    have ih:=afd t hp'
    have p0:=hp t (by omega)
    show adm k (lasts rooms (gone rooms (run rooms as k t).1 (run rooms as k t).2)) (led rooms (run rooms as k t).1 (run rooms as k t).2)
    rw [abx h a1 p0 a3]
    exact anl (j0 h a1) h0 (by rw [b7]; exact h1) p0 (by rw [b7]; exact a3) ih
theorem aqj (t:Nat) (hp:∀ i < t,0≤(run rooms as k i).2):∃ (q:Int) (m:Nat),itF k (lasts rooms (run rooms as k t).1) (run rooms as k t).2 m=q∧(∀ i < m,itF k (lasts rooms (run rooms as k t).1) (run rooms as k t).2 i≠q)∧fo k (lasts rooms (run rooms as k t).1) q=(run rooms as k t).2∧(t=0→q < 0)∧∀ s,t=s+1→q=(run rooms as k s).2:=by
  cases t with
  | zero =>
    have w:=j0 h ha
    have k1:k < ((lasts rooms as).length:Int):=by rw [b7]; exact h1
    have hin:InN (lasts rooms as) k:=⟨by omega,k1⟩
    have hal:=aeb w h0 k1 hf
    have nc:caught (lp (lasts rooms as)) k≠true:=fun c=>by
      have:k∈gf (lp (lasts rooms as)):=List.mem_filter.mpr ⟨by
        unfold upto
        rw [aa4]
        exact List.mem_map.mpr ⟨k.toNat,List.mem_range.mpr (by omega),by omega⟩,c⟩
      rw [hf] at this
      cases this
    rw [Ne,gk] at nc
    have:∃ z,Rch (lp (lasts rooms as)) k z∧z < 0:=by
      apply Classical.byContradiction
      intro H
      refine nc fun z hz => ?_
      rcases Int.lt_or_le z 0 with q | q
      · exact absurd ⟨z,hz,q⟩ H
      · exact q
    obtain ⟨z,hz,zn⟩:=this
    obtain ⟨_,m0,e0⟩:=ake w h0 k1 hin hz
    obtain ⟨m,_,hm,hj⟩:=ajj w h0 k1 hin (m:=m0) (by rw [e0]; exact zn)
    refine ⟨itF k (lasts rooms as) k m,m,rfl,fun i hi e => ?_,if_neg (by omega),fun _=>hm,fun s hs=>by omega⟩
    have:=hj i hi
    rw [show itF k (lasts rooms as) k i=itF k (lasts rooms as) k m from e] at this
    omega
  | succ t =>
    have hp':∀ i < t,0≤(run rooms as k i).2:=fun i hi=>hp i (by omega)
    obtain ⟨a1,a2,a3⟩:=xu h ha h0 h1 t hp'
    have p0:=hp t (by omega)
    have al:=afd h ha h0 h1 hf t hp'
    have hd:=ata h a1 p0 a3
    have hs:=aqs (j0 h a1) h0 (by rw [b7]; exact h1) p0 (by rw [b7]; exact a3) (d:=led rooms (run rooms as k t).1 (run rooms as k t).2) ⟨hd.1,by rw [b7]; exact hd.2⟩ al
    rw [←abx h a1 p0 a3] at hs
    obtain ⟨m,e1,e2,e3⟩:=hs
    exact ⟨_,m,e1,e2,e3,fun z=>by omega,fun s hs=>by rw [show s=t from (Nat.succ.inj hs).symm]⟩
end
end My
namespace My
open PySem L2 Mn Dn
theorem au3 {a w:Int} (h0:0≤a) (h1:a < w):((a - 1) % w+1) % w=a:=by
  rcases Int.lt_or_le a 1 with q | q
  · have:a=0:=by omega
    subst this
    have e:=Int.add_emod_right (-1) w
    rw [show (0:Int) - 1 = -1 by omega,←e,Int.emod_eq_of_lt (show (0:Int) ≤ -1+w by omega) (by omega),show -1+w+1=w by omega,Int.emod_self]
  · rw [Int.emod_eq_of_lt (show 0≤a - 1 by omega) (by omega),show a - 1+1=a by omega,Int.emod_eq_of_lt h0 h1]
theorem ahi (rooms:List (List Int)) (as:List Int) (k:Int):∀ n,run rooms as k (n+1)=run rooms (gone rooms as k) (led rooms as k) n
  | 0=>rfl
  | n+1=>by
    have ih:=ahi rooms as k n
    show (gone rooms (run rooms as k (n+1)).1 (run rooms as k (n+1)).2,led rooms (run rooms as k (n+1)).1 (run rooms as k (n+1)).2)=_
    rw [ih]
    rfl
section
variable {rooms:List (List Int)} (h:Hs rooms) {r:Int} (r0:0≤r) (r1:r < (rooms.length:Int))
include h r0 r1
theorem a3u {A:List Int} (hA:Arr rooms A) {p:Int} (hp:InN (lasts rooms A) p) (al:adm r (lasts rooms A) p) :
    (p=r∧∃ g,g < 0∧adm r (lasts rooms A) g)∨∃ (B:List Int) (q:Int),Arr rooms B∧0≤q∧q < (rooms.length:Int)∧gone rooms B q=A∧led rooms B q=p∧adm r (lasts rooms B) q:=by
  have w:=j0 h hA
  have k1:r < ((lasts rooms A).length:Int):=by rw [b7]; exact r1
  obtain ⟨m,em⟩:=al (fo r (lasts rooms A) p) (ay2 w r0 k1 hp)
  have em:itF r (lasts rooms A) p (m+1)=p:=em
  have hq:=afq w r0 k1 m hp
  have eq1:fo r (lasts rooms A) (itF r (lasts rooms A) p m)=p:=by rw [←wy]; exact em
  have alq:adm r (lasts rooms A) (itF r (lasts rooms A) p m):=fun x hx=>by
    obtain ⟨m1,e1⟩:=al x hx
    exact ⟨m1+m,by rw [abh,e1]⟩
  generalize itF r (lasts rooms A) p m=q at *
  by_cases q0:0≤q
  · right
    have q1:q < (rooms.length:Int):=by have:=hq.2; rw [b7] at this; exact this
    have a:=hA.at q0 q1
    have hAl:=hA.len
    have w0:(0:Int) < ((dr rooms q).length:Int):=by omega
    have v0:=Int.emod_nonneg (ar A q - 1) (show ((dr rooms q).length:Int)≠0 by omega)
    have v1:=Int.emod_lt_of_pos (ar A q - 1) w0
    have arx:ar (A.set q.toNat ((ar A q - 1) % ((dr rooms q).length:Int))) q=(ar A q - 1) % ((dr rooms q).length:Int):=by
      generalize (ar A q - 1) % ((dr rooms q).length:Int)=v
      unfold ar
      rw [List.getD_eq_getElem?_getD,List.getElem?_set,if_pos rfl,if_pos (by omega)]
      rfl
    have hB:Arr rooms (A.set q.toNat ((ar A q - 1) % ((dr rooms q).length:Int))):=⟨by rw [List.length_set]; exact hAl,fun i x rr g1 g2=>by
      rw [List.getElem?_set] at g1
      split at g1
      · rename_i hi
        split at g1
        · cases g1
          have:dr rooms q=rr:=by unfold dr; rw [List.getD_eq_getElem?_getD,hi,g2]; rfl
          rw [this] at v0 v1 ⊢
          exact ⟨v0,v1⟩
        · cases g1
      · exact hA.ok i x rr g1 g2⟩
    have hg:gone rooms (A.set q.toNat ((ar A q - 1) % ((dr rooms q).length:Int))) q=A:=by
      unfold gone
      rw [arx,au3 a.1 a.2,List.set_set]
      apply List.ext_getElem?
      intro i
      rw [List.getElem?_set]
      by_cases z:q.toNat=i
      · have hk:i < A.length:=by omega
        rw [if_pos z,if_pos (by omega),List.getElem?_eq_getElem hk]
        unfold ar
        rw [z,List.getD_eq_getElem?_getD,List.getElem?_eq_getElem hk]
        rfl
      · rw [if_neg z]
    have hl:led rooms (A.set q.toNat ((ar A q - 1) % ((dr rooms q).length:Int))) q=p:=by
      have e1:fo r (lasts rooms A) q=ql rooms A q:=by
        unfold fo
        rw [if_pos q0,List.getD_eq_getElem?_getD,abg (by omega)]
        show ql rooms A ((q.toNat:Nat):Int)=ql rooms A q
        rw [show ((q.toNat:Nat):Int)=q by omega]
      rw [eq1] at e1
      unfold led
      rw [arx,e1]
      rfl
    refine ⟨_,q,hB,q0,q1,hg,hl,?_⟩
    have hls:=abx h hB q0 q1
    rw [hg,hl] at hls
    generalize A.set q.toNat ((ar A q - 1) % ((dr rooms q).length:Int))=B at *
    intro x hx
    have wB:=j0 h hB
    have kB:r < ((lasts rooms B).length:Int):=by rw [b7]; exact r1
    have hxA:InN (lasts rooms A) x:=by unfold InN at *; rw [b7] at *; exact hx
    obtain ⟨m1,e1⟩:=alq x hxA
    obtain ⟨m2,e2,hmin⟩:=least (P:=fun m=>itF r (lasts rooms A) x m=q) m1 e1
    have hback:=agv h hB q0 q1 p
    rw [←hls] at hback
    refine ⟨m2,?_⟩
    rw [←hback]
    exact (afp w r0 k1 q0 (by rw [b7]; exact q1) m2 hmin).trans e2
  · left
    have:fo r (lasts rooms A) q=r:=if_neg q0
    exact ⟨by rw [←eq1,this],q,by omega,alq⟩
theorem akq {A:List Int} (hA:Arr rooms A) (hf:gf (lp (lasts rooms A))=[]):∃ (as:List Int) (T:Nat),Arr rooms as∧gf (lp (lasts rooms as))=[]∧T≤10*6 ^ rooms.length∧(run rooms as r T).1=A∧(run rooms as r T).2 < 0∧∀ i < T,0≤(run rooms as r i).2:=by
  have w:=j0 h hA
  have k1:r < ((lasts rooms A).length:Int):=by rw [b7]; exact r1
  have hin:InN (lasts rooms A) r:=⟨by omega,k1⟩
  have al:=aeb w r0 k1 hf
  have hgate:∃ g,g < 0∧InN (lasts rooms A) g∧adm r (lasts rooms A) g:=by
    have nc:caught (lp (lasts rooms A)) r≠true:=fun c=>by
      have:r∈gf (lp (lasts rooms A)):=List.mem_filter.mpr ⟨by
        unfold upto
        rw [aa4]
        exact List.mem_map.mpr ⟨r.toNat,List.mem_range.mpr (by omega),by omega⟩,c⟩
      rw [hf] at this
      cases this
    rw [Ne,gk] at nc
    have:∃ z,Rch (lp (lasts rooms A)) r z∧z < 0:=by
      apply Classical.byContradiction
      intro H
      refine nc fun z hz => ?_
      rcases Int.lt_or_le z 0 with q | q
      · exact absurd ⟨z,hz,q⟩ H
      · exact q
    obtain ⟨z,hz,zn⟩:=this
    obtain ⟨zi,m,e⟩:=ake w r0 k1 hin hz
    exact ⟨z,zn,zi,fun x hx=>by
      obtain ⟨m1,e1⟩:=al x hx
      exact ⟨m1+m,by rw [abh,e1]; exact e⟩⟩
  obtain ⟨g,gn,gi,alg⟩:=hgate
  have steps:∀ N,(∃ (as:List Int) (T:Nat),T≤N∧Arr rooms as∧gf (lp (lasts rooms as))=[]∧(run rooms as r T).1=A∧(run rooms as r T).2 < 0∧∀ i < T,0≤(run rooms as r i).2) ∨
      ∃ (as:List Int) (q:Int),Arr rooms as∧InN (lasts rooms as) q∧adm r (lasts rooms as) q∧run rooms as q N=(A,g)∧∀ i < N,0≤(run rooms as q i).2∧(run rooms as q i).2 < (rooms.length:Int)∧Arr rooms (run rooms as q i).1:=fun N=>by
    induction N with
    | zero=>exact .inr ⟨A,g,hA,gi,alg,rfl,fun i hi=>by omega⟩
    | succ N ih =>
      rcases ih with ⟨as,T,hT,z⟩ | ⟨as,q,ha,qi,aq,e,hp⟩
      · exact .inl ⟨as,T,by omega,z⟩
      · rcases a3u h r0 r1 ha qi aq with ⟨rfl,g',gn',al'⟩ | ⟨B,q',hB,q0,q1,hg,hl,aB⟩
        · left
          refine ⟨as,N,by omega,ha,avy (j0 h ha) r0 (by rw [b7]; exact r1) gn' al',by rw [e],by rw [e]; exact gn,fun i hi=>(hp i hi).1⟩
        · right
          refine ⟨B,q',hB,⟨by omega,by rw [b7]; exact q1⟩,aB,by rw [ahi,hg,hl]; exact e,fun i hi => ?_⟩
          cases i with
          | zero=>exact ⟨q0,q1,hB⟩
          | succ i =>
            rw [ahi,hg,hl]
            exact hp i (by omega)
  rcases steps (10*6 ^ rooms.length+1) with ⟨as,T,hT,ha,hfr,e1,e2,e3⟩ | ⟨as,q,ha,qi,aq,e,hp⟩
  · by_cases hT2:T≤10*6 ^ rooms.length
    · exact ⟨as,T,ha,hfr,hT2,e1,e2,e3⟩
    · exfalso
      have hm:=h.most
      have ok:∀ i,i < T→Arr rooms (run rooms as r i).1∧0≤(run rooms as r i).2∧(run rooms as r i).2 < (rooms.length:Int):=fun i hi=>by
        obtain ⟨a,b,c⟩:=xu h ha r0 r1 i fun j hj=>e3 j (by omega)
        exact ⟨a,e3 i hi,c⟩
      obtain ⟨i,j,hij,hj,ee⟩:=agm h (fun i=>run rooms as r i) fun i hi=>ok i (by omega)
      have e4:=afc rooms as r ee (T - j)
      rw [show j+(T - j)=T by omega] at e4
      have:=e3 (i+(T - j)) (by omega)
      rw [e4] at this
      omega
  · exfalso
    obtain ⟨i,j,hij,hj,ee⟩:=agm h (fun i=>run rooms as q i) fun i hi=>⟨(hp i (by omega)).2.2,(hp i (by omega)).1,(hp i (by omega)).2.1⟩
    have e4:=afc rooms as q ee (10*6 ^ rooms.length+1 - j)
    rw [show j+(10*6 ^ rooms.length+1 - j)=10*6 ^ rooms.length+1 by omega,e] at e4
    have:=(hp (i+(10*6 ^ rooms.length+1 - j)) (by omega)).1
    rw [e4] at this
    have:0≤g:=this
    omega
end
end My
namespace My
open PySem L2 Mn Dn
section
variable {L:List Int} (w:Ways L) {r:Int} (r0:0≤r) (r1:r < (L.length:Int))
include w r0 r1
theorem awc {x:Int} (h0:0≤x) (h1:x < (L.length:Int)):atI (L.map D.int) x=some (.int (fo r L x)):=by
  have:fo r L x=L.getD x.toNat 0:=if_pos h0
  rw [this]
  exact xf h0 h1
theorem anc {g:Int} {m:Nat} (hm:m≤13) (e:itF r L r m=g) (hg:g < 0) (hj:∀ j < m,0≤itF r L r j):abk [.own (some 0) (L.map D.int),.val (.int r)]=some (.ok (.v (.int g)),[.own (some 0) (L.map D.int),.val (.int r)]):=by
  have hin:InN L r:=⟨by omega,r1⟩
  have loop:=oh (c:=abq) (g:=ado)
    (fun n ρ=>∃ t:Nat,t≤m∧n=m - t∧ρ=[.own (some 0) (L.map D.int),.val (.int r),.val (.int (itF r L r t))])
    (fun ρ=>ρ=[.own (some 0) (L.map D.int),.val (.int r),.val (.int g)])
    ?_ fuel m [.own (some 0) (L.map D.int),.val (.int r),.val (.int r)] (Nat.lt_trans (show m < 100000 by omega) aat) ⟨0,by omega,rfl,rfl⟩
  · obtain ⟨ρ',e1,rfl⟩:=loop
    generalize L.map D.int=LL at *
    simp [abk,ajg,e1]
  · rintro n ρ ⟨t,t2,rfl,rfl⟩
    rcases Nat.lt_or_ge t m with q | q
    · have h0:=hj t q
      have e1:=awc w r0 r1 h0 (afq w r0 r1 t hin).2
      rw [←wy] at e1
      refine .inr ⟨[.own (some 0) (L.map D.int),.val (.int r),.val (.int (itF r L r t))],[.own (some 0) (L.map D.int),.val (.int r),.val (.int (itF r L r (t+1)))],m - (t+1),?_,?_,by omega,t+1,by omega,rfl,rfl⟩
      · simp [abq,h0]
      · generalize itF r L r (t+1)=y at *
        generalize L.map D.int=LL at *
        simp [ado,e1]
    · have:t=m:=by omega
      subst this
      rw [e]
      have:¬0≤g:=by omega
      exact .inl ⟨[.own (some 0) (L.map D.int),.val (.int r),.val (.int g)],by simp [abq,this],rfl⟩
theorem asz {p q:Int} (hp:InN L p) {m:Nat} (e:itF r L p m=q) (hmin:∀ i < m,itF r L p i≠q) (hq:fo r L q=p):f_ahead_on_ring [.own (some 0) (L.map D.int),.val (.int r),.val (.int p)]=some (.ok (.v (.int q)),[.own (some 0) (L.map D.int),.val (.int r),.val (.int p)]):=by
  have hm:=as9 w r0 r1 hp e hmin
  have nb:=au0 w r0 r1 e hmin
  have loop:=oh (c:=qy) (g:=qx)
    (fun n ρ=>∃ t:Nat,t≤m∧n=m - t∧ρ=[.own (some 0) (L.map D.int),.val (.int r),.val (.int p),.val (.int (itF r L p t)),.val (.int (itF r L p (t+1)))])
    (fun ρ=>ρ=[.own (some 0) (L.map D.int),.val (.int r),.val (.int p),.val (.int q),.val (.int p)])
    ?_ fuel m [.own (some 0) (L.map D.int),.val (.int r),.val (.int p),.val (.int p),.val (.int (fo r L p))] (Nat.lt_trans (show m < 100000 by omega) aat) ⟨0,by omega,rfl,rfl⟩
  · obtain ⟨ρ',e1,rfl⟩:=loop
    by_cases h0:0≤p
    · have a1:=awc w r0 r1 h0 hp.2
      generalize fo r L p=y at *
      generalize L.map D.int=LL at *
      simp [f_ahead_on_ring,yl,h0,a1,e1]
    · have a1:fo r L p=r:=if_neg h0
      rw [a1] at e1
      generalize L.map D.int=LL at *
      simp [f_ahead_on_ring,yl,h0,e1]
  · rintro n ρ ⟨t,t2,rfl,rfl⟩
    rcases Nat.lt_or_ge t m with z | z
    · have hne:=nb (t+1) (by omega) (by omega)
      have hin:=afq w r0 r1 (t+1) hp
      refine .inr ⟨[.own (some 0) (L.map D.int),.val (.int r),.val (.int p),.val (.int (itF r L p t)),.val (.int (itF r L p (t+1)))],[.own (some 0) (L.map D.int),.val (.int r),.val (.int p),.val (.int (itF r L p (t+1))),.val (.int (itF r L p (t+1+1)))],m - (t+1),?_,?_,by omega,t+1,by omega,rfl,rfl⟩
      · generalize itF r L p (t+1)=y at *
        simp [qy,hne]
      · rw [wy r L p (t+1)]
        by_cases h0:0≤itF r L p (t+1)
        · have a1:=awc w r0 r1 h0 hin.2
          generalize fo r L (itF r L p (t+1))=y2 at *
          generalize itF r L p (t+1)=y at *
          generalize L.map D.int=LL at *
          simp [qx,h0,a1]
        · have a1:fo r L (itF r L p (t+1))=r:=if_neg h0
          rw [a1]
          generalize itF r L p (t+1)=y at *
          generalize L.map D.int=LL at *
          simp [qx,h0]
    · have:t=m:=by omega
      subst this
      rw [wy,e,hq]
      exact .inl ⟨[.own (some 0) (L.map D.int),.val (.int r),.val (.int p),.val (.int q),.val (.int p)],by simp [qy],rfl⟩
end
noncomputable def bk (rooms:List (List Int)) (as:List Int) (k:Int) (T t:Nat):List Int:=(List.range (T - t)).map fun i=>(run rooms as k (T - i)).2
theorem awb (rooms:List (List Int)) (as:List Int) (k:Int) {T t:Nat} (h:t < T):bk rooms as k T t=bk rooms as k T (t+1)++[(run rooms as k (t+1)).2]:=by
  unfold bk
  rw [show T - t=(T - (t+1))+1 by omega,List.range_succ,List.map_append,List.map_singleton,show T - (T - (t+1))=t+1 by omega]
theorem azj (rooms:List (List Int)) (as:List Int) (k:Int) (T:Nat):(bk rooms as k T 0).reverse=plc rooms as k T:=by
  apply List.ext_getElem?
  intro i
  unfold bk plc
  rw [Nat.sub_zero]
  by_cases hi:i < T
  · rw [List.getElem?_reverse (by simpa using hi),List.getElem?_map,List.getElem?_map,List.length_map,List.length_range,List.getElem?_range (by omega),List.getElem?_range hi]
    show some (run rooms as k (T - (T - 1 - i))).2=some (run rooms as k (i+1)).2
    rw [show T - (T - 1 - i)=i+1 by omega]
  · rw [List.getElem?_eq_none (by simp; omega),List.getElem?_eq_none (by simp; omega)]
theorem asf:1000000 < fuel:=by unfold fuel; decide
section
variable {rooms:List (List Int)} (h:Hs rooms) {as:List Int} (ha:Arr rooms as) {k:Int} (h0:0≤k) (h1:k < (rooms.length:Int)) (hf:gf (lp (lasts rooms as))=[]) {T:Nat} (hT:T≤1000000) (hp:∀ i < T,0≤(run rooms as k i).2) (hn:(run rooms as k T).2 < 0)
include h ha h0 h1 hf hT hp hn
theorem anz:adg [.val (hD rooms),.val (.tup ((run rooms as k T).1.map D.int)),.val (.int k)]=some (.ok (.v (.tup [.tup (as.map D.int),.lst ((plc rooms as k T).map D.int)])),[.val (hD rooms),.val (.tup ((run rooms as k T).1.map D.int)),.val (.int k)]):=by
  have hm:=h.most
  obtain ⟨b1,b2,b3⟩:=xu h ha h0 h1 T hp
  have al:=afd h ha h0 h1 hf T hp
  have wT:=j0 h b1
  have kT:k < ((lasts rooms (run rooms as k T).1).length:Int):=by rw [b7]; exact h1
  obtain ⟨mg,hmg,eg,hjg⟩:=anb wT h0 kT hn al
  have g1:=anc wT h0 kT hmg eg hn hjg
  have e1:=aej h b1
  have ahd:∀ t,t≤T→∃ q,f_ahead_on_ring [.own (some 0) ((lasts rooms (run rooms as k t).1).map D.int),.val (.int k),.val (.int (run rooms as k t).2)]=some (.ok (.v (.int q)),[.own (some 0) ((lasts rooms (run rooms as k t).1).map D.int),.val (.int k),.val (.int (run rooms as k t).2)])∧(t=0→q < 0)∧∀ s,t=s+1→q=(run rooms as k s).2:=fun t ht=>by
    have hp':∀ i < t,0≤(run rooms as k i).2:=fun i hi=>hp i (by omega)
    obtain ⟨a1,a2,a3⟩:=xu h ha h0 h1 t hp'
    obtain ⟨q,m,q1,q2,q3,q4,q5⟩:=aqj h ha h0 h1 hf t hp'
    exact ⟨q,asz (j0 h a1) h0 (by rw [b7]; exact h1) ⟨a2,by rw [b7]; exact a3⟩ q1 q2 q3,q4,q5⟩
  obtain ⟨qT,eqT,qT0,qTs⟩:=ahd T (Nat.le_refl T)
  have loop:=oh (c:=acu) (g:=ae2)
    (fun n ρ=>∃ (t:Nat) (q:Int),t≤T∧n=t∧(t=0→q < 0)∧(∀ s,t=s+1→q=(run rooms as k s).2)∧ρ=[.val (hD rooms),.val (.tup ((run rooms as k T).1.map D.int)),.val (.int k),.own none ((run rooms as k t).1.map D.int),.own none ((lasts rooms (run rooms as k t).1).map D.int),.val (.int (run rooms as k t).2),.own none ((bk rooms as k T t).map D.int),.val (.int q)])
    (fun ρ=>∃ o4 o5 o7:Sl,ρ=[.val (hD rooms),.val (.tup ((run rooms as k T).1.map D.int)),.val (.int k),.own none (as.map D.int),o4,o5,.own none ((bk rooms as k T 0).map D.int),o7])
    ?_ fuel T [.val (hD rooms),.val (.tup ((run rooms as k T).1.map D.int)),.val (.int k),.own none ((run rooms as k T).1.map D.int),.own none ((lasts rooms (run rooms as k T).1).map D.int),.val (.int (run rooms as k T).2),.own none [],.val (.int qT)] (Nat.lt_of_le_of_lt hT asf) ⟨T,qT,Nat.le_refl T,rfl,qT0,qTs,by unfold bk; rw [Nat.sub_self]; rfl⟩
  · obtain ⟨ρ',e,o4,o5,o7,rfl⟩:=loop
    have hrev:((bk rooms as k T 0).map D.int).reverse=(plc rooms as k T).map D.int:=by rw [←List.map_reverse,azj]
    have hcap:((bk rooms as k T 0).map D.int).length < capS:=by
      rw [List.length_map]
      unfold bk
      rw [List.length_map,List.length_range]
      unfold capS
      omega
    rw [←hrev]
    have hal:=ha.len
    have hc1:(as.map D.int).length≤capS:=by rw [List.length_map]; exact b8 (by omega)
    have hc2:((run rooms as k T).1.map D.int).length≤capS:=by rw [List.length_map,b1.len]; exact b8 (by omega)
    have hc3:((lasts rooms (run rooms as k T).1).map D.int).length≤capS:=by rw [List.length_map,b7]; exact b8 (by omega)
    generalize (lasts rooms (run rooms as k T).1).map D.int=LL at *
    generalize (bk rooms as k T 0).map D.int=BB at *
    generalize (run rooms as k T).1.map D.int=RR at *
    generalize (run rooms as k T).2=gg at *
    generalize as.map D.int=la at *
    generalize hD rooms=hh at *
    simp [adg,al6,e1,g1,eqT,hc1,hc2,hc3,e,hcap]
  · rintro n ρ ⟨t,q,t2,rfl,q0,qs,rfl⟩
    cases n with
    | zero =>
      have:=q0 rfl
      have hq:¬0≤q:=by omega
      exact .inl ⟨[.val (hD rooms),.val (.tup ((run rooms as k T).1.map D.int)),.val (.int k),.own none ((run rooms as k 0).1.map D.int),.own none ((lasts rooms (run rooms as k 0).1).map D.int),.val (.int (run rooms as k 0).2),.own none ((bk rooms as k T 0).map D.int),.val (.int q)],by simp [acu,hq],_,_,_,rfl⟩
    | succ s =>
      obtain rfl:=qs s rfl
      have hp':∀ i < s,0≤(run rooms as k i).2:=fun i hi=>hp i (by omega)
      obtain ⟨a1,a2,a3⟩:=xu h ha h0 h1 s hp'
      have p0:=hp s (by omega)
      obtain ⟨q2,e2,z0,zs⟩:=ahd s (by omega)
      have ag:=ac9 h a1 p0 a3
      have hr1:(run rooms as k (s+1)).1=gone rooms (run rooms as k s).1 (run rooms as k s).2:=rfl
      have c1:=aea p0 a3
      have c2:=ae0 h ag p0 a3
      have c3:=adf h ag p0 a3 (ar (gone rooms (run rooms as k s).1 (run rooms as k s).2) (run rooms as k s).2 - 1)
      rw [ank h a1 p0 a3] at c3
      have c4:ixN (gone rooms (run rooms as k s).1 (run rooms as k s).2).length (run rooms as k s).2=some (run rooms as k s).2.toNat:=ack p0 (by rw [ag.len]; exact a3)
      have c5:=apb h a1 p0 a3
      have c6:=ae0 h a1 p0 a3
      have aa:=a1.at p0 a3
      have c7:=aqf aa.1 aa.2
      have c8:(lasts rooms (gone rooms (run rooms as k s).1 (run rooms as k s).2)).set (run rooms as k s).2.toNat (ql rooms (run rooms as k s).1 (run rooms as k s).2)=lasts rooms (run rooms as k s).1:=by
        rw [abx h a1 p0 a3]
        exact agv h a1 p0 a3 _
      have c9:ixN (lasts rooms (gone rooms (run rooms as k s).1 (run rooms as k s).2)).length (run rooms as k s).2=some (run rooms as k s).2.toNat:=ack p0 (by rw [b7]; exact a3)
      have hcap:((bk rooms as k T (s+1)).map D.int).length < capS:=by
        rw [List.length_map]
        unfold bk
        rw [List.length_map,List.length_range]
        unfold capS
        omega
      have d5:(((gone rooms (run rooms as k s).1 (run rooms as k s).2).map D.int).set (run rooms as k s).2.toNat (.int (ar (run rooms as k s).1 (run rooms as k s).2)))=(run rooms as k s).1.map D.int:=by rw [←List.map_set,c5]
      have d8:(((lasts rooms (gone rooms (run rooms as k s).1 (run rooms as k s).2)).map D.int).set (run rooms as k s).2.toNat (.int (ql rooms (run rooms as k s).1 (run rooms as k s).2)))=(lasts rooms (run rooms as k s).1).map D.int:=by rw [←List.map_set,c8]
      have d4:ixN ((gone rooms (run rooms as k s).1 (run rooms as k s).2).map D.int).length (run rooms as k s).2=some (run rooms as k s).2.toNat:=by rw [List.length_map]; exact c4
      have d9:ixN ((lasts rooms (gone rooms (run rooms as k s).1 (run rooms as k s).2)).map D.int).length (run rooms as k s).2=some (run rooms as k s).2.toNat:=by rw [List.length_map]; exact c9
      have c7':atI ((dr rooms (run rooms as k s).2).map D.int) (ar (run rooms as k s).1 (run rooms as k s).2 - 1)=some (.int (ql rooms (run rooms as k s).1 (run rooms as k s).2)):=c7
      refine .inr ⟨[.val (hD rooms),.val (.tup ((run rooms as k T).1.map D.int)),.val (.int k),.own none ((run rooms as k (s+1)).1.map D.int),.own none ((lasts rooms (run rooms as k (s+1)).1).map D.int),.val (.int (run rooms as k (s+1)).2),.own none ((bk rooms as k T (s+1)).map D.int),.val (.int (run rooms as k s).2)],[.val (hD rooms),.val (.tup ((run rooms as k T).1.map D.int)),.val (.int k),.own none ((run rooms as k s).1.map D.int),.own none ((lasts rooms (run rooms as k s).1).map D.int),.val (.int (run rooms as k s).2),.own none ((bk rooms as k T s).map D.int),.val (.int q2)],s,?_,?_,by omega,s,q2,by omega,rfl,z0,zs,rfl⟩
      · simp [acu,p0]
      · rw [awb rooms as k (show s < T by omega),List.map_append,hr1]
        have dl:((dr rooms (run rooms as k s).2).map D.int).length=(dr rooms (run rooms as k s).2).length:=List.length_map ..
        generalize (run rooms as k (s+1)).2=pl at *
        generalize (bk rooms as k T (s+1)).map D.int=BB at *
        generalize (lasts rooms (gone rooms (run rooms as k s).1 (run rooms as k s).2)).map D.int=LG at *
        generalize (lasts rooms (run rooms as k s).1).map D.int=LS at *
        generalize (gone rooms (run rooms as k s).1 (run rooms as k s).2).map D.int=GG at *
        generalize ar (gone rooms (run rooms as k s).1 (run rooms as k s).2) (run rooms as k s).2=ag2 at *
        generalize ql rooms (run rooms as k s).1 (run rooms as k s).2=ld at *
        generalize ar (run rooms as k s).1 (run rooms as k s).2=a0 at *
        generalize (run rooms as k s).1.map D.int=RS at *
        generalize (dr rooms (run rooms as k s).2).length=dn at *
        generalize (dr rooms (run rooms as k s).2).map D.int=DD at *
        generalize (run rooms as k T).1.map D.int=RT at *
        generalize (run rooms as k s).2=ps at *
        simp only [hD] at *
        generalize hDs rooms=hh at *
        simp [ae2,hcap,c1,c2,dl,c3,d4,d5,c6,c7',d9,d8,e2]
end
end My
namespace My
open PySem L2 Mn Dn
theorem aei {l:List Int} (hl:l.length≤1000):t8 [.val (.tup (l.map D.int)),.val (.tup (l.map D.int))]=some (.ok (.v (.bl true)),[.val (.tup (l.map D.int)),.val (.tup (l.map D.int))]):=by
  have e1:gEq true (.tup (l.map D.int)) (.tup (l.map D.int))=some (.v (.bl false)):=by rw [al8]; simp
  have e4:compD (cz 0) (ret true) aaw (l.map D.int) [] [.emp]=some (.ok (l.map fun _=>.bl true),acj .emp (l.map D.int)::[]):=by
    rw [adi (f:=fun _=>.bl true)]
    · simp
    · intro d hd
      obtain ⟨k,_,rfl⟩:=List.mem_map.mp hd
      simp [aaw,agj]
  have hc:l.length≤capS:=b8 hl
  simp [t8,aep,isTy,e1,e4,hc,Function.comp_def]
end My
namespace My
open PySem L2 Mn Dn
theorem aj3 (a b:D):atI [a,b] 0=some a:=rfl
theorem aj2 (a b:D):atI [a,b] 1=some b:=rfl
noncomputable def vis (rooms:List (List Int)) (as:List Int) (k:Int) (T:Nat):List Int:=(List.range T).map fun i=>(run rooms as k i).2
theorem amj (l:List Int) (x:Int):(bump l x).length=l.length:=by simp [bump]
theorem anh {l:List Int} {x:Int} (x0:0≤x) (x1:x < (l.length:Int)) (a b:Sl):qd [.own (some 0) (l.map D.int),a,b,.val (.int x)]=some (.nx,[.own (some 0) ((bump l x).map D.int),a,b,.val (.int x)]):=by
  have ix:ixN l.length x=some x.toNat:=ack x0 x1
  have hlt:x.toNat < l.length:=by omega
  simp [qd,ix,hlt,bump]
theorem ajm (a b:Sl):∀ (xs l:List Int) (o:Sl),(∀ x∈xs,0≤x∧x < (l.length:Int))→∃ o',forD (cz 3) qd (xs.map D.int) [.own (some 0) (l.map D.int),a,b,o]=some (.nx,[.own (some 0) ((xs.foldl bump l).map D.int),a,b,o'])
  | [],l,o,_=>⟨o,rfl⟩
  | x::xs,l,o,h=>by
    obtain ⟨x0,x1⟩:=h x (List.mem_cons_self ..)
    obtain ⟨o',e⟩:=ajm a b xs (bump l x) (.val (.int x)) fun y hy=>by rw [amj]; exact h y (List.mem_cons_of_mem _ hy)
    refine ⟨o',?_⟩
    rw [List.map_cons,mz]
    simp [anh x0 x1,e]
theorem asm {ns:List D} (h:1≤ns.length):cutD ns none (some (-1))=ns.take (ns.length - 1):=by
  unfold cutD
  have e1:HT.sIx ns.length ns.length (some (-1))=ns.length - 1:=by
    show (if (-1:Int) < 0 then ((-1:Int)+(ns.length:Int)).toNat else min (-1:Int).toNat ns.length)=_
    rw [if_pos (by decide)]
    omega
  have e0:HT.sIx ns.length 0 none=0:=rfl
  rw [e1,e0,Nat.sub_zero,List.drop_zero]
section
variable {rooms:List (List Int)} (h:Hs rooms) {as:List Int} (ha:Arr rooms as) {k:Int} (h0:0≤k) (h1:k < (rooms.length:Int)) {T:Nat} (hp:∀ i < T,0≤(run rooms as k i).2)
include h ha h0 h1 hp
theorem asp (hT1:1≤T) {l:List Int} (hl:l.length=rooms.length):m5 [.own (some 0) (l.map D.int),.val (.int k),.val (.lst ((plc rooms as k T).map D.int))]=some (.ok (.v .non),[.own (some 0) (((vis rooms as k T).foldl bump l).map D.int),.val (.int k),.val (.lst ((plc rooms as k T).map D.int))]):=by
  obtain ⟨s,rfl⟩:∃ s,T=s+1:=⟨T - 1,by omega⟩
  have hpl:(plc rooms as k (s+1)).length=s+1:=by simp [plc]
  have c:=asm (ns:=(plc rooms as k (s+1)).map D.int) (by rw [List.length_map,hpl]; omega)
  have c2:((plc rooms as k (s+1)).map D.int).take (((plc rooms as k (s+1)).map D.int).length - 1)=(plc rooms as k s).map D.int:=by
    rw [List.length_map,hpl,alr,List.map_append]
    exact List.take_left' (by simp [plc])
  rw [c2] at c
  have hin:∀ x∈plc rooms as k s,0≤x∧x < (rooms.length:Int):=fun x hx=>by
    obtain ⟨i,hi,rfl⟩:=List.mem_map.mp hx
    have hi:=List.mem_range.mp hi
    exact ⟨hp (i+1) (by omega),(xu h ha h0 h1 (i+1) fun j hj=>hp j (by omega)).2.2⟩
  obtain ⟨o',e⟩:=ajm (.val (.int k)) (.val (.lst ((plc rooms as k (s+1)).map D.int))) (plc rooms as k s) (bump l k) .emp fun x hx=>by rw [amj,hl]; exact hin x hx
  have hv:vis rooms as k (s+1)=k::plc rooms as k s:=by
    unfold vis plc
    rw [List.range_succ_eq_map,List.map_cons,List.map_map]
    rfl
  rw [hv,List.foldl_cons]
  have ix:ixN l.length k=some k.toNat:=ack h0 (by rw [hl]; exact h1)
  have hlt:k.toNat < l.length:=by omega
  have hb:(l.map D.int).set k.toNat (D.int (l[k.toNat]+1))=(bump l k).map D.int:=by
    simp [bump,hlt]
  generalize ((plc rooms as k s).foldl bump (bump l k)).map D.int=FF at *
  generalize (bump l k).map D.int=BB at *
  generalize (plc rooms as k (s+1)).map D.int=PP at *
  generalize (plc rooms as k s).map D.int=PS at *
  simp [m5,aa5,ix,hlt,hb,c,e]
end
end My
namespace My
open PySem L2 Mn Dn
noncomputable def go (rooms:List (List Int)):List Int→List Int→List Int
  | as,[]=>as
  | as,x::s=>go rooms (gone rooms as x) s
noncomputable def arv (rooms:List (List Int)) (d:Int):List Int→List Int→Nat
  | _,[]=>0
  | as,x::s=>(if led rooms as x=d then 1 else 0)+arv rooms d (gone rooms as x) s
noncomputable def us (rooms:List (List Int)) (as:List Int) (y d:Int):Nat→Nat
  | 0=>0
  | n+1=>us rooms as y d n+if (dr rooms y).getD ((ar as y+(n:Int)) % ((dr rooms y).length:Int)).toNat 0=d then 1 else 0
noncomputable def InR (rooms:List (List Int)) (s:List Int):Prop:=∀ x∈s,0≤x∧x < (rooms.length:Int)
theorem ada (rooms:List (List Int)):∀ (s t as:List Int),go rooms as (s++t)=go rooms (go rooms as s) t
  | [],t,as=>rfl
  | x::s,t,as=>ada rooms s t (gone rooms as x)
theorem ab2 (rooms:List (List Int)) (d:Int):∀ (s t as:List Int),arv rooms d as (s++t)=arv rooms d as s+arv rooms d (go rooms as s) t
  | [],t,as=>by simp [arv,go]
  | x::s,t,as=>by
    show (if led rooms as x=d then 1 else 0)+arv rooms d (gone rooms as x) (s++t)=(if led rooms as x=d then 1 else 0)+arv rooms d (gone rooms as x) s+arv rooms d (go rooms (gone rooms as x) s) t
    rw [ab2 rooms d s t]
    omega
theorem n8 (x y:Int) (s:List Int):(x::s).count y=s.count y+if x=y then 1 else 0:=by
  rw [List.count_cons]
  simp
theorem ai4 {a c w:Int} (hw:0 < w):((a+1) % w+c) % w=(a+(c+1)) % w:=by
  rw [Int.emod_add_emod]
  congr 1
  omega
theorem atp (rooms:List (List Int)) (as:List Int) (y d:Int) {m n:Nat} (h:m≤n):us rooms as y d m≤us rooms as y d n:=by
  induction n with
  | zero =>
    have:m=0:=by omega
    rw [this]
    exact Nat.le_refl _
  | succ n ih =>
    by_cases q:m=n+1
    · rw [q]; exact Nat.le_refl _
    · have:=ih (by omega)
      have e:us rooms as y d (n+1)=us rooms as y d n+if (dr rooms y).getD ((ar as y+(n:Int)) % ((dr rooms y).length:Int)).toNat 0=d then 1 else 0:=rfl
      omega
theorem alk (f g:Int→Nat):∀ l:List Int,(∀ x∈l,f x≤g x)→(l.map f).sum≤(l.map g).sum
  | [],_=>Nat.le_refl _
  | x::l,h=>by
    rw [List.map_cons,List.map_cons,List.sum_cons,List.sum_cons]
    have:=h x (List.mem_cons_self ..)
    have:=alk f g l fun y hy=>h y (List.mem_cons_of_mem _ hy)
    omega
theorem aha (f g:Int→Nat):∀ l:List Int,(∀ x∈l,f x=g x)→(l.map f).sum=(l.map g).sum
  | [],_=>rfl
  | x::l,h=>by
    rw [List.map_cons,List.map_cons,List.sum_cons,List.sum_cons,h x (List.mem_cons_self ..),aha f g l fun y hy=>h y (List.mem_cons_of_mem _ hy)]
theorem an6 (f g:Int→Nat) (x:Int) (k:Nat) (hx:f x=k+g x):∀ l:List Int,l.Nodup→x∈l→(∀ y∈l,y≠x→f y=g y)→(l.map f).sum=k+(l.map g).sum
  | [],_,h,_=>by cases h
  | y::l,hn,h,hs=>by
    obtain ⟨h1,h2⟩:=List.pairwise_cons.mp hn
    rw [List.map_cons,List.map_cons,List.sum_cons,List.sum_cons]
    by_cases e:y=x
    · subst e
      rw [hx,aha f g l fun z hz=>hs z (List.mem_cons_of_mem _ hz) fun q=>h1 z hz q.symm]
      omega
    · have hm:x∈l:=by
        rcases List.mem_cons.mp h with q | q
        · exact absurd q.symm e
        · exact q
      rw [hs y (List.mem_cons_self ..) e,an6 f g x k hx l h2 hm fun z hz=>hs z (List.mem_cons_of_mem _ hz)]
      omega
theorem amo (n:Nat):(upto n).Nodup:=by
  unfold upto
  rw [List.Nodup,List.pairwise_map]
  exact List.Pairwise.imp (fun {a b} hab=>by omega) List.pairwise_lt_range
theorem aqw {n:Nat} {x:Int} (h0:0≤x) (h1:x < (n:Int)):x∈upto n:=by
  unfold upto
  exact List.mem_map.mpr ⟨x.toNat,List.mem_range.mpr (by omega),by omega⟩
section
variable {rooms:List (List Int)} (h:Hs rooms)
include h
theorem apc:∀ (s:List Int) {as:List Int},Arr rooms as→InR rooms s→Arr rooms (go rooms as s)
  | [],_,ha,_=>ha
  | x::s,as,ha,hs=>apc s (ac9 h ha (hs x (List.mem_cons_self ..)).1 (hs x (List.mem_cons_self ..)).2) fun y hy=>hs y (List.mem_cons_of_mem _ hy)
theorem awe {y:Int} (y0:0≤y) (y1:y < (rooms.length:Int)):∀ (s:List Int) {as:List Int},Arr rooms as→InR rooms s→ar (go rooms as s) y=(ar as y+(s.count y:Int)) % ((dr rooms y).length:Int)
  | [],as,ha,_=>by
    have a:=ha.at y0 y1
    show ar as y=(ar as y+0) % _
    rw [Int.add_zero,Int.emod_eq_of_lt a.1 a.2]
  | x::s,as,ha,hs=>by
    have hx:=hs x (List.mem_cons_self ..)
    have hd:=(h.dr y0 y1).1
    have hal:=ha.len
    have ih:=awe y0 y1 s (ac9 h ha hx.1 hx.2) fun z hz=>hs z (List.mem_cons_of_mem _ hz)
    show ar (go rooms (gone rooms as x) s) y=_
    rw [ih,n8]
    by_cases e:x=y
    · subst e
      rw [v9 (by omega),if_pos rfl,ai4 (by omega),Int.natCast_add]
      rfl
    · rw [ab3 y0 hx.1 (Ne.symm e),if_neg e]
      rfl
theorem awq {as:List Int} {x y d:Int} (x0:0≤x) (y0:0≤y) (e:y≠x):∀ n,us rooms (gone rooms as x) y d n=us rooms as y d n
  | 0=>rfl
  | n+1=>by
    unfold us
    rw [awq x0 y0 e n,ab3 y0 x0 e]
theorem anx {as:List Int} (ha:Arr rooms as) {x d:Int} (x0:0≤x) (x1:x < (rooms.length:Int)):∀ n,us rooms as x d (n+1)=(if led rooms as x=d then 1 else 0)+us rooms (gone rooms as x) x d n
  | 0=>by
    have a:=ha.at x0 x1
    show 0+(if (dr rooms x).getD ((ar as x+0) % ((dr rooms x).length:Int)).toNat 0=d then 1 else 0)=_+0
    rw [Int.add_zero,Int.emod_eq_of_lt a.1 a.2]
    unfold led
    omega
  | n+1=>by
    have ih:=anx ha (d:=d) x0 x1 n
    have hd:=(h.dr x0 x1).1
    have hal:=ha.len
    have e1:us rooms as x d (n+2)=us rooms as x d (n+1)+if (dr rooms x).getD ((ar as x+((n+1:Nat):Int)) % ((dr rooms x).length:Int)).toNat 0=d then 1 else 0:=rfl
    have e2:us rooms (gone rooms as x) x d (n+1)=us rooms (gone rooms as x) x d n+if (dr rooms x).getD ((ar (gone rooms as x) x+(n:Int)) % ((dr rooms x).length:Int)).toNat 0=d then 1 else 0:=rfl
    rw [e1,e2,ih,v9 (by omega),ai4 (by omega),Int.natCast_add]
    show _+_+(if (dr rooms x).getD ((ar as x+((n:Int)+1)) % ((dr rooms x).length:Int)).toNat 0=d then 1 else 0)=_
    omega
theorem aqh (d:Int):∀ (s:List Int) {as:List Int},Arr rooms as→InR rooms s→arv rooms d as s=((upto rooms.length).map fun y=>us rooms as y d (s.count y)).sum
  | [],as,_,_=>by
    show 0=_
    symm
    rw [aha (fun y=>us rooms as y d (([]:List Int).count y)) (fun _=>0) _ fun x _=>rfl]
    generalize upto rooms.length=l
    induction l with
    | nil=>rfl
    | cons x l ih=>rw [List.map_cons,List.sum_cons,ih]
  | x::s,as,ha,hs=>by
    have hx:=hs x (List.mem_cons_self ..)
    have ih:=aqh d s (ac9 h ha hx.1 hx.2) fun z hz=>hs z (List.mem_cons_of_mem _ hz)
    show (if led rooms as x=d then 1 else 0)+arv rooms d (gone rooms as x) s=_
    rw [ih]
    symm
    refine an6 _ _ x _ ?_ _ (amo _) (aqw hx.1 hx.2) fun y hy e => ?_
    · show us rooms as x d ((x::s).count x)=_
      rw [n8,if_pos rfl,anx h ha hx.1 hx.2]
    · show us rooms as y d ((x::s).count y)=us rooms (gone rooms as x) y d (s.count y)
      rw [n8,if_neg (Ne.symm e),awq h hx.1 (ji hy).1 e]
      rfl
theorem azn {as s t:List Int} (ha:Arr rooms as) (hs:InR rooms s) (ht:InR rooms t) (hc:∀ y,0≤y→y < (rooms.length:Int)→s.count y≤t.count y) (d:Int):arv rooms d as s≤arv rooms d as t:=by
  rw [aqh h d s ha hs,aqh h d t ha ht]
  exact alk _ _ _ fun y hy=>atp _ _ _ _ (hc y (ji hy).1 (ji hy).2)
end
noncomputable def Lg (rooms:List (List Int)) (as:List Int) (w:Int→Nat) (s:List Int):Prop:=∀ p x q,s=p++x::q→(0≤x∧x < (rooms.length:Int))∧p.count x < w x+arv rooms x as p
noncomputable def Stb (rooms:List (List Int)) (as:List Int) (w:Int→Nat) (s:List Int):Prop:=∀ x,0≤x→x < (rooms.length:Int)→s.count x=w x+arv rooms x as s
theorem Lg.inR {rooms:List (List Int)} {as:List Int} {w:Int→Nat} {s:List Int} (l:Lg rooms as w s):InR rooms s:=fun x hx=>by
  obtain ⟨p,q,e⟩:=List.append_of_mem hx
  exact (l p x q e).1
theorem InR.count {rooms:List (List Int)} {s:List Int} (hs:InR rooms s) {x:Int} (hx:¬(0≤x∧x < (rooms.length:Int))):s.count x=0:=List.count_eq_zero.mpr fun q=>hx (hs x q)
theorem InR.append {rooms:List (List Int)} {s t:List Int} (hs:InR rooms s) (ht:InR rooms t):InR rooms (s++t):=fun x hx=>(List.mem_append.mp hx).elim (hs x) (ht x)
section
variable {rooms:List (List Int)} (h:Hs rooms) {as:List Int} (ha:Arr rooms as) {w:Int→Nat}
include h ha
theorem aja {s t:List Int} (hs:Lg rooms as w s) (ht:InR rooms t) (hst:∀ x,0≤x→x < (rooms.length:Int)→w x+arv rooms x as t≤t.count x) (x:Int):s.count x≤t.count x:=by
  have claim:∀ k,k≤s.length→∀ x,(s.take k).count x≤t.count x:=fun k=>by
    induction k with
    | zero=>intro _ x; simp
    | succ k ih =>
      intro hk x
      have hk':k < s.length:=by omega
      have e:s.take (k+1)=s.take k++[s[k]]:=by rw [List.take_succ,List.getElem?_eq_getElem hk']; rfl
      have es:s=s.take k++s[k]::s.drop (k+1):=by
        rw [←List.drop_eq_getElem_cons hk',List.take_append_drop]
      obtain ⟨b,l⟩:=hs _ _ _ es
      have ih:=ih (by omega)
      rw [e,List.count_append,n8]
      by_cases q:s[k]=x
      · rw [if_pos q]
        have hin:InR rooms (s.take k):=fun z hz=>hs.inR z (List.mem_of_mem_take hz)
        have m:=azn h ha hin ht (fun y _ _=>ih y) s[k]
        have z:=hst _ b.1 b.2
        rw [←q]
        simp
        omega
      · rw [if_neg q]
        have:=ih x
        simp
        exact this
  have:=claim s.length (Nat.le_refl _) x
  rwa [List.take_length] at this
theorem abel {s t:List Int} (hs:Lg rooms as w s) (ss:Stb rooms as w s) (ht:Lg rooms as w t) (st:Stb rooms as w t) (x:Int):s.count x=t.count x :=
  Nat.le_antisymm (aja h ha hs ht.inR (fun x a b=>Nat.le_of_eq (st x a b).symm) x) (aja h ha ht hs.inR (fun x a b=>Nat.le_of_eq (ss x a b).symm) x)
theorem go_same {s t:List Int} (hs:InR rooms s) (ht:InR rooms t) (hc:∀ x,s.count x=t.count x):go rooms as s=go rooms as t:=by
  have l1:=(apc h s ha hs).len
  have l2:=(apc h t ha ht).len
  apply List.ext_getElem?
  intro i
  by_cases hi:i < rooms.length
  · have e1:=awe h (y:=(i:Int)) (by omega) (by omega) s ha hs
    have e2:=awe h (y:=(i:Int)) (by omega) (by omega) t ha ht
    rw [hc,←e2] at e1
    unfold ar at e1
    rw [show ((i:Nat):Int).toNat=i by omega,List.getD_eq_getElem?_getD,List.getD_eq_getElem?_getD,List.getElem?_eq_getElem (by omega),List.getElem?_eq_getElem (by omega)] at e1
    rw [List.getElem?_eq_getElem (by omega),List.getElem?_eq_getElem (by omega)]
    exact congrArg some e1
  · rw [List.getElem?_eq_none (by omega),List.getElem?_eq_none (by omega)]
theorem Lg.append {w2:Int→Nat} {s t:List Int} (hs:Lg rooms as w s) (ss:Stb rooms as w s) (ht:Lg rooms (go rooms as s) w2 t):Lg rooms as (fun x=>w x+w2 x) (s++t):=fun p x q e=>by
  rcases List.append_eq_append_iff.mp e with ⟨r,e1,e2⟩ | ⟨r,e1,e2⟩
  · -- the beginning is longer than s
    obtain ⟨b,l⟩:=ht r x q e2
    have z:=ss x b.1 b.2
    refine ⟨b,?_⟩
    rw [e1,List.count_append,ab2]
    show s.count x+r.count x < w x+w2 x+_
    omega
  · cases r with
    | nil =>
      rw [List.nil_append] at e2
      obtain ⟨b,l⟩:=ht [] x q (by rw [List.nil_append]; exact e2.symm)
      rw [List.append_nil] at e1
      have z:=ss x b.1 b.2
      refine ⟨b,?_⟩
      rw [←e1]
      have l:([]:List Int).count x < w2 x+0:=l
      simp at l
      show s.count x < w x+w2 x+arv rooms x as s
      omega
    | cons y r =>
      rw [List.cons_append,List.cons.injEq] at e2
      obtain ⟨rfl,e2⟩:=e2
      obtain ⟨b,l⟩:=hs p x r e1
      refine ⟨b,?_⟩
      show p.count x < w x+w2 x+_
      omega
omit h ha in
theorem Stb.append {w2:Int→Nat} {s t:List Int} (ss:Stb rooms as w s) (st:Stb rooms (go rooms as s) w2 t):Stb rooms as (fun x=>w x+w2 x) (s++t):=fun x x0 x1=>by
  have a:=ss x x0 x1
  have b:=st x x0 x1
  rw [List.count_append,ab2]
  show _=w x+w2 x+_
  omega
end
end My
namespace My
open PySem L2 Mn Dn
theorem alh (rooms:List (List Int)) (as:List Int) (k:Int) (t:Nat):vis rooms as k (t+1)=vis rooms as k t++[(run rooms as k t).2]:=by
  unfold vis
  rw [List.range_succ,List.map_append]
  rfl
theorem ajf (rooms:List (List Int)) (as:List Int) (k:Int):∀ t,go rooms as (vis rooms as k t)=(run rooms as k t).1
  | 0=>rfl
  | t+1=>by
    rw [alh,ada,ajf rooms as k t]
    rfl
theorem aj6 (rooms:List (List Int)) (as:List Int) (k d:Int):∀ t,(vis rooms as k t).count d+(if (run rooms as k t).2=d then 1 else 0)=(if k=d then 1 else 0)+arv rooms d as (vis rooms as k t)
  | 0=>by
    show 0+(if k=d then 1 else 0)=(if k=d then 1 else 0)+0
    omega
  | t+1=>by
    have ih:=aj6 rooms as k d t
    rw [alh,List.count_append,ab2,ajf,n8]
    show (vis rooms as k t).count d+(([]:List Int).count d+(if (run rooms as k t).2=d then 1 else 0))+(if led rooms (run rooms as k t).1 (run rooms as k t).2=d then 1 else 0)=(if k=d then 1 else 0)+(arv rooms d as (vis rooms as k t)+((if led rooms (run rooms as k t).1 (run rooms as k t).2=d then 1 else 0)+0))
    have z:([]:List Int).count d=0:=rfl
    omega
noncomputable def at1 (k:Int):Int→Nat:=fun x=>if k=x then 1 else 0
section
variable {rooms:List (List Int)} (h:Hs rooms) {as:List Int} (ha:Arr rooms as) {k:Int} (h0:0≤k) (h1:k < (rooms.length:Int)) {T:Nat} (hp:∀ i < T,0≤(run rooms as k i).2)
include h ha h0 h1 hp
theorem anv:Lg rooms as (at1 k) (vis rooms as k T):=fun p x q e=>by
  have hl:(vis rooms as k T).length=T:=by simp [vis]
  have hpl:p.length < T:=by
    rw [←hl,e,List.length_append,List.length_cons]
    omega
  have ep:p=vis rooms as k p.length:=by
    have:(vis rooms as k T).take p.length=p:=by rw [e]; exact List.take_left' rfl
    have e2:(vis rooms as k T).take p.length=vis rooms as k p.length:=by
      unfold vis
      rw [←List.map_take,List.take_range,Nat.min_eq_left (by omega)]
    rw [←e2,this]
  have ex:x=(run rooms as k p.length).2:=by
    have:(vis rooms as k T)[p.length]? = some x:=by rw [e,List.getElem?_append_right (Nat.le_refl _),Nat.sub_self]; rfl
    unfold vis at this
    rw [List.getElem?_map,List.getElem?_range hpl] at this
    exact (Option.some.inj this).symm
  have p0:=hp _ hpl
  have p1:=(xu h ha h0 h1 p.length fun j hj=>hp j (by omega)).2.2
  have b:=aj6 rooms as k x p.length
  rw [←ep,←ex,if_pos rfl] at b
  refine ⟨by rw [ex]; exact ⟨p0,p1⟩,?_⟩
  show p.count x < (if k=x then 1 else 0)+_
  omega
omit h ha h0 h1 hp in
theorem anu (hn:(run rooms as k T).2 < 0):Stb rooms as (at1 k) (vis rooms as k T):=fun x x0 x1=>by
  have b:=aj6 rooms as k x T
  rw [if_neg (by omega)] at b
  exact b
end
inductive Led (rooms:List (List Int)):List Int→List Int→List Int→Prop
  | nil (as:List Int):Led rooms as [] []
  | cons {as:List Int} {k:Int} {T:Nat} {rs s:List Int} (h0:0≤k) (h1:k < (rooms.length:Int)) (hp:∀ i < T,0≤(run rooms as k i).2) (hn:(run rooms as k T).2 < 0) (t:Led rooms (run rooms as k T).1 rs s):Led rooms as (k::rs) (vis rooms as k T++s)
theorem Led.ok {rooms:List (List Int)} (h:Hs rooms) {as rs s:List Int} (l:Led rooms as rs s):Arr rooms as→Lg rooms as (fun x=>rs.count x) s∧Stb rooms as (fun x=>rs.count x) s:=by
  induction l with
  | nil as =>
    intro _
    exact ⟨fun p x q e=>by simp at e,fun x _ _=>rfl⟩
  | @cons as k T rs s h0 h1 hp hn t ih =>
    intro ha
    obtain ⟨l1,l2⟩:=ih (xu h ha h0 h1 T hp).1
    rw [←ajf] at l1 l2
    have a1:=(anv h ha h0 h1 hp).append h ha (anu hn) l1
    have a2:=(anu hn).append l2
    have e:(fun x=>at1 k x+rs.count x)=fun x=>(k::rs).count x:=by
      funext x
      rw [n8]
      unfold at1
      omega
    rw [e] at a1 a2
    exact ⟨a1,a2⟩
theorem Led.same {rooms:List (List Int)} (h:Hs rooms) {as rs s rs' s':List Int} (l:Led rooms as rs s) (l':Led rooms as rs' s') (ha:Arr rooms as) (hc:∀ x,rs.count x=rs'.count x):(∀ x,s.count x=s'.count x)∧go rooms as s=go rooms as s':=by
  obtain ⟨a1,a2⟩:=l.ok h ha
  obtain ⟨b1,b2⟩:=l'.ok h ha
  have e:(fun x=>rs.count x)=fun x=>rs'.count x:=funext hc
  rw [e] at a1 a2
  have c:=abel h ha a1 a2 b1 b2
  exact ⟨c,go_same h ha a1.inR b1.inR c⟩
noncomputable def tal (n:Nat) (s:List Int):List Int:=(List.range n).map fun i=>((s.count ((i:Nat):Int):Nat):Int)
theorem rm (n:Nat) (s:List Int):(tal n s).length=n:=by simp [tal]
theorem aj8 (n:Nat):tal n []=List.replicate n 0:=by
  apply List.ext_getElem?
  intro i
  by_cases hi:i < n
  · simp [tal,hi]
  · simp [tal,hi]
theorem ag8 {n:Nat} {s t:List Int} (h:∀ x,s.count x=t.count x):tal n s=tal n t:=by
  unfold tal
  simp only [h]
theorem adq {n:Nat} (s:List Int) {i:Nat} (hi:i < n):(tal n s)[i]? = some ((s.count ((i:Nat):Int):Nat):Int):=by
  unfold tal
  rw [List.getElem?_map,List.getElem?_range hi]
  rfl
theorem asv {n:Nat} {s:List Int} {x:Int} (x0:0≤x) (x1:x < (n:Int)):bump (tal n s) x=tal n (s++[x]):=by
  apply List.ext_getElem?
  intro i
  unfold bump
  by_cases hi:i < n
  · rw [adq _ hi,List.getElem?_set,rm,List.count_append,n8]
    by_cases q:x.toNat=i
    · rw [if_pos q,if_pos (by omega),List.getD_eq_getElem?_getD,adq _ (by omega),if_pos (by omega)]
      have:((x.toNat:Nat):Int)=x:=by omega
      have e:x=((i:Nat):Int):=by omega
      subst e
      simp
    · rw [if_neg q,adq _ hi,if_neg (by omega)]
      simp
  · rw [List.getElem?_eq_none (by rw [List.length_set,rm]; omega),List.getElem?_eq_none (by rw [rm]; omega)]
theorem agb {n:Nat}:∀ (v s:List Int),(∀ x∈v,0≤x∧x < (n:Int))→v.foldl bump (tal n s)=tal n (s++v)
  | [],s,_=>by simp
  | x::v,s,hv=>by
    have hx:=hv x (List.mem_cons_self ..)
    rw [List.foldl_cons,asv hx.1 hx.2,agb v _ fun y hy=>hv y (List.mem_cons_of_mem _ hy)]
    simp
end My
namespace My
open PySem L2 Mn Dn
noncomputable def gdB (R:List Int) (d:Int):Bool:=decide (d < 0)||decide (d∈R)
noncomputable def gdL (R D:List Int):List Int:=((List.range D.length).filter fun i=>gdB R (D.getD i 0)).map fun (i:Nat)=>(i:Int)
theorem ako {R D:List Int} {x:Int}:x∈gdL R D↔0≤x∧x < (D.length:Int)∧gdB R (D.getD x.toNat 0)=true:=by
  unfold gdL
  constructor
  · intro hx
    obtain ⟨i,hi,rfl⟩:=List.mem_map.mp hx
    obtain ⟨h1,h2⟩:=List.mem_filter.mp hi
    have:=List.mem_range.mp h1
    exact ⟨by omega,by omega,by rw [Int.toNat_natCast]; exact h2⟩
  · rintro ⟨h0,h1,h2⟩
    exact List.mem_map.mpr ⟨x.toNat,List.mem_filter.mpr ⟨List.mem_range.mpr (by omega),h2⟩,by omega⟩
structure Fr (rooms:List (List Int)) (R F:List Int):Prop where
  arr:Arr rooms F
  nd:R.Nodup
  inn:∀ x∈R,0≤x∧x < (rooms.length:Int)
  ord:∀ (i:Nat) (x:Int),R[i]? = some x→gdB (R.take i) (ql rooms F x)=true
theorem ar8 {R R':List Int} (hs:∀ x∈R,x∈R') {d:Int} (h:gdB R d=true):gdB R' d=true:=by
  unfold gdB at *
  rw [Bool.or_eq_true,decide_eq_true_eq,decide_eq_true_eq] at *
  exact h.imp id (hs d)
section
variable {rooms:List (List Int)} (h:Hs rooms) {R F:List Int} (fr:Fr rooms R F)
include h fr
theorem Fr.len:R.length≤rooms.length:=aad _ _ fr.nd fr.inn
theorem Fr.out:∀ (i:Nat) (x:Int),R[i]? = some x→∃ z,Rch (lp (lasts rooms F)) x z∧z < 0:=fun i=>by
  induction i using Nat.strongRecOn with
  | _ i ih =>
    intro x hx
    have hin:=fr.inn x (List.mem_of_getElem? hx)
    have ho:=fr.ord i x hx
    have hd:ql rooms F x∈dr (lp (lasts rooms F)) x:=by
      rw [ak8 hin.1 (by rw [b7]; exact hin.2),List.mem_singleton,List.getD_eq_getElem?_getD,abg (by omega)]
      show ql rooms F x=ql rooms F ((x.toNat:Nat):Int)
      rw [show ((x.toNat:Nat):Int)=x by omega]
    unfold gdB at ho
    rw [Bool.or_eq_true,decide_eq_true_eq,decide_eq_true_eq] at ho
    rcases ho with q | q
    · exact ⟨_,.step .base hin.1 hd,q⟩
    · obtain ⟨j,hj,e⟩:=List.mem_iff_getElem.mp q
      have hj':j < i:=by rw [List.length_take] at hj; omega
      rw [List.getElem_take] at e
      obtain ⟨z,hz,zn⟩:=ih j hj' (ql rooms F x) (by rw [←e]; exact List.getElem?_eq_getElem _)
      exact ⟨z,ahm hin.1 hd hz,zn⟩
theorem Fr.free (hl:¬R.length < rooms.length):gf (lp (lasts rooms F))=[]:=by
  unfold gf
  refine List.filter_eq_nil_iff.mpr fun x hx hc => ?_
  rw [aa4,b7] at hx
  have hx':=ji hx
  have hle:=Fr.len h fr
  have hin:x∈R:=by
    apply Classical.byContradiction
    intro hn
    have:=aad rooms.length (x::R) (List.Pairwise.cons (fun a ha e=>hn (e▸ha)) fr.nd) fun a ha=>by
      rcases List.mem_cons.mp ha with rfl | ha
      · exact hx'
      · exact fr.inn a ha
    rw [List.length_cons] at this
    omega
  obtain ⟨i,hi,e⟩:=List.mem_iff_getElem.mp hin
  obtain ⟨z,hz,zn⟩:=Fr.out h fr i x (by rw [←e]; exact List.getElem?_eq_getElem hi)
  have:=(gk _ _).mp hc z hz
  omega
omit fr in
theorem ai3 (hop:gf rooms=[]) (hl:R.length < rooms.length):∃ y,0≤y∧y < (rooms.length:Int)∧y∉R∧∃ d∈dr rooms y,gdB R d=true:=by
  apply Classical.byContradiction
  intro H
  have hy:∃ y:Int,0≤y∧y < (rooms.length:Int)∧y∉R:=by
    apply Classical.byContradiction
    intro H2
    have:=afm (a:=(List.range rooms.length).map fun (i:Nat)=>(i:Int)) (b:=R) (by
      rw [List.Nodup,List.pairwise_map]
      exact List.Pairwise.imp (fun {a b} hab=>by omega) List.pairwise_lt_range) fun x hx=>by
      obtain ⟨i,hi,rfl⟩:=List.mem_map.mp hx
      have:=List.mem_range.mp hi
      apply Classical.byContradiction
      intro hn
      exact H2 ⟨(i:Int),by omega,by omega,hn⟩
    rw [List.length_map,List.length_range] at this
    omega
  obtain ⟨y,y0,y1,yn⟩:=hy
  have all:∀ z,Rch rooms y z→0≤z∧z < (rooms.length:Int)∧z∉R:=fun z hz=>by
    induction hz with
    | base=>exact ⟨y0,y1,yn⟩
    | @step x d r _ hd ih =>
      have hb:=(h.dr ih.1 ih.2.1).2.2 d hd
      have hg:gdB R d≠true:=fun g=>H ⟨x,ih.1,ih.2.1,ih.2.2,d,hd,g⟩
      unfold gdB at hg
      rw [Ne,Bool.or_eq_true,decide_eq_true_eq,decide_eq_true_eq] at hg
      exact ⟨by
        rcases Int.lt_or_le d 0 with q | q
        · exact absurd (.inl q) hg
        · exact q,hb.2,fun q=>hg (.inr q)⟩
  have:y∈gf rooms:=List.mem_filter.mpr ⟨by
    unfold upto
    exact List.mem_map.mpr ⟨y.toNat,List.mem_range.mpr (by omega),by omega⟩,(gk rooms y).mpr fun z hz=>(all z hz).1⟩
  rw [hop] at this
  cases this
theorem Fr.next (hop:gf rooms=[]) (hl:R.length < rooms.length):∃ y,0≤y∧y < (rooms.length:Int)∧y∉R∧∃ d∈dr rooms y,gdB R d=true:=ai3 h hop hl
theorem Fr.add {x v:Int} (x0:0≤x) (x1:x < (rooms.length:Int)) (xn:x∉R) (v0:0≤v) (v1:v < ((dr rooms x).length:Int)) (hg:gdB R ((dr rooms x).getD ((v - 1) % ((dr rooms x).length:Int)).toNat 0)=true):Fr rooms (R++[x]) (F.set x.toNat v):=by
  have hFl:=fr.arr.len
  have arx:ar (F.set x.toNat v) x=v:=by
    unfold ar
    rw [List.getD_eq_getElem?_getD,List.getElem?_set,if_pos rfl,if_pos (by omega)]
    rfl
  have arn:∀ y:Int,0≤y→y≠x→ar (F.set x.toNat v) y=ar F y:=fun y y0 yx=>by
    unfold ar
    rw [List.getD_eq_getElem?_getD,List.getElem?_set,if_neg (by omega),←List.getD_eq_getElem?_getD]
  refine ⟨⟨by rw [List.length_set]; exact hFl,fun i a r g1 g2 => ?_⟩,?_,fun y hy => ?_,fun i y hy => ?_⟩
  · rw [List.getElem?_set] at g1
    split at g1
    · rename_i hi
      split at g1
      · cases g1
        have:dr rooms x=r:=by unfold dr; rw [List.getD_eq_getElem?_getD,hi,g2]; rfl
        rw [←this]
        exact ⟨v0,v1⟩
      · cases g1
    · exact fr.arr.ok i a r g1 g2
  · rw [List.nodup_append]
    refine ⟨fr.nd,by simp,fun a ha b hb e => ?_⟩
    rw [List.mem_singleton] at hb
    rw [e,hb] at ha
    exact xn ha
  · rcases List.mem_append.mp hy with q | q
    · exact fr.inn y q
    · rw [List.mem_singleton] at q
      rw [q]
      exact ⟨x0,x1⟩
  · rcases Nat.lt_or_ge i R.length with q | q
    · rw [List.getElem?_append_left q] at hy
      have hyR:=List.mem_of_getElem? hy
      have hin:=fr.inn y hyR
      have hne:y≠x:=fun e=>xn (e▸hyR)
      have ho:=fr.ord i y hy
      have e1:ql rooms (F.set x.toNat v) y=ql rooms F y:=by unfold ql; rw [arn y hin.1 hne]
      rw [e1,List.take_append_of_le_length (by omega)]
      exact ho
    · have hi:i=R.length:=by
        have:=(List.getElem?_eq_some_iff.mp hy).1
        rw [List.length_append] at this
        simp at this
        omega
      subst hi
      rw [List.getElem?_append_right (Nat.le_refl _),Nat.sub_self] at hy
      have hyx:x=y:=by simpa using hy
      subst hyx
      have e1:ql rooms (F.set x.toNat v) x=(dr rooms x).getD ((v - 1) % ((dr rooms x).length:Int)).toNat 0:=by unfold ql wd; rw [arx]
      rw [e1,List.take_left']
      · exact hg
      · rfl
end
end My
namespace My
open PySem L2 Mn Dn
section
variable {rooms:List (List Int)} (h:Hs rooms)
include h
theorem apa {x:Int} (x0:0≤x) (x1:x < (rooms.length:Int)) (R:List Int):∃ o1 o2,compD (bTup 2 (j6 (cz 0) (j6 (cz 1) bNil))) qj w6 (ad7 ((dr rooms x).map D.int)) [] [.emp,.emp,.own (some 2) (R.map D.int)]=some (.ok ((gdL R (dr rooms x)).map D.int),[o1,o2,.own (some 2) (R.map D.int)]):=by
  have comp:=uo (b:=bTup 2 (j6 (cz 0) (j6 (cz 1) bNil))) (mc:=qj) (me:=w6) (fun j ys ρ=>∃ o1 o2:Sl,ρ=[o1,o2,.own (some 2) (R.map D.int)]∧ys=(((List.range j).filter fun i=>gdB R ((dr rooms x).getD i 0)).map fun (i:Nat)=>(i:Int)).map D.int)
    (l:=ad7 ((dr rooms x).map D.int)) (ys:=[]) (ρ:=[.emp,.emp,.own (some 2) (R.map D.int)]) 0 ⟨.emp,.emp,rfl,rfl⟩ ?_
  · obtain ⟨ys,ρ',e6,o1,o2,rfl,rfl⟩:=comp
    rw [abl,List.length_map,Nat.zero_add] at e6
    exact ⟨o1,o2,e6⟩
  · rintro j d ys ρ hd ⟨o1,o2,rfl,rfl⟩
    obtain ⟨d0,g1,rfl⟩:=adh hd
    rw [List.getElem?_map] at g1
    obtain ⟨y,ey,rfl⟩:=Option.map_eq_some_iff.mp g1
    have ey2:(dr rooms x).getD j 0=y:=by rw [List.getD_eq_getElem?_getD,ey]; rfl
    have e2:=ad1 false y R
    have ec:qj [.val (.int (j:Int)),.val (.int y),.own (some 2) (R.map D.int)]=some (.ok (gdB R y),[.val (.int (j:Int)),.val (.int y),.own (some 2) (R.map D.int)]):=by
      unfold gdB
      generalize hb:decide (y∈R)=b at *
      generalize R.map D.int=SS at *
      by_cases q:y < 0
      · simp [qj,q]
      · cases b <;> simp [qj,q,e2]
    rw [Nat.zero_add,List.range_succ,List.filter_append,List.map_append,List.map_append]
    cases hg:gdB R y with
    | false =>
      rw [hg] at ec
      refine ⟨[.val (.int (j:Int)),.val (.int y),.own (some 2) (R.map D.int)],_,false,by simp,ec,.inl ⟨rfl,_,_,rfl,?_⟩⟩
      simp [List.filter_cons,ey,hg]
    | true =>
      rw [hg] at ec
      refine ⟨[.val (.int (j:Int)),.val (.int y),.own (some 2) (R.map D.int)],_,true,by simp,ec,.inr ⟨rfl,.int (j:Int),[.val (.int (j:Int)),.val (.int y),.own (some 2) (R.map D.int)],by simp [w6],_,_,rfl,?_⟩⟩
      simp [List.filter_cons,ey,hg]
theorem anf (P:Int×Int) (la:D) {R F:List Int} (fr:Fr rooms R F) {x:Int} (x0:0≤x) (x1:x < (rooms.length:Int)) (xn:x∉R) (o6 o7:Sl) :
    ∃ (P':Int×Int) (R' F':List Int) (q6 q7:Sl),qe [.own (some 0) (pen P),.val (hD rooms),.val la,.own none (R.map D.int),.own none (F.map D.int),.val (.int x),o6,o7]=some (.nx,[.own (some 0) (pen P'),.val (hD rooms),.val la,.own none (R'.map D.int),.own none (F'.map D.int),.val (.int x),q6,q7])∧Fr rooms R' F'∧(R'=R∨R'=R++[x])∧((∃ d∈dr rooms x,gdB R d=true)→R'=R++[x]):=by
  have hm:=h.most
  obtain ⟨w1,w2,w3⟩:=h.dr x0 x1
  obtain ⟨o1,o2,e1⟩:=apa h x0 x1 R
  have e0:=aea x0 x1
  have hlen:=Fr.len h fr
  have hgl:(gdL R (dr rooms x)).length≤6:=by
    unfold gdL
    rw [List.length_map]
    exact Nat.le_trans (List.length_filter_le _ _) (by rw [List.length_range]; omega)
  have hc:((gdL R (dr rooms x)).map D.int).length≤capS:=by rw [List.length_map]; exact b8 (by omega)
  have hdl:((dr rooms x).map D.int).length=(dr rooms x).length:=List.length_map ..
  by_cases hne:gdL R (dr rooms x)=[]
  · refine ⟨P,R,F,.val (.tup ((dr rooms x).map D.int)),.own none [],?_,fr,.inl rfl,fun ⟨d,hd,hg⟩ => ?_⟩
    · rw [hne,List.map_nil] at e1
      have z:gEq true (.lst []) (.lst [])=some (.v (.bl false)):=by kernel_rfl
      generalize (dr rooms x).map D.int=DD at *
      generalize R.map D.int=RR at *
      generalize F.map D.int=FF at *
      simp only [hD] at *
      generalize hDs rooms=hh at *
      simp [qe,e0,e1,z]
    · exfalso
      obtain ⟨i,hi,e⟩:=List.mem_iff_getElem.mp hd
      have:(i:Int)∈gdL R (dr rooms x):=ako.mpr ⟨by omega,by omega,by
        rw [Int.toNat_natCast,List.getD_eq_getElem?_getD,List.getElem?_eq_getElem hi]
        show gdB R (dr rooms x)[i]=true
        rw [e]
        exact hg⟩
      rw [hne] at this
      cases this
  · have hz:gEq true (.lst ((gdL R (dr rooms x)).map D.int)) (.lst [])=some (.v (.bl true)):=by
      have:=al9 true (gdL R (dr rooms x)) []
      rw [decide_eq_false hne] at this
      exact this
    have ra:=fr.arr.at x0 x1
    have e2:=ae0 h fr.arr x0 x1
    have e3:=adf h fr.arr x0 x1 (ar F x - 1)
    have w0:(0:Int) < ((dr rooms x).length:Int):=by omega
    have m0:=Int.emod_nonneg (ar F x - 1) (show ((dr rooms x).length:Int)≠0 by omega)
    have m1:=Int.emod_lt_of_pos (ar F x - 1) w0
    have e4:=ad1 true ((ar F x - 1) % ((dr rooms x).length:Int)) (gdL R (dr rooms x))
    have hcR:(R.map D.int).length < capS:=by rw [List.length_map]; unfold capS; omega
    by_cases hin:(ar F x - 1) % ((dr rooms x).length:Int)∈gdL R (dr rooms x)
    · have hset:F.set x.toNat (ar F x)=F:=by
        have hFl:=fr.arr.len
        apply List.ext_getElem?
        intro i
        rw [List.getElem?_set]
        by_cases q:x.toNat=i
        · have hk:i < F.length:=by omega
          rw [if_pos q,if_pos (by omega),List.getElem?_eq_getElem hk]
          unfold ar
          rw [q,List.getD_eq_getElem?_getD,List.getElem?_eq_getElem hk]
          rfl
        · rw [if_neg q]
      have fr':=Fr.add h fr x0 x1 xn ra.1 ra.2 (ako.mp hin).2.2
      rw [hset] at fr'
      refine ⟨P,R++[x],F,.val (.tup ((dr rooms x).map D.int)),.own none ((gdL R (dr rooms x)).map D.int),?_,fr',.inr rfl,fun _=>rfl⟩
      rw [decide_eq_true hin] at e4
      rw [List.map_append]
      generalize (ar F x - 1) % ((dr rooms x).length:Int)=mo at *
      generalize (gdL R (dr rooms x)).map D.int=GG at *
      generalize (dr rooms x).length=dn at *
      generalize (dr rooms x).map D.int=DD at *
      generalize R.map D.int=RR at *
      generalize F.map D.int=FF at *
      simp only [hD] at *
      generalize hDs rooms=hh at *
      simp [qe,e0,e1,hc,hz,e2,hdl,e3,e4,hcR]
    · have hgp:1≤(gdL R (dr rooms x)).length:=List.length_pos_iff.mpr hne
      obtain ⟨r,P1,e5,ra0,ra1⟩:=qw P ((gdL R (dr rooms x)).length:Int) (by omega) (by omega)
      have e6:=xf (ns:=gdL R (dr rooms x)) ra0 ra1
      have hgm:(gdL R (dr rooms x)).getD r.toNat 0∈gdL R (dr rooms x):=by
        have hk:r.toNat < (gdL R (dr rooms x)).length:=by omega
        rw [List.getD_eq_getElem?_getD,List.getElem?_eq_getElem hk]
        exact List.getElem_mem hk
      generalize (gdL R (dr rooms x)).getD r.toNat 0=gg at *
      obtain ⟨g0,g1,g2⟩:=ako.mp hgm
      have e7:=adf h fr.arr x0 x1 (gg+1)
      have n0:=Int.emod_nonneg (gg+1) (show ((dr rooms x).length:Int)≠0 by omega)
      have n1:=Int.emod_lt_of_pos (gg+1) w0
      have fr':=Fr.add h fr x0 x1 xn n0 n1 (by rw [ahy g0 g1]; exact g2)
      have ix:ixN (F.map D.int).length x=some x.toNat:=by rw [List.length_map]; exact ack x0 (by rw [fr.arr.len]; exact x1)
      have e8:(F.set x.toNat ((gg+1) % ((dr rooms x).length:Int))).map D.int=(F.map D.int).set x.toNat (.int ((gg+1) % ((dr rooms x).length:Int))):=List.map_set ..
      refine ⟨P1,R++[x],F.set x.toNat ((gg+1) % ((dr rooms x).length:Int)),.val (.tup ((dr rooms x).map D.int)),.own none ((gdL R (dr rooms x)).map D.int),?_,fr',.inr rfl,fun _=>rfl⟩
      rw [decide_eq_false hin] at e4
      rw [List.map_append,e8]
      have hgl2:((gdL R (dr rooms x)).map D.int).length=(gdL R (dr rooms x)).length:=List.length_map ..
      rw [←hgl2] at e5
      generalize (ar F x - 1) % ((dr rooms x).length:Int)=mo at *
      generalize (gg+1) % ((dr rooms x).length:Int)=nv at *
      generalize (gdL R (dr rooms x)).map D.int=GG at *
      generalize (dr rooms x).length=dn at *
      generalize (dr rooms x).map D.int=DD at *
      generalize R.map D.int=RR at *
      generalize F.map D.int=FF at *
      simp only [hD] at *
      generalize hDs rooms=hh at *
      simp [qe,e0,e1,hc,hz,e2,hdl,e3,e4,e5,e6,e7,ix,hcR]
theorem aji (la:D):∀ (ss R F:List Int) (P:Int×Int) (o5 o6 o7:Sl),Fr rooms R F→ss.Nodup→(∀ x∈ss,(0≤x∧x < (rooms.length:Int))∧x∉R) →
    ∃ (P':Int×Int) (R' F':List Int) (q5 q6 q7:Sl),forD (cz 5) qe (ss.map D.int) [.own (some 0) (pen P),.val (hD rooms),.val la,.own none (R.map D.int),.own none (F.map D.int),o5,o6,o7]=some (.nx,[.own (some 0) (pen P'),.val (hD rooms),.val la,.own none (R'.map D.int),.own none (F'.map D.int),q5,q6,q7])∧Fr rooms R' F'∧(∀ x∈R,x∈R')∧∀ y∈ss,(∃ d∈dr rooms y,gdB R d=true)→y∈R'
  | [],R,F,P,o5,o6,o7,fr,_,_=>⟨P,R,F,o5,o6,o7,rfl,fr,fun _ z=>z,fun _ z=>absurd z List.not_mem_nil⟩
  | x::r,R,F,P,o5,o6,o7,fr,hn,hs=>by
    obtain ⟨⟨x0,x1⟩,xn⟩:=hs x (List.mem_cons_self ..)
    obtain ⟨P1,R1,F1,q6,q7,e1,fr1,hR,hg⟩:=anf h P la fr x0 x1 xn o6 o7
    have hxr:x∉r:=fun z=>(List.pairwise_cons.mp hn).1 x z rfl
    have sub:∀ y∈R,y∈R1:=fun y hy=>by
      rcases hR with rfl | rfl
      · exact hy
      · exact List.mem_append_left _ hy
    obtain ⟨P2,R2,F2,p5,p6,p7,e2,fr2,s2,g2⟩:=aji la r R1 F1 P1 (.val (.int x)) q6 q7 fr1 (List.Pairwise.of_cons hn) fun y hy=>by
      obtain ⟨hb,hyn⟩:=hs y (List.mem_cons_of_mem _ hy)
      refine ⟨hb,fun z => ?_⟩
      rcases hR with e | e
      · rw [e] at z; exact hyn z
      · rw [e] at z
        rcases List.mem_append.mp z with z | z
        · exact hyn z
        · rw [List.mem_singleton] at z
          rw [z] at hy
          exact hxr hy
    refine ⟨P2,R2,F2,p5,p6,p7,?_,fr2,fun y hy=>s2 y (sub y hy),fun y hy hd => ?_⟩
    · rw [List.map_cons,mz]
      generalize hD rooms=hh at *
      simp [e1,e2]
    · rcases List.mem_cons.mp hy with rfl | hy
      · have:=hg hd
        exact s2 y (by rw [this]; simp)
      · obtain ⟨d,hd1,hd2⟩:=hd
        exact g2 y hy ⟨d,hd1,ar8 sub hd2⟩
theorem ang (hop:gf rooms=[]) (P:Int×Int) {as:List Int} (ha:Arr rooms as):∃ (bs:List Int) (P':Int×Int),v7 [.own (some 0) (pen P),.val (hD rooms),.val (.tup (as.map D.int))]=some (.ok (.v (.tup (bs.map D.int))),[.own (some 0) (pen P'),.val (hD rooms),.val (.tup (as.map D.int))])∧Arr rooms bs∧gf (lp (lasts rooms bs))=[]:=by
  have hm:=h.most
  have hl:=nu rooms
  have hb':rooms.length < 4611686018427387904:=by omega
  have loop:=oh (c:=wk) (g:=aao)
    (fun n ρ=>∃ (P:Int×Int) (R F:List Int) (o5 o6 o7:Sl),Fr rooms R F∧n=rooms.length - R.length∧ρ=[.own (some 0) (pen P),.val (hD rooms),.val (.tup (as.map D.int)),.own none (R.map D.int),.own none (F.map D.int),o5,o6,o7])
    (fun ρ=>∃ (P:Int×Int) (R F:List Int) (o5 o6 o7:Sl),Fr rooms R F∧¬R.length < rooms.length∧ρ=[.own (some 0) (pen P),.val (hD rooms),.val (.tup (as.map D.int)),.own none (R.map D.int),.own none (F.map D.int),o5,o6,o7])
    ?_ fuel rooms.length [.own (some 0) (pen P),.val (hD rooms),.val (.tup (as.map D.int)),.own none [],.own none (as.map D.int),.emp,.emp,.emp] (Nat.lt_trans (show rooms.length < 100000 by omega) aat) ⟨P,[],as,.emp,.emp,.emp,⟨ha,List.Pairwise.nil,fun x hx=>absurd hx List.not_mem_nil,fun i x hx=>by simp at hx⟩,by simp,rfl⟩
  · obtain ⟨ρ',e,P1,R,F,o5,o6,o7,fr,hR,rfl⟩:=loop
    refine ⟨F,P1,?_,fr.arr,Fr.free h fr hR⟩
    have hc:(as.map D.int).length≤capS:=by rw [List.length_map,ha.len]; exact b8 (by omega)
    have hc2:(F.map D.int).length≤capS:=by rw [List.length_map,fr.arr.len]; exact b8 (by omega)
    generalize R.map D.int=RR at *
    generalize F.map D.int=FF at *
    generalize as.map D.int=la at *
    generalize hD rooms=hh at *
    simp [v7,aes,hc,hc2,e]
  · rintro n ρ ⟨P1,R,F,o5,o6,o7,fr,rfl,rfl⟩
    have hRl:(R.map D.int).length=R.length:=List.length_map ..
    by_cases hlt:R.length < rooms.length
    · have ec:compD (cz 0) aa1 aaz (jj 0 rooms.length) [] [.emp,.own (some 1) (R.map D.int)]=some (.ok (((upto rooms.length).filter fun x => !decide (x∈R)).map D.int),acj .emp (jj 0 rooms.length)::[.own (some 1) (R.map D.int)]):=by
        rw [xx,uc (p:=fun d=>match d with | .int k => !decide (k∈R) | _=>false) (f:=id)]
        · simp only [List.filter_map,Function.comp_def,List.map_id,List.nil_append]
        · intro d hd
          obtain ⟨k,hk,rfl⟩:=List.mem_map.mp hd
          simp [aa1,ad1]
        · intro d hd _
          simp [aaz]
      have hc1:(((upto rooms.length).filter fun x => !decide (x∈R)).map D.int).length≤capS:=by
        rw [List.length_map]
        exact b8 (Nat.le_trans (List.length_filter_le _ _) (by simp [upto]; omega))
      have hund:(upto rooms.length).Nodup:=by
        unfold upto
        rw [List.Nodup,List.pairwise_map]
        exact List.Pairwise.imp (fun {a b} hab=>by omega) List.pairwise_lt_range
      obtain ⟨P2,R2,F2,q5,q6,q7,e2,fr2,s2,g2⟩:=aji h (.tup (as.map D.int)) ((upto rooms.length).filter fun x => !decide (x∈R)) R F P1 o5 o6 o7 fr (List.Pairwise.sublist List.filter_sublist hund) fun x hx=>by
        obtain ⟨hx1,hx2⟩:=List.mem_filter.mp hx
        exact ⟨ji hx1,by simpa using hx2⟩
      obtain ⟨y,y0,y1,yn,hd⟩:=Fr.next h fr hop hlt
      have hy2:y∈R2:=g2 y (List.mem_filter.mpr ⟨by
        unfold upto
        exact List.mem_map.mpr ⟨y.toNat,List.mem_range.mpr (by omega),by omega⟩,by simp [yn]⟩) hd
      have hlen:R.length < R2.length:=by
        have:=afm (a:=y::R) (b:=R2) (List.Pairwise.cons (fun a ha e=>yn (e▸ha)) fr.nd) fun x hx=>by
          rcases List.mem_cons.mp hx with rfl | hx
          · exact hy2
          · exact s2 x hx
        rw [List.length_cons] at this
        omega
      have hlt':(R.length:Int) < (rooms.length:Int):=by omega
      refine .inr ⟨[.own (some 0) (pen P1),.val (hD rooms),.val (.tup (as.map D.int)),.own none (R.map D.int),.own none (F.map D.int),o5,o6,o7],[.own (some 0) (pen P2),.val (hD rooms),.val (.tup (as.map D.int)),.own none (R2.map D.int),.own none (F2.map D.int),q5,q6,q7],rooms.length - R2.length,?_,?_,by omega,P2,R2,F2,q5,q6,q7,fr2,rfl,rfl⟩
      · generalize R.map D.int=RR at *
        simp only [hD] at *
        simp [wk,hRl,hl,hlt']
      · generalize ((upto rooms.length).filter fun x => !decide (x∈R)).map D.int=SS at *
        generalize R.map D.int=RR at *
        generalize R2.map D.int=RR2 at *
        generalize F.map D.int=FF at *
        generalize F2.map D.int=FF2 at *
        generalize as.map D.int=la at *
        simp only [hD] at *
        simp [aao,hl,hb',ec,hc1,e2]
    · have hlt':¬(R.length:Int) < (rooms.length:Int):=by omega
      refine .inl ⟨[.own (some 0) (pen P1),.val (hD rooms),.val (.tup (as.map D.int)),.own none (R.map D.int),.own none (F.map D.int),o5,o6,o7],?_,P1,R,F,o5,o6,o7,fr,hlt,rfl⟩
      generalize R.map D.int=RR at *
      simp only [hD] at *
      simp [wk,hRl,hl,hlt']
end
end My
namespace My
open PySem L2 Mn Dn
noncomputable def cv (rooms:List (List Int)) (as:List Int) (k y:Int):Nat→Nat
  | 0=>0
  | t+1=>cv rooms as k y t+if (run rooms as k t).2=y then 1 else 0
noncomputable def av (rooms:List (List Int)) (as:List Int) (k d:Int):Nat→Nat
  | 0=>0
  | t+1=>av rooms as k d t+if (run rooms as k (t+1)).2=d then 1 else 0
theorem azk (rooms:List (List Int)) (as:List Int) (k d:Int):∀ t,av rooms as k d t≤cv rooms as k d (t+1)
  | 0=>Nat.zero_le _
  | t+1=>by
    have ih:=azk rooms as k d t
    show av rooms as k d t+(if (run rooms as k (t+1)).2=d then 1 else 0)≤cv rooms as k d (t+1)+(if (run rooms as k (t+1)).2=d then 1 else 0)
    omega
theorem a3x (rooms:List (List Int)) (as:List Int) (k d:Int) (t:Nat):av rooms as k d t≤cv rooms as k d t+1:=by
  have h:=azk rooms as k d t
  have e:cv rooms as k d (t+1)=cv rooms as k d t+if (run rooms as k t).2=d then 1 else 0:=rfl
  rw [e] at h
  split at h <;> omega
theorem apu {rooms:List (List Int)} {as:List Int} {k d:Int} (hd:d < 0):∀ t,(∀ i < t,0≤(run rooms as k i).2)→cv rooms as k d t=0
  | 0,_=>rfl
  | t+1,hp=>by
    have ih:=apu hd t fun i hi=>hp i (by omega)
    have p0:=hp t (by omega)
    show cv rooms as k d t+(if (run rooms as k t).2=d then 1 else 0)=0
    rw [ih,if_neg (by omega)]
theorem akn {x w:Int} (h0 : -w≤x) (h1:x < 0):x % w=x+w:=by
  rw [←Int.add_emod_right x w]
  exact Int.emod_eq_of_lt (by omega) (by omega)
theorem rot {a e w:Int} (a0:0≤a) (a1:a < w) (e0:0≤e) (e1:e < w) (ne:a≠e):((a+1) % w - e - 1) % w=(a - e - 1) % w+1:=by
  rcases Int.lt_or_le (a+1) w with q | q
  · rw [Int.emod_eq_of_lt (by omega) q]
    rcases Int.lt_or_le a e with z | z
    · rw [akn (by omega) (by omega),akn (by omega) (by omega)]
      omega
    · rw [Int.emod_eq_of_lt (show 0≤a+1 - e - 1 by omega) (by omega),Int.emod_eq_of_lt (show 0≤a - e - 1 by omega) (by omega)]
      omega
  · have ew:a+1=w:=by omega
    rw [ew,Int.emod_self,akn (by omega) (by omega),Int.emod_eq_of_lt (show 0≤a - e - 1 by omega) (by omega)]
    omega
section
variable {rooms:List (List Int)} (h:Hs rooms) {as:List Int} (ha:Arr rooms as) {k:Int} (h0:0≤k) (h1:k < (rooms.length:Int))
include h ha h0 h1
theorem atl {y:Int} (y0:0≤y) (y1:y < (rooms.length:Int)) {e:Nat} (he:e < (dr rooms y).length):∀ t,(∀ i < t,0≤(run rooms as k i).2)→(cv rooms as k y t:Int)≤((dr rooms y).length:Int)*(av rooms as k ((dr rooms y).getD e 0) t:Int)+(ar (run rooms as k t).1 y - (e:Int) - 1) % ((dr rooms y).length:Int)
  | 0,_=>by
    have:0≤(ar (run rooms as k 0).1 y - (e:Int) - 1) % ((dr rooms y).length:Int):=Int.emod_nonneg _ (by omega)
    show ((0:Nat):Int)≤((dr rooms y).length:Int)*((0:Nat):Int)+_
    simp
    exact this
  | t+1,hp=>by
    have hp':∀ i < t,0≤(run rooms as k i).2:=fun i hi=>hp i (by omega)
    have ih:=atl y0 y1 he t hp'
    obtain ⟨a1,a2,a3⟩:=xu h ha h0 h1 t hp'
    have p0:=hp t (by omega)
    have ec:cv rooms as k y (t+1)=cv rooms as k y t+if (run rooms as k t).2=y then 1 else 0:=rfl
    have ea:av rooms as k ((dr rooms y).getD e 0) (t+1)=av rooms as k ((dr rooms y).getD e 0) t+if (run rooms as k (t+1)).2=(dr rooms y).getD e 0 then 1 else 0:=rfl
    have er:(run rooms as k (t+1)).1=gone rooms (run rooms as k t).1 (run rooms as k t).2:=rfl
    have el:(run rooms as k (t+1)).2=led rooms (run rooms as k t).1 (run rooms as k t).2:=rfl
    have aa:=a1.at y0 y1
    have al:=a1.len
    by_cases hy:(run rooms as k t).2=y
    · rw [ec,ea,er,el,hy,if_pos rfl]
      rw [v9 (by omega)]
      generalize hA:ar (run rooms as k t).1 y=a at *
      by_cases ne:a=(e:Int)
      · have:led rooms (run rooms as k t).1 y=(dr rooms y).getD e 0:=by
          unfold led
          rw [hA,ne]
          rfl
        rw [if_pos this]
        have b1:=Int.emod_lt_of_pos (a - (e:Int) - 1) (show (0:Int) < ((dr rooms y).length:Int) by omega)
        have b2:=Int.emod_nonneg ((a+1) % ((dr rooms y).length:Int) - (e:Int) - 1) (show ((dr rooms y).length:Int)≠0 by omega)
        have em:((dr rooms y).length:Int)*((av rooms as k ((dr rooms y).getD e 0) t+1:Nat):Int)=((dr rooms y).length:Int)*(av rooms as k ((dr rooms y).getD e 0) t:Int)+((dr rooms y).length:Int):=by
          rw [Int.natCast_add,Int.mul_add]
          simp
        rw [em]
        omega
      · have b:=rot aa.1 aa.2 (show (0:Int)≤(e:Int) by omega) (by omega) ne
        have em:((dr rooms y).length:Int)*(av rooms as k ((dr rooms y).getD e 0) t:Int)≤((dr rooms y).length:Int)*((av rooms as k ((dr rooms y).getD e 0) t+(if led rooms (run rooms as k t).1 y=(dr rooms y).getD e 0 then 1 else 0):Nat):Int):=Int.mul_le_mul_of_nonneg_left (by omega) (by omega)
        rw [b]
        omega
    · rw [ec,ea,er,if_neg hy,ab3 y0 p0 (Ne.symm hy)]
      have em:((dr rooms y).length:Int)*(av rooms as k ((dr rooms y).getD e 0) t:Int)≤((dr rooms y).length:Int)*((av rooms as k ((dr rooms y).getD e 0) t+(if (run rooms as k (t+1)).2=(dr rooms y).getD e 0 then 1 else 0):Nat):Int):=Int.mul_le_mul_of_nonneg_left (by omega) (by omega)
      omega
theorem av6 (hw:∀ r∈rooms,r.length≤3) {y:Int} (y0:0≤y) (y1:y < (rooms.length:Int)) {d:Int} (hd:d∈dr rooms y) {t:Nat} (hp:∀ i < t,0≤(run rooms as k i).2):cv rooms as k y t≤3*cv rooms as k d t+5:=by
  obtain ⟨e,he,ed⟩:=List.mem_iff_getElem.mp hd
  have i:=atl h ha h0 h1 y0 y1 he t hp
  have ed':(dr rooms y).getD e 0=d:=by rw [List.getD_eq_getElem?_getD,List.getElem?_eq_getElem he]; exact ed
  rw [ed'] at i
  have b1:=Int.emod_lt_of_pos (ar (run rooms as k t).1 y - (e:Int) - 1) (show (0:Int) < ((dr rooms y).length:Int) by omega)
  have w3:(dr rooms y).length≤3:=hw _ (by
    have hk:y.toNat < rooms.length:=by omega
    unfold dr
    rw [List.getD_eq_getElem?_getD,List.getElem?_eq_getElem hk]
    exact List.getElem_mem hk)
  have al:=a3x rooms as k d t
  have em:((dr rooms y).length:Int)*(av rooms as k d t:Int)≤3*(av rooms as k d t:Int):=Int.mul_le_mul_of_nonneg_right (by omega) (by omega)
  omega
noncomputable def mx:Nat→Nat
  | 0=>0
  | j+1=>3*mx j+5
noncomputable def sx:Nat→Nat
  | 0=>0
  | j+1=>sx j+mx (j+1)
omit h ha h0 h1 in
theorem aqy (f:Int→Nat) (p:Int):∀ R:List Int,p∈R→(R.map f).sum+1≤(R.map fun x=>f x+if p=x then 1 else 0).sum:=fun R=>by
  have base:∀ R:List Int,(R.map f).sum≤(R.map fun x=>f x+if p=x then 1 else 0).sum:=fun R=>by
    induction R with
    | nil=>exact Nat.le_refl _
    | cons x r ih =>
      rw [List.map_cons,List.map_cons,List.sum_cons,List.sum_cons]
      omega
  induction R with
  | nil=>intro hp; cases hp
  | cons x r ih =>
    intro hp
    rw [List.map_cons,List.map_cons,List.sum_cons,List.sum_cons]
    rcases List.mem_cons.mp hp with rfl | hp
    · have:=base r
      rw [if_pos rfl]
      omega
    · have:=ih hp
      omega
omit h ha h0 h1 in
theorem aig {R:List Int}:∀ t,(∀ i < t,(run rooms as k i).2∈R)→t≤(R.map fun x=>cv rooms as k x t).sum
  | 0,_=>Nat.zero_le _
  | t+1,hp=>by
    have ih:=aig (R:=R) t fun i hi=>hp i (by omega)
    have:=aqy (fun x=>cv rooms as k x t) (run rooms as k t).2 R (hp t (by omega))
    exact Nat.le_trans (Nat.succ_le_succ ih) this
theorem ae1 (hop:gf rooms=[]) (hw:∀ r∈rooms,r.length≤3) {t:Nat} (hp:∀ i < t,0≤(run rooms as k i).2):t≤sx rooms.length:=by
  have claim:∀ j,j≤rooms.length→∃ R:List Int,R.Nodup∧R.length=j∧(∀ x∈R,0≤x∧x < (rooms.length:Int))∧(∀ x∈R,cv rooms as k x t≤mx j)∧(R.map fun x=>cv rooms as k x t).sum≤sx j:=fun j=>by
    induction j with
    | zero=>exact fun _=>⟨[],List.Pairwise.nil,rfl,fun x hx=>absurd hx List.not_mem_nil,fun x hx=>absurd hx List.not_mem_nil,Nat.le_refl _⟩
    | succ j ih =>
      intro hj
      obtain ⟨R,nd,hl,hin,hm,hs⟩:=ih (by omega)
      obtain ⟨y,y0,y1,yn,d,hd,hg⟩:=ai3 h (R:=R) hop (by omega)
      have cd:cv rooms as k d t≤mx j:=by
        unfold gdB at hg
        rw [Bool.or_eq_true,decide_eq_true_eq,decide_eq_true_eq] at hg
        rcases hg with q | q
        · rw [apu q t hp]
          exact Nat.zero_le _
        · exact hm d q
      have cy:=av6 h ha h0 h1 hw y0 y1 hd hp
      have em:mx (j+1)=3*mx j+5:=rfl
      refine ⟨y::R,List.Pairwise.cons (fun a ha e=>yn (e▸ha)) nd,by rw [List.length_cons,hl],fun x hx => ?_,fun x hx => ?_,?_⟩
      · rcases List.mem_cons.mp hx with rfl | hx
        · exact ⟨y0,y1⟩
        · exact hin x hx
      · rcases List.mem_cons.mp hx with rfl | hx
        · omega
        · have:=hm x hx
          omega
      · rw [List.map_cons,List.sum_cons]
        show _≤sx j+mx (j+1)
        omega
  obtain ⟨R,nd,hl,hin,hm,hs⟩:=claim rooms.length (Nat.le_refl _)
  refine Nat.le_trans (aig t fun i hi => ?_) hs
  have p0:=hp i hi
  have p1:=(xu h ha h0 h1 i fun j hj=>hp j (by omega)).2.2
  apply Classical.byContradiction
  intro hn
  have:=aad rooms.length ((run rooms as k i).2::R) (List.Pairwise.cons (fun a ha e=>hn (e▸ha)) nd) fun a ha=>by
    rcases List.mem_cons.mp ha with rfl | ha
    · exact ⟨p0,p1⟩
    · exact hin a ha
  rw [List.length_cons] at this
  omega
theorem aqt (hop:gf rooms=[]) (hw:∀ r∈rooms,r.length≤3):∃ T,1≤T∧T≤sx rooms.length∧(∀ i < T,0≤(run rooms as k i).2)∧(run rooms as k T).2 < 0:=by
  have ex:∃ t,(run rooms as k t).2 < 0:=by
    apply Classical.byContradiction
    intro H
    have:=ae1 h ha h0 h1 hop hw (t:=sx rooms.length+1) fun i _=>by
      rcases Int.lt_or_le (run rooms as k i).2 0 with q | q
      · exact absurd ⟨i,q⟩ H
      · exact q
    omega
  obtain ⟨t,ht⟩:=ex
  obtain ⟨T,hT,hmin⟩:=least (P:=fun t=>(run rooms as k t).2 < 0) t ht
  have hp:∀ i < T,0≤(run rooms as k i).2:=fun i hi=>by
    have:¬(run rooms as k i).2 < 0:=hmin i hi
    omega
  refine ⟨T,?_,ae1 h ha h0 h1 hop hw hp,hp,hT⟩
  rcases Nat.eq_zero_or_pos T with z | z
  · subst z
    have:(run rooms as k 0).2=k:=rfl
    have hT:(run rooms as k 0).2 < 0:=hT
    omega
  · exact z
end
theorem aww {n:Nat} (hn:n≤5):sx n≤895:=by
  have:n=0∨n=1∨n=2∨n=3∨n=4∨n=5:=by omega
  rcases this with rfl | rfl | rfl | rfl | rfl | rfl <;> decide
end My
namespace My
open PySem L2 Mn Dn
theorem ay1 {L:List Int} (w:Ways L) (hf:gf (lp L)=[]) {x:Int} (h0:0≤x) (h1:x < (L.length:Int)):itr L x L.length < 0:=by
  rcases Int.lt_or_le (itr L x L.length) 0 with q | q
  · exact q
  · exfalso
    have pos:∀ i,i≤L.length→0≤itr L x i:=fun i hi=>by
      rcases Int.lt_or_le (itr L x i) 0 with z | z
      · have e:=yc L i (L.length - i) x
        rw [show i+(L.length - i)=L.length by omega,ahz L z] at e
        omega
      · exact z
    obtain ⟨i,j,hij,hj,e⟩:=pig (fun m=>itr L x m) L.length fun m hm=>⟨pos m hm,aek w m h1⟩
    have e:itr L x i=itr L x j:=e
    refine (alo w).mp ⟨itr L x i,?_,j - i,by omega,by omega,?_⟩ hf
    · have a:=pos i (by omega)
      have b:=aek w i h1
      unfold upto
      exact List.mem_map.mpr ⟨(itr L x i).toNat,List.mem_range.mpr (by omega),by omega⟩
    · rw [←yc,show i+(j - i)=j by omega]
      exact e.symm
theorem ash {L:List Int} (w:Ways L):gf (lp L)=[]↔∀ x∈upto L.length,itr L x L.length < 0:=by
  constructor
  · intro hf x hx
    exact ay1 w hf (ji hx).1 (ji hx).2
  · intro hall
    apply Classical.byContradiction
    intro hne
    obtain ⟨s,hs,t,t1,t2,e⟩:=(alo w).mpr hne
    have rep:∀ m:Nat,itr L s (m*t)=s:=fun m=>by
      induction m with
      | zero=>rw [Nat.zero_mul]; rfl
      | succ m ih=>rw [Nat.succ_mul,yc,ih,e]
    have hn:=hall s hs
    have hle:L.length≤L.length*t:=Nat.le_mul_of_pos_right _ t1
    have e2:=yc L L.length (L.length*t - L.length) s
    rw [show L.length+(L.length*t - L.length)=L.length*t by omega,rep,ahz L hn] at e2
    have:=(ji hs).1
    omega
section
variable {rooms:List (List Int)} (h:Hs rooms) {as:List Int} (ha:Arr rooms as)
include h ha
theorem ajb:u9 [.val (hD rooms),.val (.tup (as.map D.int))]=some (.ok (.v (.bl (decide (gf (lp (lasts rooms as))=[])))),[.val (hD rooms),.val (.tup (as.map D.int))]):=by
  have w:=j0 h ha
  have hm:=h.most
  have hl:=nu rooms
  have hb':rooms.length < 4611686018427387904:=by omega
  have e0:=aks h ha
  have hLl:=b7 rooms as
  have hfi:=ash w
  rw [hLl] at hfi
  generalize hL:lasts rooms as=L at *
  have inner:∀ (x:Int) (o5:Sl),0≤x→x < (rooms.length:Int)→∃ q5,forD (cz 5) vz (jj 0 rooms.length) [.val (hD rooms),.val (.tup (as.map D.int)),.own none (L.map D.int),.val (.int x),.val (.int x),o5]=some (.nx,[.val (hD rooms),.val (.tup (as.map D.int)),.own none (L.map D.int),.val (.int x),.val (.int (itr L x rooms.length)),q5]):=fun x o5 x0 x1=>by
    have loop:=aau (b:=cz 5) (g:=vz) (fun i ρ=>∃ q5:Sl,ρ=[.val (hD rooms),.val (.tup (as.map D.int)),.own none (L.map D.int),.val (.int x),.val (.int (itr L x i)),q5])
      (l:=jj 0 rooms.length) (ρ:=[.val (hD rooms),.val (.tup (as.map D.int)),.own none (L.map D.int),.val (.int x),.val (.int x),o5]) 0 ⟨o5,rfl⟩ ?_
    · have rl:(jj 0 rooms.length).length=rooms.length:=by simp [jj]
      rw [rl,Nat.zero_add] at loop
      obtain ⟨ρ',e,q5,rfl⟩:=loop
      exact ⟨q5,e⟩
    · rintro i d ρ hd ⟨q5,rfl⟩
      rw [Nat.zero_add]
      have es:itr L x (i+1)=nxt L (itr L x i):=yc L i 1 x
      have hlt:=aek w i (show x < (L.length:Int) by rw [hLl]; exact x1)
      refine ⟨_,[.val (hD rooms),.val (.tup (as.map D.int)),.own none (L.map D.int),.val (.int x),.val (.int (itr L x (i+1))),.val d],rfl,.inl ?_,_,rfl⟩
      rw [es]
      by_cases q:0≤itr L x i
      · have e1:=xf (ns:=L) q hlt
        have e2:nxt L (itr L x i)=L.getD (itr L x i).toNat 0:=if_pos q
        rw [←e2] at e1
        generalize nxt L (itr L x i)=y2 at *
        generalize itr L x i=y at *
        generalize L.map D.int=LL at *
        simp [vz,q,e1]
      · have e2:nxt L (itr L x i)=itr L x i:=if_neg q
        rw [e2]
        generalize itr L x i=y at *
        simp [vz,q]
  have loop:∀ (xs:List Int) (o3 o4 o5:Sl),(∀ x∈xs,0≤x∧x < (rooms.length:Int))→∃ ρ',forD (cz 3) vy (xs.map D.int) [.val (hD rooms),.val (.tup (as.map D.int)),.own none (L.map D.int),o3,o4,o5]=some (if ∀ x∈xs,itr L x rooms.length < 0 then .nx else .ret (.v (.bl false)),.val (hD rooms)::.val (.tup (as.map D.int))::ρ'):=fun xs=>by
    induction xs with
    | nil=>exact fun o3 o4 o5 _=>⟨_,by rw [if_pos (fun x hx=>absurd hx List.not_mem_nil)]; rfl⟩
    | cons x r ih =>
      intro o3 o4 o5 hin
      obtain ⟨x0,x1⟩:=hin x (List.mem_cons_self ..)
      obtain ⟨q5,e⟩:=inner x o5 x0 x1
      by_cases hneg:0≤itr L x rooms.length
      · refine ⟨[.own none (L.map D.int),.val (.int x),.val (.int (itr L x rooms.length)),q5],?_⟩
        rw [if_neg fun H=>by have:=H x (List.mem_cons_self ..); omega,List.map_cons,mz]
        generalize itr L x rooms.length=y at *
        generalize L.map D.int=LL at *
        generalize as.map D.int=la at *
        simp only [hD] at *
        simp [vy,hl,hb',e,hneg]
      · obtain ⟨ρ',e2⟩:=ih (.val (.int x)) (.val (.int (itr L x rooms.length))) q5 fun y hy=>hin y (List.mem_cons_of_mem _ hy)
        refine ⟨ρ',?_⟩
        have hiff:(∀ y∈x::r,itr L y rooms.length < 0)↔∀ y∈r,itr L y rooms.length < 0:=⟨fun H y hy=>H y (List.mem_cons_of_mem _ hy),fun H y hy=>by
          rcases List.mem_cons.mp hy with rfl | hy
          · omega
          · exact H y hy⟩
        simp only [hiff]
        rw [List.map_cons,mz]
        generalize itr L x rooms.length=y at *
        generalize (if ∀ y∈r,itr L y rooms.length < 0 then Fl.nx else Fl.ret (.v (.bl false)))=fl at *
        generalize L.map D.int=LL at *
        generalize as.map D.int=la at *
        simp only [hD] at *
        have e3:vy [.val (.tup (hDs rooms)),.val (.tup la),.own none LL,.val (.int x),o4,o5]=some (.nx,[.val (.tup (hDs rooms)),.val (.tup la),.own none LL,.val (.int x),.val (.int y),q5]):=by simp [vy,hl,hb',e,hneg]
        simp [e3,e2]
  obtain ⟨ρ',e⟩:=loop (upto rooms.length) .emp .emp .emp fun x hx=>ji hx
  rw [←xx] at e
  by_cases hf:gf (lp L)=[]
  · rw [if_pos (hfi.mp hf)] at e
    rw [decide_eq_true hf]
    generalize L.map D.int=LL at *
    generalize as.map D.int=la at *
    simp only [hD] at *
    simp [u9,acn,e0,hl,hb',e]
  · rw [if_neg fun H=>hf (hfi.mpr H)] at e
    rw [decide_eq_false hf]
    generalize L.map D.int=LL at *
    generalize as.map D.int=la at *
    simp only [hD] at *
    simp [u9,acn,e0,hl,hb',e]
end
end My
namespace My
open PySem L2 Mn Dn
section
variable {rooms:List (List Int)} (h:Hs rooms) {as:List Int} (ha:Arr rooms as) {k:Int} (h0:0≤k) (h1:k < (rooms.length:Int))
include h ha h0 h1
theorem ave {T N:Nat} (hN:N≤2000) (hT:T≤N) (hp:∀ i < T,0≤(run rooms as k i).2) (hn:(run rooms as k T).2 < 0):∃ s,f__law_gone [.val (hD rooms),.val (.tup (as.map D.int)),.val (.int k),.val (.int (N:Int))]=some (.ok (.v (.tup [.tup ((run rooms as k T).1.map D.int),.lst ((plc rooms as k T).map D.int)])),[.val (hD rooms),s,.val (.int k),.val (.int (N:Int))]):=by
  have loop:=oh (c:=zc) (g:=aa7)
    (fun n ρ=>∃ t:Nat,t≤T∧n=T - t∧ρ=[.val (hD rooms),.val (.tup ((run rooms as k t).1.map D.int)),.val (.int k),.val (.int (N:Int)),.own none ((plc rooms as k t).map D.int),.val (.int (run rooms as k t).2)])
    (fun ρ=>ρ=[.val (hD rooms),.val (.tup ((run rooms as k T).1.map D.int)),.val (.int k),.val (.int (N:Int)),.own none ((plc rooms as k T).map D.int),.val (.int (run rooms as k T).2)])
    ?_ fuel T [.val (hD rooms),.val (.tup (as.map D.int)),.val (.int k),.val (.int (N:Int)),.own none [],.val (.int k)] (Nat.lt_trans (show T < 100000 by omega) aat) ⟨0,by omega,rfl,rfl⟩
  · obtain ⟨ρ',e,rfl⟩:=loop
    refine ⟨.val (.tup ((run rooms as k T).1.map D.int)),?_⟩
    simp [f__law_gone,af0,e]
  · rintro n ρ ⟨t,t2,rfl,rfl⟩
    have hl:(plc rooms as k t).length=t:=by simp [plc]
    rcases Nat.lt_or_ge t T with q | q
    · obtain ⟨a1,a2,a3⟩:=xu h ha h0 h1 t fun i hi=>hp i (by omega)
      have p0:=hp t q
      have e1:=au9 h a1 p0 a3
      have hcap:(plc rooms as k t).length < capS:=by rw [hl]; unfold capS; omega
      have hi:(((plc rooms as k t).length:Nat):Int) < (N:Int):=by rw [hl]; omega
      have hi':(plc rooms as k t).length < N:=by omega
      refine .inr ⟨[.val (hD rooms),.val (.tup ((run rooms as k t).1.map D.int)),.val (.int k),.val (.int (N:Int)),.own none ((plc rooms as k t).map D.int),.val (.int (run rooms as k t).2)],[.val (hD rooms),.val (.tup ((run rooms as k (t+1)).1.map D.int)),.val (.int k),.val (.int (N:Int)),.own none ((plc rooms as k (t+1)).map D.int),.val (.int (run rooms as k (t+1)).2)],T - (t+1),?_,?_,by omega,t+1,by omega,rfl,rfl⟩
      · simp [zc,p0,hi,hi']
      · rw [alr]
        generalize plc rooms as k t=L at hcap
        simp [aa7,e1,hcap,run]
    · have:t=T:=by omega
      subst this
      have q:¬0≤(run rooms as k t).2:=by omega
      exact .inl ⟨[.val (hD rooms),.val (.tup ((run rooms as k t).1.map D.int)),.val (.int k),.val (.int (N:Int)),.own none ((plc rooms as k t).map D.int),.val (.int (run rooms as k t).2)],by simp [zc,q],rfl⟩
theorem apx {T:Nat} (h1T:1≤T) (hT:T≤990) (hp:∀ i < T,0≤(run rooms as k i).2) :
    ug [.val (hD rooms),.val (.int k),.val (.lst ((plc rooms as k T).map D.int))]=some (.ok (.v (.tup ((cnt rooms as k T).map D.int))),[.val (hD rooms),.val (.int k),.val (.lst ((plc rooms as k T).map D.int))]):=by
  have hl:(plc rooms as k T).length=T:=by simp [plc]
  have cut:cutD ((plc rooms as k T).map D.int) none (some (-1))=((plc rooms as k T).take (T - 1)).map D.int:=by
    unfold cutD
    have e1:HT.sIx ((plc rooms as k T).map D.int).length ((plc rooms as k T).map D.int).length (some (-1))=T - 1:=by
      show (if (-1:Int) < 0 then (-1+((((plc rooms as k T).map D.int).length:Nat):Int)).toNat else min (-1:Int).toNat ((plc rooms as k T).map D.int).length)=_
      rw [if_pos (by decide),List.length_map,hl]
      omega
    have e2:HT.sIx ((plc rooms as k T).map D.int).length 0 none=0:=rfl
    rw [e1,e2,List.drop_zero,Nat.sub_zero,List.map_take]
  have seq:D.int k::((plc rooms as k T).take (T - 1)).map D.int=((List.range T).map fun i=>(run rooms as k i).2).map D.int:=by
    obtain ⟨S,rfl⟩:∃ S,T=S+1:=⟨T - 1,by omega⟩
    rw [List.range_succ_eq_map,List.map_cons,List.map_cons,List.map_map]
    congr 1
    rw [Nat.add_sub_cancel]
    unfold plc
    rw [←List.map_take,List.take_range,Nat.min_eq_left (by omega)]
    simp [Function.comp_def]
  have loop:=aau (b:=cz 4) (g:=z7) (fun i ρ=>∃ o,ρ=[.val (hD rooms),.val (.int k),.val (.lst ((plc rooms as k T).map D.int)),.own none ((cnt rooms as k i).map D.int),o])
    (l:=((List.range T).map fun i=>(run rooms as k i).2).map D.int) (ρ:=[.val (hD rooms),.val (.int k),.val (.lst ((plc rooms as k T).map D.int)),.own none ((List.replicate rooms.length (0:Int)).map D.int),.emp]) 0 ⟨.emp,rfl⟩ ?_
  · obtain ⟨ρ',e,o,rfl⟩:=loop
    simp only [List.length_map,List.length_range,Nat.zero_add] at e
    have hm:=h.most
    have hl2:=nu rooms
    have hb1:rooms.length < 9223372036854775808:=by omega
    have hb3:rooms.length≤capS:=b8 (by omega)
    have hb4:1+((plc rooms as k T).take (T - 1)).length≤capS:=b8 (by rw [List.length_take,hl]; omega)
    have hr:(List.replicate rooms.length [D.int 0]).flatten=(List.replicate rooms.length (0:Int)).map D.int:=by
      rw [List.map_replicate]
      generalize rooms.length=n
      induction n with
      | zero=>rfl
      | succ n ih=>rw [List.replicate_succ,List.flatten_cons,ih,List.replicate_succ]; rfl
    rw [←seq] at e
    generalize (plc rooms as k T).take (T - 1)=L at cut e hb4
    generalize (plc rooms as k T).map D.int=M at cut e
    simp only [hD] at e ⊢
    simp [ug,adc,hl2,hb1,hb3,hb4,hr,cut,-List.map_replicate,e]
  · rintro i d ρ hd ⟨o,rfl⟩
    rw [Nat.zero_add]
    rw [List.getElem?_map,List.getElem?_map] at hd
    have hi:i < T:=by
      rcases Nat.lt_or_ge i T with q | q
      · exact q
      · rw [List.getElem?_eq_none (by simpa using q)] at hd
        cases hd
    rw [List.getElem?_range hi] at hd
    cases hd
    have hp':∀ j < i,0≤(run rooms as k j).2:=fun j hj=>hp j (by omega)
    obtain ⟨a1,a2,a3⟩:=xu h ha h0 h1 i hp'
    have p0:=hp i hi
    have hcl:=av7 h (as:=as) (k:=k) i
    have ix:ixN (cnt rooms as k i).length (run rooms as k i).2=some (run rooms as k i).2.toNat:=by rw [hcl]; exact ack p0 a3
    have at1:=xf (ns:=cnt rooms as k i) p0 (by rw [hcl]; exact a3)
    exact ⟨_,[.val (hD rooms),.val (.int k),.val (.lst ((plc rooms as k T).map D.int)),.own none ((cnt rooms as k (i+1)).map D.int),.val (.int (run rooms as k i).2)],rfl,.inl (by simp [z7,at1,ix,cnt,bump]),_,rfl⟩
theorem aq7 {T:Nat} (h1T:1≤T):atI ((plc rooms as k T).map D.int) (-1)=some (.int (run rooms as k T).2):=by
  have hl:(plc rooms as k T).length=T:=by simp [plc]
  obtain ⟨S,rfl⟩:∃ S,T=S+1:=⟨T - 1,by omega⟩
  unfold atI
  rw [List.length_map,hl]
  have:ixN (S+1) (-1)=some S:=by
    unfold ixN
    simp
    omega
  rw [this]
  show ((plc rooms as k (S+1)).map D.int)[S]? = _
  simp [plc]
omit h ha h0 h1 in
theorem anw:∀ T,(vis rooms as k T).foldl bump (List.replicate rooms.length 0)=cnt rooms as k T
  | 0=>rfl
  | T+1=>by
    have e:vis rooms as k (T+1)=vis rooms as k T++[(run rooms as k T).2]:=by
      unfold vis
      rw [List.range_succ,List.map_append]
      rfl
    rw [e,List.foldl_append,anw T]
    rfl
end
end My
namespace My
open PySem L2 Mn Dn
theorem adn (n:Nat):(List.replicate n [D.int 0]).flatten=(List.replicate n (0:Int)).map D.int:=by
  rw [List.map_replicate]
  induction n with
  | zero=>rfl
  | succ n ih=>rw [List.replicate_succ,List.flatten_cons,ih,List.replicate_succ]; rfl
structure Wk (n:Nat) (ws:List Int):Prop where
  len:ws.length=n
  ok:∀ w∈ws,0≤w∧w≤100
theorem ah0 {rooms:List (List Int)} (h:Hs rooms) {ws:List Int} (hw:Wk rooms.length ws):v5 [.val (hD rooms),.val (.tup (ws.map D.int)),.val (.int 100)]=some (.ok (.v (.bl true)),[.val (hD rooms),.val (.tup (ws.map D.int)),.val (.int 100)]):=by
  have hm:=h.most
  have hl:=hw.len
  have hl3:=nu rooms
  have e1:fj [.val (.tup (ws.map D.int)),.val (.int (rooms.length:Int)),.val (.int (rooms.length:Int))]=some (.ok (.v (.bl true)),[.val (.tup (ws.map D.int)),.val (.int (rooms.length:Int)),.val (.int (rooms.length:Int))]):=by
    have:(ws.length:Int)=rooms.length:=by omega
    simp [fj,u5,isTy,this]
  have e2:compD (cz 0) (ret true) aav (ws.map D.int) [] [.emp,.val (.int 100)]=some (.ok (ws.map fun _=>.bl true),acj .emp (ws.map D.int)::[.val (.int 100)]):=by
    rw [adi (f:=fun _=>.bl true)]
    · simp
    · intro d hd
      obtain ⟨w,hwm,rfl⟩:=List.mem_map.mp hd
      have:=hw.ok w hwm
      simp [aav,ag5,this.1,this.2]
  have e3:wj (ws.map fun _=>D.bl true)=some (ws.map fun _=>true):=by
    have:=ab1 (ws.map fun _=>true)
    rwa [List.map_map] at this
  have e4:(ws.map fun _=>true).all id=true:=by
    rw [List.all_map,List.all_eq_true]
    intro x _
    rfl
  have hc:ws.length≤capS:=b8 (by omega)
  generalize hB:(ws.map fun _=>true)=bs at *
  have hc2:(ws.map fun _=>D.bl true).length≤capS:=by rw [List.length_map]; exact hc
  generalize (ws.map fun _=>D.bl true)=BB at *
  generalize ws.map D.int=ww at *
  simp only [hD] at *
  simp [v5,aen,hl3,e1,e2,e3,e4,hc2]
theorem aso {rooms:List (List Int)} (h:Hs rooms) {as:List Int} (ha:Arr rooms as) {ws:List Int} (hw:Wk rooms.length ws):lu [.val (hD rooms),.val (.tup (as.map D.int)),.val (.tup (ws.map D.int))]=some (.ok (.v .non),[.val (hD rooms),.val (.tup (as.map D.int)),.val (.tup (ws.map D.int))]):=by
  have e1:=ajd h ha
  have e2:=ah0 h hw
  generalize as.map D.int=aa at *
  generalize ws.map D.int=ww at *
  generalize hD rooms=hh at *
  have e3:j5 [.val hh,.val (.tup aa)]=some (.ok (.v .non),[.val hh,.val (.tup aa)]):=by simp [j5,zq,e1]
  have e4:jr [.val hh,.val (.tup ww)]=some (.ok (.v .non),[.val hh,.val (.tup ww)]):=by simp [jr,yh,e2]
  simp [lu,aah,e3,e4]
noncomputable def rowW (ws:List Int):Nat→List Int
  | 0=>[]
  | j+1=>rowW ws j++List.replicate (ws.getD j 0).toNat ((j:Nat):Int)
theorem aof (ws:List Int):∀ n,∀ x∈rowW ws n,0≤x∧x < (n:Int)
  | 0,x,hx=>by cases hx
  | n+1,x,hx=>by
    rcases List.mem_append.mp hx with q | q
    · have:=aof ws n x q
      omega
    · have:=(List.mem_replicate.mp q).2
      omega
section
variable {rooms:List (List Int)} (h:Hs rooms) (hop:gf rooms=[]) (hw3:∀ r∈rooms,r.length≤3) (hn5:rooms.length≤5)
include h
structure Bk (rooms:List (List Int)) (A0 A rs s:List Int):Prop where
  arr:Arr rooms A
  free:gf (lp (lasts rooms A))=[]
  led:Led rooms A rs s
  go:go rooms A s=A0
theorem back_in (hop:gf rooms=[]) (hw3:∀ r∈rooms,r.length≤3) (hn5:rooms.length≤5) {A0:List Int} (ww:D) {k:Int} (h0:0≤k) (h1:k < (rooms.length:Int)) (m:Sl):∀ (l:List D) (A rs s:List Int) (o6 o7:Sl),Bk rooms A0 A rs s→∃ A' s' q6 q7,Bk rooms A0 A' (List.replicate l.length k++rs) s'∧forD (cz 6) qz l [.val (hD rooms),.val (.tup (A.map D.int)),.val ww,.own none ((tal rooms.length s).map D.int),.val (.int k),m,o6,o7]=some (.nx,[.val (hD rooms),.val (.tup (A'.map D.int)),.val ww,.own none ((tal rooms.length s').map D.int),.val (.int k),m,q6,q7])
  | [],A,rs,s,o6,o7,b=>⟨A,s,o6,o7,b,rfl⟩
  | d::l,A,rs,s,o6,o7,b=>by
    obtain ⟨as,T,ha,hf,_,e,hn,hp⟩:=akq h h0 h1 b.arr b.free
    have hT1:1≤T:=by
      rcases Nat.eq_zero_or_pos T with z | z
      · subst z
        have:(run rooms as k 0).2=k:=rfl
        omega
      · exact z
    have hT:=ae1 h ha h0 h1 hop hw3 hp
    have hs5:=aww hn5
    have b2:Bk rooms A0 as (k::rs) (vis rooms as k T++s):=⟨ha,hf,.cons h0 h1 hp hn (e▸b.led),by rw [ada,ajf,e]; exact b.go⟩
    obtain ⟨A',s',q6,q7,b',e'⟩:=back_in hop hw3 hn5 (A0:=A0) ww h0 h1 m l as (k::rs) (vis rooms as k T++s) (.val d) (.val (.tup [.tup (as.map D.int),.lst ((plc rooms as k T).map D.int)])) b2
    refine ⟨A',s',q6,q7,?_,?_⟩
    · have:List.replicate (d::l).length k++rs=List.replicate l.length k++(k::rs):=by
        rw [List.length_cons,List.replicate_succ',List.append_assoc]
        rfl
      rw [this]
      exact b'
    · have u:=anz h ha h0 h1 hf (by omega) hp hn
      have c:=asp h ha h0 h1 hp hT1 (rm rooms.length s)
      have hv:∀ x∈vis rooms as k T,0≤x∧x < (rooms.length:Int):=(anv h ha h0 h1 hp).inR
      rw [agb _ _ hv] at c
      have ct:tal rooms.length (s++vis rooms as k T)=tal rooms.length (vis rooms as k T++s):=ag8 fun x=>by rw [List.count_append,List.count_append,Nat.add_comm]
      rw [ct] at c
      rw [e] at u
      rw [mz]
      generalize (tal rooms.length (vis rooms as k T++s)).map D.int=t2 at *
      generalize (tal rooms.length s).map D.int=t1 at *
      generalize (tal rooms.length s').map D.int=t3 at *
      generalize (plc rooms as k T).map D.int=PP at *
      generalize as.map D.int=la at *
      generalize A.map D.int=lA at *
      generalize A'.map D.int=lA' at *
      generalize hD rooms=hh at *
      have e1:qz [.val hh,.val (.tup lA),.val ww,.own none t1,.val (.int k),m,.val d,o7]=some (.nx,[.val hh,.val (.tup la),.val ww,.own none t2,.val (.int k),m,.val d,.val (.tup [.tup la,.lst PP])]):=by
        simp [qz,u,c,aj3,aj2]
      simp [e1,e']
theorem asl (hop:gf rooms=[]) (hw3:∀ r∈rooms,r.length≤3) (hn5:rooms.length≤5) {A0:List Int} (hA:Arr rooms A0) (hf:gf (lp (lasts rooms A0))=[]) {ws:List Int} (hw:Wk rooms.length ws):∃ A rs s,Bk rooms A0 A rs s∧(∀ x,rs.count x=(rowW ws rooms.length).count x)∧n6 [.val (hD rooms),.val (.tup (A0.map D.int)),.val (.tup (ws.map D.int))]=some (.ok (.v (.tup [.tup (A.map D.int),.tup ((tal rooms.length s).map D.int)])),[.val (hD rooms),.val (.tup (A.map D.int)),.val (.tup (ws.map D.int))]):=by
  have hm:=h.most
  have hl:=nu rooms
  have hb1:rooms.length < 9223372036854775808:=by omega
  have hb3:rooms.length≤capS:=b8 (by omega)
  have hr:=adn rooms.length
  rw [←aj8] at hr
  have loop:=aau (b:=bTup 2 (j6 (cz 4) (j6 (cz 5) bNil))) (g:=wg) (fun j ρ=>∃ (A rs s:List Int) (o4 o5 o6 o7:Sl),Bk rooms A0 A rs s∧(∀ x,rs.count x=(rowW ws j).count x)∧ρ=[.val (hD rooms),.val (.tup (A.map D.int)),.val (.tup (ws.map D.int)),.own none ((tal rooms.length s).map D.int),o4,o5,o6,o7])
    (l:=ad7 (ws.map D.int)) (ρ:=[.val (hD rooms),.val (.tup (A0.map D.int)),.val (.tup (ws.map D.int)),.own none ((tal rooms.length []).map D.int),.emp,.emp,.emp,.emp]) 0 ⟨A0,[],[],.emp,.emp,.emp,.emp,⟨hA,hf,.nil _,rfl⟩,fun _=>rfl,rfl⟩ ?_
  · obtain ⟨ρ',e,A,rs,s,o4,o5,o6,o7,b,hc,rfl⟩:=loop
    rw [abl,List.length_map,hw.len,Nat.zero_add] at hc
    refine ⟨A,rs,s,b,hc,?_⟩
    have hcap:((tal rooms.length s).map D.int).length≤capS:=by rw [List.length_map,rm]; exact hb3
    generalize (tal rooms.length s).map D.int=t2 at *
    generalize (tal rooms.length []).map D.int=t1 at *
    generalize A.map D.int=lA at *
    generalize A0.map D.int=lA0 at *
    generalize ws.map D.int=ww at *
    simp only [hD] at *
    simp [n6,abj,hl,hb1,hb3,hr,e,hcap]
  · rintro j d ρ hd ⟨A,rs,s,o4,o5,o6,o7,b,hc,rfl⟩
    rw [Nat.zero_add] at *
    obtain ⟨d0,g1,rfl⟩:=adh hd
    rw [List.getElem?_map] at g1
    obtain ⟨y,ey,rfl⟩:=Option.map_eq_some_iff.mp g1
    have hj:j < rooms.length:=by have:=(List.getElem?_eq_some_iff.mp ey).1; rw [hw.len] at this; exact this
    have hy:=hw.ok y (List.mem_of_getElem? ey)
    have rl:(jj 0 y.toNat).length=y.toNat:=by simp [jj]
    obtain ⟨A',s',q6,q7,b',e'⟩:=back_in h hop hw3 hn5 (A0:=A0) (.tup (ws.map D.int)) (k:=((j:Nat):Int)) (by omega) (by omega) (.val (.int y)) (jj 0 y.toNat) A rs s o6 o7 b
    rw [rl] at b'
    have hyd:ws.getD j 0=y:=by rw [List.getD_eq_getElem?_getD,ey]; rfl
    refine ⟨_,[.val (hD rooms),.val (.tup (A'.map D.int)),.val (.tup (ws.map D.int)),.own none ((tal rooms.length s').map D.int),.val (.int ((j:Nat):Int)),.val (.int y),q6,q7],rfl,.inl ?_,A',List.replicate y.toNat ((j:Nat):Int)++rs,s',_,_,_,_,b',fun x => ?_,rfl⟩
    · have hb:y.natAbs < 4611686018427387904:=by omega
      generalize (tal rooms.length s).map D.int=t2 at *
      generalize (tal rooms.length s').map D.int=t1 at *
      generalize A.map D.int=lA at *
      generalize A'.map D.int=lA0 at *
      generalize ws.map D.int=ww at *
      generalize hD rooms=hh at *
      simp [wg,hb,e']
    · show _=(rowW ws j++List.replicate (ws.getD j 0).toNat ((j:Nat):Int)).count x
      rw [hyd,List.count_append,List.count_append,hc x,Nat.add_comm]
end
end My
namespace My
open PySem L2 Mn Dn
theorem atx {n:Nat} (s t:List Int):List.zipWith (fun x y=>x+y) (tal n s) (tal n t)=tal n (s++t):=by
  apply List.ext_getElem?
  intro i
  rw [List.getElem?_zipWith]
  by_cases hi:i < n
  · rw [adq _ hi,adq _ hi,adq _ hi,List.count_append]
    simp
  · rw [List.getElem?_eq_none (by rw [rm]; omega),List.getElem?_eq_none (by rw [rm]; omega),List.getElem?_eq_none (by rw [rm]; omega)]
theorem sum2:∀ (a b ys:List Int) (o1 o2:Sl),a.length=b.length→∃ q1 q2,compD (bTup 2 (j6 (cz 0) (j6 (cz 1) bNil))) (ret true) yu (aan (a.map D.int) (b.map D.int)) (ys.map D.int) [o1,o2]=some (.ok ((ys++List.zipWith (fun x y=>x+y) a b).map D.int),[q1,q2])
  | [],[],ys,o1,o2,_=>⟨o1,o2,by simp [aan,compD]⟩
  | [],_::_,_,_,_,h=>by cases h
  | _::_,[],_,_,_,h=>by cases h
  | x::a,y::b,ys,o1,o2,h=>by
    obtain ⟨q1,q2,e⟩:=sum2 a b (ys++[x+y]) (.val (.int x)) (.val (.int y)) (Nat.succ.inj h)
    refine ⟨q1,q2,?_⟩
    have e1:aan ((x::a).map D.int) ((y::b).map D.int)=.tup [.int x,.int y]::aan (a.map D.int) (b.map D.int):=rfl
    rw [e1]
    have e2:ys++List.zipWith (fun x y=>x+y) (x::a) (y::b)=ys++[x+y]++List.zipWith (fun x y=>x+y) a b:=by simp
    rw [e2,←e]
    simp [compD,yu]
section
variable {rooms:List (List Int)} (h:Hs rooms) (hop:gf rooms=[]) (hw3:∀ r∈rooms,r.length≤3) (hn5:rooms.length≤5)
include h hop hw3 hn5
theorem aoz (some2:Sl):∀ (rs as s0:List Int) (o4 o5:Sl),InR rooms rs→Arr rooms as→∃ s q4 q5,Led rooms as rs s∧forD (cz 4) ue (rs.map D.int) [.val (hD rooms),.val (.tup (as.map D.int)),some2,.own none ((tal rooms.length s0).map D.int),o4,o5]=some (.nx,[.val (hD rooms),.val (.tup ((go rooms as s).map D.int)),some2,.own none ((tal rooms.length (s0++s)).map D.int),q4,q5])
  | [],as,s0,o4,o5,_,ha=>⟨[],o4,o5,.nil _,by rw [List.append_nil]; rfl⟩
  | k::rs,as,s0,o4,o5,hr,ha=>by
    have hk:=hr k (List.mem_cons_self ..)
    obtain ⟨T,t1,t2,hp,hn⟩:=aqt h ha hk.1 hk.2 hop hw3
    have hs5:=aww hn5
    have ha2:=(xu h ha hk.1 hk.2 T hp).1
    obtain ⟨s,q4,q5,l,e⟩:=aoz some2 rs (run rooms as k T).1 (s0++vis rooms as k T) (.val (.int k)) (.val (.lst ((plc rooms as k T).map D.int))) (fun y hy=>hr y (List.mem_cons_of_mem _ hy)) ha2
    refine ⟨vis rooms as k T++s,q4,q5,.cons hk.1 hk.2 hp hn l,?_⟩
    have hm:=h.most
    obtain ⟨z,e1⟩:=ave h ha hk.1 hk.2 (N:=2000) (by decide) (by omega) hp hn
    have e1:f__law_gone [.val (hD rooms),.val (.tup (as.map D.int)),.val (.int k),.val (.int 2000)]=some (.ok (.v (.tup [.tup ((run rooms as k T).1.map D.int),.lst ((plc rooms as k T).map D.int)])),[.val (hD rooms),z,.val (.int k),.val (.int 2000)]):=e1
    have e2:=aq7 h ha hk.1 hk.2 t1
    have e3:=apx h ha hk.1 hk.2 t1 (by omega) hp
    have hv:∀ x∈vis rooms as k T,0≤x∧x < (rooms.length:Int):=(anv h ha hk.1 hk.2 hp).inR
    have e4:cnt rooms as k T=tal rooms.length (vis rooms as k T):=by
      rw [←anw,←aj8,agb _ _ hv,List.nil_append]
    rw [e4] at e3
    obtain ⟨c1,c2,e5⟩:=sum2 (tal rooms.length s0) (tal rooms.length (vis rooms as k T)) [] .emp .emp (by rw [rm,rm])
    rw [List.nil_append,atx] at e5
    have hz:((tal rooms.length s0).map D.int).length≤((tal rooms.length (vis rooms as k T)).map D.int).length:=by rw [List.length_map,List.length_map,rm,rm]; exact Nat.le_refl _
    have hcap:((tal rooms.length (s0++vis rooms as k T)).map D.int).length≤capS:=by rw [List.length_map,rm]; exact b8 (by omega)
    have hneg:¬0≤(run rooms as k T).2:=by omega
    rw [ada,ajf,←List.append_assoc,List.map_cons,mz]
    have en:List.map D.int []=[]:=rfl
    rw [en] at e5
    generalize (tal rooms.length (s0++vis rooms as k T)).map D.int=ta at *
    generalize (tal rooms.length (s0++vis rooms as k T++s)).map D.int=tb at *
    generalize (tal rooms.length (vis rooms as k T)).map D.int=tc at *
    generalize (tal rooms.length s0).map D.int=td at *
    generalize (plc rooms as k T).map D.int=PP at *
    generalize (go rooms (run rooms as k T).1 s).map D.int=GG at *
    generalize (run rooms as k T).1.map D.int=RR at *
    generalize (run rooms as k T).2=gg at *
    generalize as.map D.int=la at *
    generalize hD rooms=hh at *
    have e6:ue [.val hh,.val (.tup la),some2,.own none td,.val (.int k),o5]=some (.nx,[.val hh,.val (.tup RR),some2,.own none ta,.val (.int k),.val (.lst PP)]):=by
      simp [ue,e1,e2,hneg,e3,hz,e5,hcap]
    simp [e6,e]
theorem agt {as:List Int} (ha:Arr rooms as) {rs:List Int} (hr:InR rooms rs) (hl:rs.length≤1000):∃ s z,Led rooms as rs s∧qu [.val (hD rooms),.val (.tup (as.map D.int)),.val (.lst (rs.map D.int))]=some (.ok (.v (.tup [.tup ((go rooms as s).map D.int),.tup ((tal rooms.length s).map D.int)])),[.val (hD rooms),z,.val (.lst (rs.map D.int))]):=by
  obtain ⟨s,q4,q5,l,e⟩:=aoz h hop hw3 hn5 (.val (.lst (rs.map D.int))) rs as [] .emp .emp hr ha
  rw [List.nil_append] at e
  refine ⟨s,.val (.tup ((go rooms as s).map D.int)),l,?_⟩
  have hm:=h.most
  have hl2:=nu rooms
  have hb1:rooms.length < 9223372036854775808:=by omega
  have hb3:rooms.length≤capS:=b8 (by omega)
  have hz:=adn rooms.length
  rw [←aj8] at hz
  have hcap:((tal rooms.length s).map D.int).length≤capS:=by rw [List.length_map,rm]; exact hb3
  generalize (tal rooms.length s).map D.int=ta at *
  generalize (tal rooms.length []).map D.int=tb at *
  generalize (go rooms as s).map D.int=GG at *
  generalize as.map D.int=la at *
  generalize rs.map D.int=lr at *
  simp only [hD] at *
  simp [qu,acf,hl2,hb1,hb3,hz,e,hcap]
end
theorem avs (a b:List Int):gEq true (.tup [.tup (a.map D.int),.tup (b.map D.int)]) (.tup [.tup (a.map D.int),.tup (b.map D.int)])=some (.v (.bl false)):=by
  have h1:okD 30 (.tup [.tup (a.map D.int),.tup (b.map D.int)])=true:=by
    show ([D.tup (a.map D.int),D.tup (b.map D.int)].all (okD 29))=true
    have:=ac5 28 a
    have:=ac5 28 b
    simp only [List.all_cons,List.all_nil,Bool.and_true,Bool.and_eq_true]
    exact ⟨ac5 28 a,ac5 28 b⟩
  have e:eqD (.tup [.tup (a.map D.int),.tup (b.map D.int)]) (.tup [.tup (a.map D.int),.tup (b.map D.int)])=true:=PySem.SeqAt.eqv_refl _ (aca _ _ h1).1
  unfold gEq
  rw [h1,e]
  rfl
theorem ahj (ws:List Int) (hw:∀ w∈ws,w≤100):∀ n,(rowW ws n).length≤100*n
  | 0=>Nat.le_refl _
  | n+1=>by
    have ih:=ahj ws hw n
    have:(ws.getD n 0).toNat≤100:=by
      rw [List.getD_eq_getElem?_getD]
      cases q:ws[n]? with
      | none=>decide
      | some w =>
        have:=hw w (List.mem_of_getElem? q)
        show w.toNat≤100
        omega
    show (rowW ws n++List.replicate (ws.getD n 0).toNat ((n:Nat):Int)).length≤_
    rw [List.length_append,List.length_replicate]
    omega
section
variable {rooms:List (List Int)} (h:Hs rooms) (hop:gf rooms=[]) (hw3:∀ r∈rooms,r.length≤3) (hn5:rooms.length≤5) {A0:List Int} (hA:Arr rooms A0) (hf:gf (lp (lasts rooms A0))=[]) {ws:List Int} (hw:Wk rooms.length ws)
include h hop hw3 hn5 hA hf hw
theorem ago (t o7 o8 S:Sl) (hS:S=.own none ((rowW ws rooms.length).map D.int)∨S=.val (.lst ((rowW ws rooms.length).map D.int))) (o4 o5:Sl):∃ q7 q8,l3__law_right [.val (hD rooms),.val (.tup (A0.map D.int)),.val (.tup (ws.map D.int)),S,o4,o5,t,o7,o8]=some (.nx,[.val (hD rooms),.val (.tup (A0.map D.int)),.val (.tup (ws.map D.int)),.val (.lst ((rowW ws rooms.length).map D.int)),o4,o5,t,q7,q8]):=by
  have hm:=h.most
  obtain ⟨A,rs,s,b,hc,e1⟩:=asl h hop hw3 hn5 hA hf hw
  have hin:=aof ws rooms.length
  have hlen:=ahj ws (fun w x=>(hw.ok w x).2) rooms.length
  obtain ⟨s1,z1,l1,e2⟩:=agt h hop hw3 hn5 b.arr (rs:=rowW ws rooms.length) hin (by omega)
  obtain ⟨s2,z2,l2,e3⟩:=agt h hop hw3 hn5 b.arr (rs:=(rowW ws rooms.length).reverse) (fun x hx=>hin x (List.mem_reverse.mp hx)) (by rw [List.length_reverse]; omega)
  have c1:=b.led.same h l1 b.arr hc
  have c2:=b.led.same h l2 b.arr fun x=>by rw [hc x,List.count_reverse]
  rw [←c1.2,b.go,←ag8 c1.1] at e2
  rw [←c2.2,b.go,←ag8 c2.1] at e3
  have e0:qp [.val (hD rooms),.val (.tup (A0.map D.int)),.val (.tup (ws.map D.int))]=some (.ok (.v (.tup [.tup (A.map D.int),.tup ((tal rooms.length s).map D.int)])),[.val (hD rooms),.val (.tup (A0.map D.int)),.val (.tup (ws.map D.int))]):=by
    have s0:=aso h hA hw
    have q:=atu h
    rw [hop] at q
    have e3:gEq true (.tup []) (.tup [])=some (.v (.bl false)):=al8 true [] []
    have s1:lq [.val (hD rooms)]=some (.ok (.v .non),[.val (hD rooms)]):=by simp [lq,aag,q,e3]
    have s2:=ava h hA (j0 h hA)
    rw [decide_eq_true hf] at s2
    generalize (tal rooms.length s).map D.int=ta at *
    generalize A0.map D.int=RR at *
    generalize A.map D.int=lA at *
    generalize ws.map D.int=ww at *
    generalize hD rooms=hh at *
    have s3:jt [.val hh,.val (.tup RR)]=some (.ok (.v .non),[.val hh,.val (.tup RR)]):=by simp [jt,yj,s2]
    simp [qp,acd,s0,s1,s3,e1]
  have hl:=nu rooms
  have hal:=b.arr.len
  have e4:=aei (l:=A) (by omega)
  have e5:=aei (l:=tal rooms.length s) (by rw [rm]; omega)
  have e6:=ajb h b.arr
  rw [decide_eq_true b.free] at e6
  have e7:=avs A0 (tal rooms.length s)
  have hle:(A.map D.int).length≤(hDs rooms).length:=by rw [nu,List.length_map]; omega
  have comp:=uo (b:=bTup 2 (j6 (cz 0) (j6 (cz 1) bNil))) (mc:=ret true) (me:=aax) (fun j ys ρ=>∃ o1 o2,ρ=[o1,o2]∧ys=(List.replicate j true).map D.bl)
    (l:=aan (A.map D.int) (hDs rooms)) (ys:=[]) (ρ:=[.emp,.emp]) 0 ⟨.emp,.emp,rfl,rfl⟩ ?_
  · obtain ⟨ys,ρ',e8,o1,o2,rfl,rfl⟩:=comp
    rw [acs hle,List.length_map,Nat.zero_add] at e8
    have hb:=ab1 (List.replicate A.length true)
    have hc8:((List.replicate A.length true).map D.bl).length≤capS:=by rw [List.length_map,List.length_replicate]; exact b8 (by omega)
    have hall:(List.replicate A.length true).all id=true:=by rw [List.all_eq_true]; intro x hx; exact (List.mem_replicate.mp hx).2
    have hlm:(A.map D.int).length=rooms.length:=by rw [List.length_map]; exact hal
    have hz:(A.map D.int).length≤rooms.length:=by omega
    have hrv:((rowW ws rooms.length).map D.int).reverse=(rowW ws rooms.length).reverse.map D.int:=by rw [List.map_reverse]
    refine ⟨.val (.tup [.tup (A.map D.int),.tup ((tal rooms.length s).map D.int)]),.val (.lst ((rowW ws rooms.length).reverse.map D.int)),?_⟩
    generalize (List.replicate A.length true)=bs at *
    generalize bs.map D.bl=BB at *
    generalize (tal rooms.length s).map D.int=ta at *
    generalize (rowW ws rooms.length).reverse.map D.int=rv at *
    generalize (rowW ws rooms.length).map D.int=rr at *
    generalize A0.map D.int=RR at *
    generalize A.map D.int=lA at *
    generalize ws.map D.int=ww at *
    have f1:ud [.val (hD rooms),.val (.tup RR),.val (.tup ww),.val (.lst rr),o4,o5,t,.val (.tup [.tup lA,.tup ta]),.val (.lst rr)]=some (.nx,[.val (hD rooms),.val (.tup RR),.val (.tup ww),.val (.lst rr),o4,o5,t,.val (.tup [.tup lA,.tup ta]),.val (.lst rr)]):=by
      generalize hD rooms=hh at *
      simp [ud,aj3,aj2,e2,e7]
    have f2:ud [.val (hD rooms),.val (.tup RR),.val (.tup ww),.val (.lst rr),o4,o5,t,.val (.tup [.tup lA,.tup ta]),.val (.lst rv)]=some (.nx,[.val (hD rooms),.val (.tup RR),.val (.tup ww),.val (.lst rr),o4,o5,t,.val (.tup [.tup lA,.tup ta]),.val (.lst rv)]):=by
      generalize hD rooms=hh at *
      simp [ud,aj3,aj2,e3,e7]
    simp only [hD] at *
    generalize hDs rooms=hh at *
    rcases hS with rfl | rfl
    · simp [l3__law_right,e0,isTy,aj3,aj2,e4,e5,hl,hlm,hz,hle,e8,hc8,hb,hall,e6,hrv,mz,f1,f2]
    · simp [l3__law_right,e0,isTy,aj3,aj2,e4,e5,hl,hlm,hz,hle,e8,hc8,hb,hall,e6,hrv,mz,f1,f2]
  · rintro j d ys ρ hd ⟨o1,o2,rfl,rfl⟩
    obtain ⟨d1,d2,g1,g2,rfl⟩:=aa6 hd
    obtain ⟨r,hr,rfl⟩:=afu g2
    rw [List.getElem?_map] at g1
    obtain ⟨a,ga,rfl⟩:=Option.map_eq_some_iff.mp g1
    obtain ⟨b0,b1⟩:=b.arr.ok j a r ga hr
    refine ⟨[.val (.int a),.val (.tup (r.map D.int))],_,true,by simp,rfl,.inr ⟨rfl,.bl true,[.val (.int a),.val (.tup (r.map D.int))],by simp [aax,b0,b1],_,_,rfl,?_⟩⟩
    rw [List.replicate_succ',List.map_append]
    rfl
omit hop hw3 hn5 hA hf in
theorem aog (aa:Sl):∃ o4 o5,forD (bTup 2 (j6 (cz 4) (j6 (cz 5) bNil))) wu (ad7 (ws.map D.int)) [.val (hD rooms),aa,.val (.tup (ws.map D.int)),.own none [],.emp,.emp,.emp,.emp,.emp]=some (.nx,[.val (hD rooms),aa,.val (.tup (ws.map D.int)),.own none ((rowW ws rooms.length).map D.int),o4,o5,.emp,.emp,.emp]):=by
  have hm:=h.most
  have loop:=aau (b:=bTup 2 (j6 (cz 4) (j6 (cz 5) bNil))) (g:=wu) (fun j ρ=>∃ (o4 o5:Sl),ρ=[.val (hD rooms),aa,.val (.tup (ws.map D.int)),.own none ((rowW ws j).map D.int),o4,o5,.emp,.emp,.emp])
    (l:=ad7 (ws.map D.int)) (ρ:=[.val (hD rooms),aa,.val (.tup (ws.map D.int)),.own none [],.emp,.emp,.emp,.emp,.emp]) 0 ⟨.emp,.emp,rfl⟩ ?_
  · obtain ⟨ρ',e,o4,o5,rfl⟩:=loop
    rw [abl,List.length_map,hw.len,Nat.zero_add] at e
    exact ⟨o4,o5,e⟩
  · rintro j d ρ hd ⟨o4,o5,rfl⟩
    rw [Nat.zero_add]
    obtain ⟨d0,g1,rfl⟩:=adh hd
    rw [List.getElem?_map] at g1
    obtain ⟨y,ey,rfl⟩:=Option.map_eq_some_iff.mp g1
    have hj:j < rooms.length:=by have:=(List.getElem?_eq_some_iff.mp ey).1; rw [hw.len] at this; exact this
    have hy:=hw.ok y (List.mem_of_getElem? ey)
    have hyd:ws.getD j 0=y:=by rw [List.getD_eq_getElem?_getD,ey]; rfl
    have hl1:=ahj ws (fun w x=>(hw.ok w x).2) j
    have hb:y.natAbs < 9223372036854775808:=by omega
    have hcy:y.toNat≤capS:=b8 (by omega)
    have e1:(List.replicate y.toNat [D.int ((j:Nat):Int)]).flatten=(List.replicate y.toNat ((j:Nat):Int)).map D.int:=by
      generalize y.toNat=n
      induction n with
      | zero=>rfl
      | succ n ih=>rw [List.replicate_succ,List.flatten_cons,ih,List.replicate_succ]; rfl
    have e2:(rowW ws j).map D.int++(List.replicate y.toNat ((j:Nat):Int)).map D.int=(rowW ws (j+1)).map D.int:=by
      rw [←List.map_append,←hyd]
      rfl
    have hc:((rowW ws j).map D.int).length+((List.replicate y.toNat ((j:Nat):Int)).map D.int).length≤capS:=by
      rw [List.length_map,List.length_map,List.length_replicate]
      refine Nat.le_trans (show _≤100*10+100 by omega) (by unfold capS; decide)
    refine ⟨_,[.val (hD rooms),aa,.val (.tup (ws.map D.int)),.own none ((rowW ws (j+1)).map D.int),.val (.int ((j:Nat):Int)),.val (.int y),.emp,.emp,.emp],rfl,.inl ?_,_,_,rfl⟩
    rw [←e2]
    generalize (List.replicate y.toNat ((j:Nat):Int)).map D.int=rp at *
    generalize (rowW ws j).map D.int=ro at *
    generalize ws.map D.int=ww at *
    generalize hD rooms=hh at *
    simp [wu,hb,hcy,e1,hc]
theorem ahk:lw [.val (hD rooms),.val (.tup (A0.map D.int)),.val (.tup (ws.map D.int))]=some (.ok (.v (.bl true)),[.val (hD rooms),.val (.tup (A0.map D.int)),.val (.tup (ws.map D.int))]):=by
  obtain ⟨o4,o5,e1⟩:=aog h hw (.val (.tup (A0.map D.int)))
  obtain ⟨q7,q8,e2⟩:=ago h hop hw3 hn5 hA hf hw (.val (.int 0)) .emp .emp _ (.inl rfl) o4 o5
  obtain ⟨p7,p8,e3⟩:=ago h hop hw3 hn5 hA hf hw (.val (.int 1)) q7 q8 _ (.inr rfl) o4 o5
  have e8:jj 0 2=[.int 0,.int 1]:=rfl
  generalize (rowW ws rooms.length).map D.int=rr at *
  generalize A0.map D.int=RR at *
  generalize ws.map D.int=ww at *
  generalize hD rooms=hh at *
  simp [lw,aeq,e1,e8,mz,e2,e3]
end
end My
namespace My
open PySem L2 Mn Dn
theorem aid (P:Int×Int) {rooms:List (List Int)} (h:Hs rooms):∃ (ws:List Int) (P':Int×Int) (o:Sl),compD (cz 0) (ret true) amf (hDs rooms) [] [.emp,.own (some 1) (pen P)]=some (.ok (ws.map D.int),[o,.own (some 1) (pen P')])∧Wk rooms.length ws:=by
  have comp:=uo (b:=cz 0) (mc:=ret true) (me:=amf) (fun j ys ρ=>∃ ns P o,ρ=[o,.own (some 1) (pen P)]∧ys=ns.map D.int∧ns.length=j∧∀ w∈ns,0≤w∧w≤100)
    (l:=hDs rooms) (ys:=[]) (ρ:=[.emp,.own (some 1) (pen P)]) 0 ⟨[],P,.emp,rfl,rfl,rfl,by simp⟩ ?_
  · obtain ⟨ys,ρ',e6,ns,P6,o,rfl,rfl,hn,hx⟩:=comp
    rw [nu,Nat.zero_add] at hn
    exact ⟨ns,P6,o,e6,hn,hx⟩
  · rintro j d ys ρ hd ⟨ns,P6,o,rfl,rfl,hn,hx⟩
    obtain ⟨r7,P7,e7,r7a,r7b⟩:=qw P6 3 (by decide) (by decide)
    refine ⟨[.val d,.own (some 1) (pen P6)],_,true,by simp,rfl,.inr ⟨rfl,.int r7,[.val d,.own (some 1) (pen P7)],by simp [amf,e7],ns++[r7],P7,_,rfl,by simp,by simp [hn],fun w hw => ?_⟩⟩
    rcases List.mem_append.mp hw with q | q
    · exact hx w q
    · rw [List.mem_singleton] at q
      omega
theorem a2n (S:D) (n:Int) (a1 a2 a3 a4 a5:Sl):∃ b1 b2 b3 b4 b5,l2_law [.val S,.val (.int n),a1,a2,a3,a4,a5]=some (.nx,[.val S,.val (.int n),b1,b2,b3,b4,b5]):=by
  obtain ⟨P,e0⟩:=arb n
  obtain ⟨r1,P1,e1,r1a,r1b⟩:=qw P 3 (by decide) (by decide)
  have hm:∃ m:Int,atI [D.int 2,D.int 3,D.int 4] r1=some (.int m)∧1≤m∧m≤4:=by
    have:r1=0∨r1=1∨r1=2:=by omega
    rcases this with rfl | rfl | rfl
    · exact ⟨2,rfl,by decide,by decide⟩
    · exact ⟨3,rfl,by decide,by decide⟩
    · exact ⟨4,rfl,by decide,by decide⟩
  obtain ⟨m,em,m1,m2⟩:=hm
  obtain ⟨rooms,P2,e2,h,hop,hle,hw⟩:=open_spec P1 m 3 m1 (by omega) (by decide) (by decide)
  have hw:∀ r∈rooms,r.length≤3:=hw
  obtain ⟨bs,P3,e3,hb⟩:=ald P2 h
  obtain ⟨A,P4,e4,hA,hfA⟩:=ang h hop P3 hb
  obtain ⟨ws,P5,o,e5,hW⟩:=aid P4 h
  have hm':=h.most
  have h1':=h.one
  have hl:=nu rooms
  have hZ:Wk rooms.length (List.replicate rooms.length 0):=⟨List.length_replicate,fun w hw=>by have:=(List.mem_replicate.mp hw).2; omega⟩
  have r1:=ahk h hop hw (by omega) hA hfA hW
  have r2:=ahk h hop hw (by omega) hA hfA hZ
  have hz:=adn rooms.length
  have hc:(ws.map D.int).length≤capS:=by rw [List.length_map,hW.len]; exact b8 (by omega)
  have hmul:gMul (.tup [.int 0]) (.int (rooms.length:Int))=some (.v (.tup ((List.replicate rooms.length (0:Int)).map D.int))):=by
    rw [al7]
    by_cases q:(rooms.length:Int)=1
    · have:rooms.length=1:=by omega
      rw [if_pos q,this]
      rfl
    · rw [if_neg q,if_pos ⟨by simp,by omega,by omega,b8 (by simp; omega)⟩,show ((rooms.length:Nat):Int).toNat=rooms.length by omega,hz]
  generalize (List.replicate rooms.length (0:Int)).map D.int=zz at *
  generalize ws.map D.int=ww at *
  generalize bs.map D.int=lb at *
  generalize A.map D.int=lA at *
  refine ⟨.own none (pen P5),.val (hD rooms),.val (.tup lA),.val (.tup ww),.val (.tup ww),?_⟩
  have f1:∀ o6:Sl,ajc [.val S,.val (.int n),.own none (pen P5),.val (hD rooms),.val (.tup lA),.val (.tup ww),.val (.tup ww)]=some (.nx,[.val S,.val (.int n),.own none (pen P5),.val (hD rooms),.val (.tup lA),.val (.tup ww),.val (.tup ww)]):=fun o6=>by
    generalize hD rooms=hh at *
    simp [ajc,r1]
  have f2:ajc [.val S,.val (.int n),.own none (pen P5),.val (hD rooms),.val (.tup lA),.val (.tup ww),.val (.tup zz)]=some (.nx,[.val S,.val (.int n),.own none (pen P5),.val (hD rooms),.val (.tup lA),.val (.tup ww),.val (.tup zz)]):=by
    generalize hD rooms=hh at *
    simp [ajc,r2]
  simp only [hD] at *
  simp [l2_law,e0,e1,em,e2,e3,e4,hl,e5,hc,hmul,-al7,mz,f1 .emp,f2]
theorem ayf (S:D):∀ (ns:List Int) (q a1 a2 a3 a4 a5:Sl),∃ ρ,forD (cz 1) l2_law (ns.map D.int) [.val S,q,a1,a2,a3,a4,a5]=some (.nx,.val S::ρ)
  | [],q,a1,a2,a3,a4,a5=>⟨_,rfl⟩
  | n::r,q,a1,a2,a3,a4,a5=>by
    obtain ⟨b1,b2,b3,b4,b5,z⟩:=a2n S n a1 a2 a3 a4 a5
    obtain ⟨ρ,z2⟩:=ayf S r (.val (.int n)) b1 b2 b3 b4 b5
    exact ⟨ρ,by rw [List.map_cons,mz]; simp [z,z2]⟩
theorem right_of {d e f:D} (rooms:List (List Int)) (as ws:List Int) (e1:hD rooms=d) (e2:D.tup (as.map D.int)=e) (e3:D.tup (ws.map D.int)=f) (h:Hs rooms) (ha:Arr rooms as) (hW:Wk rooms.length ws) (hop:gf rooms=[]) (hw:∀ r∈rooms,r.length≤3) (hn5:rooms.length≤5) (hf:gf (lp (lasts rooms as))=[]):lw [.val d,.val e,.val f]=some (.ok (.v (.bl true)),[.val d,.val e,.val f]):=by
  subst e1 e2 e3
  exact ahk h hop hw hn5 ha hf hW
theorem aqi {r:List Int} {a:Int} (h0:0≤a) (h1:a < (r.length:Int)):Arr [r] [a]:=⟨rfl,fun i x q g1 g2=>by
  cases i with
  | zero=>simp at g1 g2; subst g1 g2; exact ⟨h0,h1⟩
  | succ i=>simp at g1⟩
theorem aey {r:List Int} {x:Int} (hx:x∈r) (h0:x < 0):gf [r]=[]:=alj fun a a0 a1=>by
  have:a=0:=by simp at a1; omega
  subst this
  exact ⟨x,.step .base (by decide) hx,h0⟩
theorem arq:alf apn:=fun ns hn=>by
  obtain ⟨n0,e0⟩:=ap2 ns 0 (by decide)
  obtain ⟨ms,em,hm⟩:=apw ns (some 1) (some 3)
  have hc:1+ms.length≤capS:=b8 (by omega)
  have l1:lasts [[-2]] [0]=[-2]:=by decide
  have l2:lasts [[0,0,-1]] [0]=[-1]:=by decide
  have r1:=right_of (d:=.tup [.tup [.int (-2)]]) (e:=.tup [.int 0]) (f:=.tup [.int 3]) [[-2]] [0] [3] rfl rfl rfl ⟨by decide,by decide,by decide⟩ (aqi (by decide) (by decide)) ⟨rfl,by decide⟩ (aey (x := -2) (by simp) (by decide)) (by decide) (by decide) (by rw [l1]; exact aey (x := -2) (by simp) (by decide))
  have r2:=right_of (d:=.tup [.tup [.int 0,.int 0,.int (-1)]]) (e:=.tup [.int 0]) (f:=.tup [.int 0]) [[0,0,-1]] [0] [0] rfl rfl rfl ⟨by decide,by decide,by decide⟩ (aqi (by decide) (by decide)) ⟨rfl,by decide⟩ (aey (x := -1) (by simp) (by decide)) (by decide) (by decide) (by rw [l2]; exact aey (x := -1) (by simp) (by decide))
  obtain ⟨ρ,q⟩:=ayf (.kst (ns.map D.int)) (n0::ms) .emp .emp .emp .emp .emp .emp
  simp only [List.map_cons] at q
  simp [apn,ays,r1,r2,e0,em,hc,q]
end My
set_option maxHeartbeats 0
namespace My
open PySem L2 Mn Dn
noncomputable def top (i:Nat):Stmt:=PySem.Challenge.pw_turnarrows_k47_all_walkers_led_back.main.body.getD i (.Pass ⟨0,0,0,0⟩)
noncomputable abbrev xj:Stmt:=top 7
theorem akc:FnScope ["thing"] ["thing"] (ao xj):=⟨rfl,rfl,rfl,by decide +kernel,rfl,by decide +kernel,by decide +kernel⟩
noncomputable abbrev jn:Stmt:=top 8
theorem acw:FnScope ["thing","least","most"] ["thing","least","most"] (ao jn):=⟨rfl,rfl,rfl,by decide +kernel,rfl,by decide +kernel,by decide +kernel⟩
noncomputable abbrev jo:Stmt:=top 9
theorem acx:FnScope ["thing","least","most"] ["thing","least","most"] (ao jo):=⟨rfl,rfl,rfl,by decide +kernel,rfl,by decide +kernel,by decide +kernel⟩
noncomputable abbrev agn:Stmt:=top 11
theorem ae8:FnScope ["house","staying","many"] ["house"] (ao agn):=⟨rfl,rfl,rfl,by decide +kernel,rfl,by decide +kernel,by decide +kernel⟩
noncomputable abbrev jl:Stmt:=top 12
theorem zj:FnScope ["house","rooms"] ["house"] (ao jl):=⟨rfl,rfl,rfl,by decide +kernel,rfl,by decide +kernel,by decide +kernel⟩
noncomputable abbrev ur:Stmt:=top 14
theorem aim:FnScope ["house","thing"] ["house","thing"] (ao ur):=⟨rfl,rfl,rfl,by decide +kernel,rfl,by decide +kernel,by decide +kernel⟩
noncomputable abbrev jf:Stmt:=top 15
theorem acg:FnScope ["house","thing"] ["house","thing"] (ao jf):=⟨rfl,rfl,rfl,by decide +kernel,rfl,by decide +kernel,by decide +kernel⟩
noncomputable abbrev uq:Stmt:=top 16
theorem ail:FnScope ["house","arrows"] ["house","arrows"] (ao uq):=⟨rfl,rfl,rfl,by decide +kernel,rfl,by decide +kernel,by decide +kernel⟩
noncomputable abbrev ph:Stmt:=top 17
theorem qm:FnScope ["last","rooms","staying","many"] ["last","rooms"] (ao ph):=⟨rfl,rfl,rfl,by decide +kernel,rfl,by decide +kernel,by decide +kernel⟩
noncomputable abbrev xg:Stmt:=top 19
theorem akb:FnScope ["house","arrows"] ["house","arrows"] (ao xg):=⟨rfl,rfl,rfl,by decide +kernel,rfl,by decide +kernel,by decide +kernel⟩
noncomputable abbrev iu:Stmt:=top 20
theorem ab5:FnScope ["house","arrows"] ["house","arrows"] (ao iu):=⟨rfl,rfl,rfl,by decide +kernel,rfl,by decide +kernel,by decide +kernel⟩
noncomputable abbrev sr:Stmt:=top 23
theorem ahe:FnScope ["house","thing","most"] ["house","thing","most"] (ao sr):=⟨rfl,rfl,rfl,by decide +kernel,rfl,by decide +kernel,by decide +kernel⟩
noncomputable abbrev ir:Stmt:=top 24
theorem ab4:FnScope ["house","thing"] ["house","thing"] (ao ir):=⟨rfl,rfl,rfl,by decide +kernel,rfl,by decide +kernel,by decide +kernel⟩
noncomputable abbrev jm:Stmt:=top 25
theorem acv:FnScope ["house","arrows","walkers"] ["house","arrows","walkers"] (ao jm):=⟨rfl,rfl,rfl,by decide +kernel,rfl,by decide +kernel,by decide +kernel⟩
noncomputable abbrev kj:Stmt:=top 27
theorem my:FnScope ["last","put_in","place","at","onward"] ["last","put_in","place"] (ao kj):=⟨rfl,rfl,rfl,by decide +kernel,rfl,by decide +kernel,by decide +kernel⟩
noncomputable abbrev aab:Stmt:=top 28
theorem adu:FnScope ["last","room","place"] ["last","room"] (ao aab):=⟨rfl,rfl,rfl,by decide +kernel,rfl,by decide +kernel,by decide +kernel⟩
noncomputable abbrev abr:Stmt:=top 29
theorem vm:FnScope ["house","arrows","room","turning","last","place","places","ahead"] ["house","arrows","room"] (ao abr):=⟨rfl,rfl,rfl,by decide +kernel,rfl,by decide +kernel,by decide +kernel⟩
noncomputable abbrev jy:Stmt:=top 30
theorem aaa:FnScope ["leavings","room","places","place"] ["leavings","room","places"] (ao jy):=⟨rfl,rfl,rfl,by decide +kernel,rfl,by decide +kernel,by decide +kernel⟩
noncomputable abbrev kh:Stmt:=top 31
theorem jg:FnScope ["house","arrows","walkers","leavings","room","many","walker","told"] ["house","arrows","walkers"] (ao kh):=⟨rfl,rfl,rfl,by decide +kernel,rfl,by decide +kernel,by decide +kernel⟩
noncomputable abbrev m7:Stmt:=top 32
theorem ae9:FnScope ["house","arrows","walkers"] ["house","arrows","walkers"] (ao m7):=⟨rfl,rfl,rfl,by decide +kernel,rfl,by decide +kernel,by decide +kernel⟩
noncomputable abbrev u0:Stmt:=top 34
theorem aio:FnScope ["script","k"] ["script","k"] (ao u0):=⟨rfl,rfl,rfl,by decide +kernel,rfl,by decide +kernel,by decide +kernel⟩
noncomputable abbrev xm:Stmt:=top 35
theorem afb:FnScope ["cell","left"] ["cell"] (ao xm):=⟨rfl,rfl,rfl,by decide +kernel,rfl,by decide +kernel,by decide +kernel⟩
noncomputable abbrev uz:Stmt:=top 36
theorem vp:FnScope ["pen","many","left","found","stir"] ["pen","many"] (ao uz):=⟨rfl,rfl,rfl,by decide +kernel,rfl,by decide +kernel,by decide +kernel⟩
noncomputable abbrev su:Stmt:=top 37
theorem ahf:FnScope ["thing"] ["thing"] (ao su):=⟨rfl,rfl,rfl,by decide +kernel,rfl,by decide +kernel,by decide +kernel⟩
noncomputable abbrev t6:Stmt:=top 38
theorem ou:FnScope ["pen","most","doors","many","gates","house","room","wide"] ["pen","most","doors"] (ao t6):=⟨rfl,rfl,rfl,by decide +kernel,rfl,by decide +kernel,by decide +kernel⟩
noncomputable abbrev m8:Stmt:=top 39
theorem nj:FnScope ["house","room","found","at"] ["house","room"] (ao m8):=⟨rfl,rfl,rfl,by decide +kernel,rfl,by decide +kernel,by decide +kernel⟩
noncomputable abbrev ut:Stmt:=top 40
theorem zm:FnScope ["pen","most","doors","house","room","at"] ["pen","most","doors"] (ao ut):=⟨rfl,rfl,rfl,by decide +kernel,rfl,by decide +kernel,by decide +kernel⟩
noncomputable abbrev qb:Stmt:=top 41
theorem age:FnScope ["pen","house"] ["pen","house"] (ao qb):=⟨rfl,rfl,rfl,by decide +kernel,rfl,by decide +kernel,by decide +kernel⟩
noncomputable abbrev uv:Stmt:=top 42
theorem aa9:FnScope ["house","arrows","room","door","later"] ["house","arrows","room"] (ao uv):=⟨rfl,rfl,rfl,by decide +kernel,rfl,by decide +kernel,by decide +kernel⟩
noncomputable abbrev sy:Stmt:=top 43
theorem ahg:FnScope ["found","due"] ["found","due"] (ao sy):=⟨rfl,rfl,rfl,by decide +kernel,rfl,by decide +kernel,by decide +kernel⟩
noncomputable abbrev ux:Stmt:=top 44
theorem vo:FnScope ["house","arrows","room","most","places","here"] ["house","arrows","room","most"] (ao ux):=⟨rfl,rfl,rfl,by decide +kernel,rfl,by decide +kernel,by decide +kernel⟩
noncomputable abbrev pq:Stmt:=top 45
theorem zx:FnScope ["house","room","places","found","here"] ["house","room","places"] (ao pq):=⟨rfl,rfl,rfl,by decide +kernel,rfl,by decide +kernel,by decide +kernel⟩
noncomputable abbrev uw:Stmt:=top 46
theorem ain:FnScope ["house","arrows"] ["house","arrows"] (ao uw):=⟨rfl,rfl,rfl,by decide +kernel,rfl,by decide +kernel,by decide +kernel⟩
noncomputable abbrev uy:Stmt:=top 47
theorem rz:FnScope ["house","arrows","last","room","here","turn"] ["house","arrows"] (ao uy):=⟨rfl,rfl,rfl,by decide +kernel,rfl,by decide +kernel,by decide +kernel⟩
noncomputable abbrev t7:Stmt:=top 48
theorem o9:FnScope ["pen","house","arrows","out_row","found","room","doors","good"] ["pen","house","arrows"] (ao t7):=⟨rfl,rfl,rfl,by decide +kernel,rfl,by decide +kernel,by decide +kernel⟩
noncomputable abbrev m9:Stmt:=top 49
theorem j9:FnScope ["house","arrows","rooms","total","room","places"] ["house","arrows","rooms"] (ao m9):=⟨rfl,rfl,rfl,by decide +kernel,rfl,by decide +kernel,by decide +kernel⟩
noncomputable abbrev tu:Stmt:=top 50
theorem j4:FnScope ["house","arrows","walkers","rooms","room","many","turn","found","some"] ["house","arrows","walkers"] (ao tu):=⟨rfl,rfl,rfl,by decide +kernel,rfl,by decide +kernel,by decide +kernel⟩
noncomputable abbrev ahh:Stmt:=top 51
theorem afa:FnScope ["script","cell","pen","house","arrows","walkers","some"] ["script"] (ao ahh):=⟨rfl,rfl,rfl,by decide +kernel,rfl,by decide +kernel,by decide +kernel⟩
theorem lnS {k:Nat} {us:List Value} (h:us.length=k+1):∃ a r,us=a::r∧r.length=k:=by
  cases us with
  | nil=>cases h
  | cons a r=>exact ⟨a,r,rfl,Nat.succ.inj h⟩
theorem ln1 {us:List Value} (h:us.length=1):∃ a0,us=[a0]:=by
  obtain ⟨a,r,rfl,h'⟩:=lnS h
  cases List.eq_nil_of_length_eq_zero h'
  exact ⟨a,rfl⟩
theorem ln2 {us:List Value} (h:us.length=2):∃ a0 a1,us=[a0,a1]:=by
  obtain ⟨a,r,rfl,h'⟩:=lnS h
  obtain ⟨_,rfl⟩:=ln1 h'
  exact ⟨_,_,rfl⟩
theorem ln3 {us:List Value} (h:us.length=3):∃ a0 a1 a2,us=[a0,a1,a2]:=by
  obtain ⟨a,r,rfl,h'⟩:=lnS h
  obtain ⟨_,_,rfl⟩:=ln2 h'
  exact ⟨_,_,_,rfl⟩
theorem ln4 {us:List Value} (h:us.length=4):∃ a0 a1 a2 a3,us=[a0,a1,a2,a3]:=by
  obtain ⟨a,r,rfl,h'⟩:=lnS h
  obtain ⟨_,_,_,rfl⟩:=ln3 h'
  exact ⟨_,_,_,_,rfl⟩
structure Txt (K:PySem.W.Frag) (mg:Str→Option Value):Prop where
  c_MOST_WALKERS:∃ t,mg "MOST_WALKERS" = some (.int 100 t)
  z_all:mg "all" = none
  z_bool:mg "bool" = none
  z_divmod:mg "divmod" = none
  z_enumerate:mg "enumerate" = none
  z_int:mg "int" = none
  z_isinstance:mg "isinstance" = none
  z_len:mg "len" = none
  z_list:mg "list" = none
  z_max:mg "max" = none
  z_min:mg "min" = none
  z_range:mg "range" = none
  z_set:mg "set" = none
  z_sorted:mg "sorted" = none
  z_tuple:mg "tuple" = none
  z_zip:mg "zip" = none
section
variable {P:Program} {w:World} {K:PySem.W.Frag} {mg:Str→Option Value} {base:Heap} {f:Addr} {fd:FuncData}
theorem akj (F:Fun K "is_whole" "is_whole" xj f fd) (T:Txt K mg):FnOk P w K mg base CX0 1 f fd ["thing"] (spOf K 1 aak) :=
  ig F akc rfl rfl fun cdv A outer s H E hr =>
    (az (fu (EV.toR (amd (af3 (t:=.int) (akf (by rfl) T.z_int aqa) (by rfl) T.z_isinstance mq (d7 (pv 0))) (amb (atj (af3 (t:=.bool) (akf (by rfl) T.z_bool aqc) (by rfl) T.z_isinstance mq (d7 (pv 0)))))))))
theorem ac3 (F:Fun K "is_whole_within" "is_whole_within" jn f fd) (T:Txt K mg) (d_is_whole:Dfn P w K mg base "is_whole" ["thing"] 1 (spOf K 1 aak)):FnOk P w K mg base CX0 2 f fd ["thing","least","most"] (spOf K 3 jd) :=
  ig F acw rfl rfl fun cdv A outer s H E hr =>
    (az (fu (EV.toR (amd (ER.toD (je d_is_whole (hr.mono (by decide)) (by rfl) (eg_n (pv 0) dj))) (amb (ah5 aos aos (au (pv 1)) (au (pv 0)) (au (pv 2))))))))
theorem ac4 (F:Fun K "is_tuple_within" "is_tuple_within" jo f fd) (T:Txt K mg):FnOk P w K mg base CX0 1 f fd ["thing","least","most"] (spOf K 3 fj) :=
  ig F acx rfl rfl fun cdv A outer s H E hr =>
    (az (fu (EV.toR (amd (af3 (t:=.tuple) (akf (by rfl) T.z_tuple j8) (by rfl) T.z_isinstance mq (d7 (pv 0))) (amb (ah5 aos aos (au (pv 1)) (ER.toD (bu gm (by rfl) T.z_len gq (ea_n (pv 0) bz))) (au (pv 2))))))))
theorem auw (F:Fun K "trap" "trap" agn f fd) (T:Txt K mg):FnOk P w K mg base CX0 1 f fd ["house"] (spOf K 1 ajk) :=
  ig F ae8 rfl rfl fun cdv A outer s H E hr =>
    (ak (di (i:=1) ae8.nd rfl (Or.inr rfl) (aet rfl (by rfl) T.z_list (by rfl) T.z_range (bf (ER.toD (bu gm (by rfl) T.z_len gq (ea_n (pv 0) bz))) dg))) (ak (di (i:=2) ae8.nd rfl (Or.inl rfl) (dw km (e2_v (ER.toD (bu gm (by rfl) T.z_len gq (ea_n (pv 1) bz))) (EV.toB bc)))) (ak (zg fuel PassesOwn.never (jw afi (e2_v (ER.toD (bu gm (by rfl) T.z_len gq (ea_n (pv 1) bz))) (d7 (pv 2))) (lg _)) (ak (di (i:=2) ae8.nd rfl (Or.inl rfl) (bu gm (by rfl) T.z_len gq (ea_n (pv 1) bz))) (az (di (i:=1) ae8.nd rfl (Or.inr rfl) (um ["staying","house"] ["room","staying","house"] [none,some 1,some 0] rfl (ye (au (pv 1))) (fun _ _ _=>(cu (i:=0) (show (["room","staying","house"]:List Str).Nodup by decide +kernel) rfl (Or.inl rfl))) (fun _ _ _=>(af5 (yq (ER.toD (bu (ajo rfl) (by rfl) T.z_all ajv (ea_v (ER.toD (um ["staying"] ["door","staying"] [none,some 1] rfl (ye (ER.toD (ju (e2_n (pv 2) (d7 (pv 0))) (fun _ _=>by rfl)))) (fun _ _ _=>(cu (i:=0) (show (["door","staying"]:List Str).Nodup by decide +kernel) rfl (Or.inl rfl))) (fun _ _ _=>yr) (fun _ _ _=>(ER.toD (apo (aoq hr.units) (e2_n (pv 0) (d7 (pv 1))) (by with_unfolding_all rfl)))))) bz)))))) (fun _ _ _=>(au (pv 0)))))))) (az (fu (gj qg (by rfl) T.z_tuple j8 (ea_n (pv 1) bz)))))))
theorem ac1 (F:Fun K "refuse_not_open" "refuse_not_open" jl f fd) (T:Txt K mg) (d_trap:Dfn P w K mg base "trap" ["house"] 1 (spOf K 1 ajk)):FnOk P w K mg base CX0 2 f fd ["house"] (spOf K 1 lq) :=
  ig F zj rfl rfl fun cdv A outer s H E hr =>
    (ak (di (i:=1) zj.nd rfl (Or.inl rfl) (je d_trap (hr.mono (by decide)) (by rfl) (eg_n (pv 0) dj))) (az (zb (jw (afh hr.units) (e2_n (pv 1) (EV.toB (v8 dg))) (lg _)) (az aew) jx)))
theorem ait (F:Fun K "is_arrows" "is_arrows" ur f fd) (T:Txt K mg) (d_is_tuple_within:Dfn P w K mg base "is_tuple_within" ["thing","least","most"] 1 (spOf K 3 fj)) (d_is_whole_within:Dfn P w K mg base "is_whole_within" ["thing","least","most"] 2 (spOf K 3 jd)):FnOk P w K mg base CX0 3 f fd ["house","thing"] (spOf K 2 ym) :=
  ig F aim rfl rfl fun cdv A outer s H E hr =>
    (ak (zb (zr (yq (ER.toD (je d_is_tuple_within (hr.mono (by decide)) (by rfl) (eg_n (pv 1) (eg_v (ER.toD (bu gm (by rfl) T.z_len gq (ea_n (pv 0) bz))) (eg_v (ER.toD (bu gm (by rfl) T.z_len gq (ea_n (pv 0) bz))) dj))))))) (az (fu (EV.toR ad4))) jx) (az (fu (bu (ajo rfl) (by rfl) T.z_all ajv (ea_v (ER.toD (um [] ["arrow","doors"] [none,none] rfl (afo (by rfl) T.z_zip (bf (au (pv 1)) (bf (au (pv 0)) dg))) (fun _ _ _=>(abi rfl (ik (cu (i:=0) (show (["arrow","doors"]:List Str).Nodup by decide +kernel) rfl (Or.inl rfl)) (ik (cu (i:=1) (show (["arrow","doors"]:List Str).Nodup by decide +kernel) rfl (Or.inl rfl)) yg)))) (fun _ _ _=>yr) (fun _ _ _=>(ER.toD (je d_is_whole_within (hr.mono (by decide)) (by rfl) (eg_n (pv 0) (eg_v bc (eg_v (ER.toD (dw aaq (e2_v (ER.toD (bu gm (by rfl) T.z_len gq (ea_n (pv 1) bz))) (EV.toB bc)))) dj)))))))) bz)))))
theorem ach (F:Fun K "refuse_no_arrows" "refuse_no_arrows" jf f fd) (T:Txt K mg) (d_is_arrows:Dfn P w K mg base "is_arrows" ["house","thing"] 3 (spOf K 2 ym)):FnOk P w K mg base CX0 4 f fd ["house","thing"] (spOf K 2 j5) :=
  ig F acg rfl rfl fun cdv A outer s H E hr =>
    (az (zb (zr (yq (ER.toD (je d_is_arrows (hr.mono (by decide)) (by rfl) (eg_v (au (pv 0)) (eg_v (au (pv 1)) dj)))))) (az aew) jx))
theorem ais (F:Fun K "last_ways" "last_ways" uq f fd) (T:Txt K mg):FnOk P w K mg base CX0 1 f fd ["house","arrows"] (spOf K 2 rn) :=
  ig F ail rfl rfl fun cdv A outer s H E hr =>
    (az (fu (gj qg (by rfl) T.z_tuple j8 (ea_v (ER.toD (um [] ["arrow","doors"] [none,none] rfl (afo (by rfl) T.z_zip (bf (au (pv 1)) (bf (au (pv 0)) dg))) (fun _ _ _=>(abi rfl (ik (cu (i:=0) (show (["arrow","doors"]:List Str).Nodup by decide +kernel) rfl (Or.inl rfl)) (ik (cu (i:=1) (show (["arrow","doors"]:List Str).Nodup by decide +kernel) rfl (Or.inl rfl)) yg)))) (fun _ _ _=>yr) (fun _ _ _=>(ER.toD (ju (e2_n (pv 1) (EV.toB (ER.toD (dw aaq (e2_n (pv 0) (EV.toB bc)))))) (fun _ _=>by rfl)))))) bz))))
theorem agf (F:Fun K "going_round" "going_round" ph f fd) (T:Txt K mg):FnOk P w K mg base CX0 1 f fd ["last","rooms"] (spOf K 2 uf) :=
  ig F qm rfl rfl fun cdv A outer s H E hr =>
    (ak (di (i:=2) qm.nd rfl (Or.inr rfl) (gj ad9 (by rfl) T.z_list acr (ea_n (pv 1) bz))) (ak (di (i:=3) qm.nd rfl (Or.inl rfl) (dw km (e2_v (ER.toD (bu gm (by rfl) T.z_len gq (ea_n (pv 2) bz))) (EV.toB bc)))) (ak (zg fuel PassesOwn.never (jw afi (e2_v (ER.toD (bu gm (by rfl) T.z_len gq (ea_n (pv 2) bz))) (d7 (pv 3))) (lg _)) (ak (di (i:=3) qm.nd rfl (Or.inl rfl) (bu gm (by rfl) T.z_len gq (ea_n (pv 2) bz))) (az (di (i:=2) qm.nd rfl (Or.inr rfl) (um ["staying","last"] ["room","staying","last"] [none,some 2,some 0] rfl (ye (au (pv 2))) (fun _ _ _=>(cu (i:=0) (show (["room","staying","last"]:List Str).Nodup by decide +kernel) rfl (Or.inl rfl))) (fun _ _ _=>(af5 (jw (aoq hr.units) (e2_v (ER.toD (ju (e2_n (pv 2) (d7 (pv 0))) (fun _ _=>by rfl))) (d7 (pv 1))) (by with_unfolding_all rfl)))) (fun _ _ _=>(au (pv 0)))))))) (az (fu (af4 (pv 2)))))))
theorem aki (F:Fun K "lead_out" "lead_out" xg f fd) (T:Txt K mg) (d_last_ways:Dfn P w K mg base "last_ways" ["house","arrows"] 1 (spOf K 2 rn)) (d_going_round:Dfn P w K mg base "going_round" ["last","rooms"] 1 (spOf K 2 uf)):FnOk P w K mg base CX0 2 f fd ["house","arrows"] (spOf K 2 aaj) :=
  ig F akb rfl rfl fun cdv A outer s H E hr =>
    (az (fu (apo (as7 hr.units) (e2_v (ER.toD (je d_going_round (hr.mono (by decide)) (by rfl) (eg_v (ER.toD (je d_last_ways (hr.mono (by decide)) (by rfl) (eg_v (au (pv 0)) (eg_v (au (pv 1)) dj)))) (eg_v (ER.toD (aet rfl (by rfl) T.z_list (by rfl) T.z_range (bf (ER.toD (bu gm (by rfl) T.z_len gq (ea_n (pv 0) bz))) dg))) dj)))) (EV.toB (ER.toD (uh dg)))) (lg _))))
theorem ab7 (F:Fun K "refuse_never_back" "refuse_never_back" iu f fd) (T:Txt K mg) (d_lead_out:Dfn P w K mg base "lead_out" ["house","arrows"] 2 (spOf K 2 aaj)):FnOk P w K mg base CX0 3 f fd ["house","arrows"] (spOf K 2 jt) :=
  ig F ab5 rfl rfl fun cdv A outer s H E hr =>
    (az (zb (zr (yq (ER.toD (je d_lead_out (hr.mono (by decide)) (by rfl) (eg_v (au (pv 0)) (eg_v (au (pv 1)) dj)))))) (az aew) jx))
theorem ahp (F:Fun K "is_walkers" "is_walkers" sr f fd) (T:Txt K mg) (d_is_tuple_within:Dfn P w K mg base "is_tuple_within" ["thing","least","most"] 1 (spOf K 3 fj)) (d_is_whole_within:Dfn P w K mg base "is_whole_within" ["thing","least","most"] 2 (spOf K 3 jd)):FnOk P w K mg base CX0 3 f fd ["house","thing","most"] (spOf K 3 v5) :=
  ig F ahe rfl rfl fun cdv A outer s H E hr =>
    (ak (zb (zr (yq (ER.toD (je d_is_tuple_within (hr.mono (by decide)) (by rfl) (eg_n (pv 1) (eg_v (ER.toD (bu gm (by rfl) T.z_len gq (ea_n (pv 0) bz))) (eg_v (ER.toD (bu gm (by rfl) T.z_len gq (ea_n (pv 0) bz))) dj))))))) (az (fu (EV.toR ad4))) jx) (az (fu (bu (ajo rfl) (by rfl) T.z_all ajv (ea_v (ER.toD (um ["most"] ["many","most"] [none,some 2] rfl (ye (au (pv 1))) (fun _ _ _=>(cu (i:=0) (show (["many","most"]:List Str).Nodup by decide +kernel) rfl (Or.inl rfl))) (fun _ _ _=>yr) (fun _ _ _=>(ER.toD (je d_is_whole_within (hr.mono (by decide)) (by rfl) (eg_n (pv 0) (eg_v bc (eg_n (pv 1) dj)))))))) bz)))))
theorem ab6 (F:Fun K "refuse_no_walkers" "refuse_no_walkers" ir f fd) (T:Txt K mg) (d_is_walkers:Dfn P w K mg base "is_walkers" ["house","thing","most"] 3 (spOf K 3 v5)):FnOk P w K mg base CX0 4 f fd ["house","thing"] (spOf K 2 jr) :=
  ig F ab4 rfl rfl fun cdv A outer s H E hr =>
    (az (zb (zr (yq (ER.toD (je d_is_walkers (hr.mono (by decide)) (by rfl) (eg_n (pv 0) (eg_v (au (pv 1)) (eg_v (ev_c (a1l (by rfl) T.c_MOST_WALKERS) fun _=>.int _) dj))))))) (az aew) jx))
theorem ac2 (F:Fun K "refuse_no_crowd" "refuse_no_crowd" jm f fd) (T:Txt K mg) (d_refuse_no_arrows:Dfn P w K mg base "refuse_no_arrows" ["house","thing"] 4 (spOf K 2 j5)) (d_refuse_no_walkers:Dfn P w K mg base "refuse_no_walkers" ["house","thing"] 4 (spOf K 2 jr)):FnOk P w K mg base CX0 5 f fd ["house","arrows","walkers"] (spOf K 3 lu) :=
  ig F acv rfl rfl fun cdv A outer s H E hr =>
    (ak (xr (je d_refuse_no_arrows (hr.mono (by decide)) (by rfl) (eg_v (au (pv 0)) (eg_v (au (pv 1)) dj)))) (az (xr (je d_refuse_no_walkers (hr.mono (by decide)) (by rfl) (eg_n (pv 0) (eg_v (au (pv 2)) dj))))))
theorem aev (F:Fun K "ahead_on_ring" "ahead_on_ring" kj f fd) (T:Txt K mg):FnOk P w K mg base CX0 1 f fd ["last","put_in","place"] (spOf K 3 f_ahead_on_ring) :=
  ig F my rfl rfl fun cdv A outer s H E hr =>
    (ak (di (i:=3) my.nd rfl (Or.inl rfl) (EV.toR (au (pv 2)))) (ak (di (i:=4) my.nd rfl (Or.inl rfl) (ay6 (jw abe (e2_n (pv 3) (EV.toB bc)) (lg _)) (ju (e2_n (pv 0) (d7 (pv 3))) (fun _ _=>by rfl)) (EV.toR (au (pv 1))))) (ak (zg fuel PassesOwn.never (jw (afh hr.units) (e2_n (pv 4) (d7 (pv 2))) (lg _)) (ak (di (i:=3) my.nd rfl (Or.inl rfl) (EV.toR (au (pv 4)))) (az (di (i:=4) my.nd rfl (Or.inl rfl) (ay6 (jw abe (e2_n (pv 3) (EV.toB bc)) (lg _)) (ju (e2_n (pv 0) (d7 (pv 3))) (fun _ _=>by rfl)) (EV.toR (au (pv 1)))))))) (az (fu (af4 (pv 3)))))))
theorem am2 (F:Fun K "gate_by" "gate_by" aab f fd) (T:Txt K mg):FnOk P w K mg base CX0 1 f fd ["last","room"] (spOf K 2 abk) :=
  ig F adu rfl rfl fun cdv A outer s H E hr =>
    (ak (di (i:=2) adu.nd rfl (Or.inl rfl) (EV.toR (au (pv 1)))) (ak (zg fuel PassesOwn.never (jw abe (e2_n (pv 2) (EV.toB bc)) (lg _)) (az (di (i:=2) adu.nd rfl (Or.inl rfl) (ju (e2_n (pv 0) (d7 (pv 2))) (fun _ _=>by rfl))))) (az (fu (af4 (pv 2))))))
theorem aot (F:Fun K "undone" "undone" abr f fd) (T:Txt K mg) (d_last_ways:Dfn P w K mg base "last_ways" ["house","arrows"] 1 (spOf K 2 rn)) (d_gate_by:Dfn P w K mg base "gate_by" ["last","room"] 1 (spOf K 2 abk)) (d_ahead_on_ring:Dfn P w K mg base "ahead_on_ring" ["last","put_in","place"] 1 (spOf K 3 f_ahead_on_ring)):FnOk P w K mg base CX0 2 f fd ["house","arrows","room"] (spOf K 3 adg) :=
  ig F vm rfl rfl fun cdv A outer s H E hr =>
    (ak (di (i:=3) vm.nd rfl (Or.inl rfl) (gj ad9 (by rfl) T.z_list acr (ea_n (pv 1) bz))) (ak (di (i:=4) vm.nd rfl (Or.inl rfl) (gj ad9 (by rfl) T.z_list acr (ea_v (ER.toD (je d_last_ways (hr.mono (by decide)) (by rfl) (eg_v (au (pv 0)) (eg_v (au (pv 1)) dj)))) bz))) (ak (di (i:=5) vm.nd rfl (Or.inl rfl) (je d_gate_by (hr.mono (by decide)) (by rfl) (eg_n (pv 4) (eg_v (au (pv 2)) dj)))) (ak (di (i:=6) vm.nd rfl (Or.inl rfl) (uh dg)) (ak (di (i:=7) vm.nd rfl (Or.inl rfl) (je d_ahead_on_ring (hr.mono (by decide)) (by rfl) (eg_n (pv 4) (eg_v (au (pv 2)) (eg_v (au (pv 5)) dj))))) (ak (zg fuel PassesOwn.never (jw abe (e2_n (pv 7) (EV.toB bc)) (lg _)) (ak (xr (EV.toR (amc abu PySem.F.slot_list_append PySem.F.type_list_append abf (pv 6) (bf (au (pv 5)) dg)))) (ak (aed (ER.toD (dw zy (e2_v (ER.toD (dw aaq (e2_v (ER.toD (ju (e2_n (pv 3) (d7 (pv 7))) (fun _ _=>by rfl))) (EV.toB bc)))) (EV.toB (ER.toD (bu gm (by rfl) T.z_len gq (ea_v (ER.toD (ju (e2_n (pv 0) (d7 (pv 7))) (fun _ _=>by rfl))) bz))))))) (pv 3) (au (pv 7))) (ak (aed (ER.toD (ju (e2_v (ER.toD (ju (e2_n (pv 0) (d7 (pv 7))) (fun _ _=>by rfl))) (EV.toB (ER.toD (dw aaq (e2_v (ER.toD (ju (e2_n (pv 3) (d7 (pv 7))) (fun _ _=>by rfl))) (EV.toB bc)))))) (fun _ _=>by rfl))) (pv 4) (au (pv 7))) (ak (di (i:=5) vm.nd rfl (Or.inl rfl) (EV.toR (au (pv 7)))) (az (di (i:=7) vm.nd rfl (Or.inl rfl) (je d_ahead_on_ring (hr.mono (by decide)) (by rfl) (eg_n (pv 4) (eg_v (au (pv 2)) (eg_v (au (pv 5)) dj))))))))))) (ak (xr (EV.toR (av3 akl PySem.F.slot_list_reverse PySem.F.type_list_reverse mt_reverse (pv 6)))) (az (fu (EV.toR (v8 (bf (ER.toD (gj qg (by rfl) T.z_tuple j8 (ea_n (pv 3) bz))) (bf (au (pv 6)) dg)))))))))))))
theorem adx (F:Fun K "count_leavings" "count_leavings" jy f fd) (T:Txt K mg):FnOk P w K mg base CX0 1 f fd ["leavings","room","places"] (spOf K 3 m5) :=
  ig F aaa rfl rfl fun cdv A outer s H E hr =>
    (ak (aif (pv 0) (au (pv 1)) bc ate) (az (xq PassesOwn.never rfl (ye (ER.toD (ak3 (pv 2) ah7 (ad6 (af2 bc))))) (cu (i:=3) aaa.nd rfl (Or.inl rfl)) (az (aif (pv 0) (au (pv 3)) bc ate)))))
theorem aeu (F:Fun K "led_back_each" "led_back_each" kh f fd) (T:Txt K mg) (d_undone:Dfn P w K mg base "undone" ["house","arrows","room"] 2 (spOf K 3 adg)) (d_count_leavings:Dfn P w K mg base "count_leavings" ["leavings","room","places"] 1 (spOf K 3 m5)):FnOk P w K mg base CX0 3 f fd ["house","arrows","walkers"] (spOf K 3 n6) :=
  ig F jg rfl rfl fun cdv A outer s H E hr =>
    (ak (di (i:=3) jg.nd rfl (Or.inl rfl) (dw abd (e2_v (ER.toD (uh (bf bc dg))) (EV.toB (ER.toD (bu gm (by rfl) T.z_len gq (ea_n (pv 0) bz))))))) (ak (xq PassesOwn.never rfl (akt (by rfl) T.z_enumerate (bf (au (pv 2)) dg)) (abi rfl (ik (cu (i:=4) jg.nd rfl (Or.inl rfl)) (ik (cu (i:=5) jg.nd rfl (Or.inl rfl)) yg))) (az (xq PassesOwn.never rfl (v4 (by rfl) T.z_range (bf (au (pv 5)) dg)) (cu (i:=6) jg.nd rfl (Or.inl rfl)) (ak (di (i:=7) jg.nd rfl (Or.inl rfl) (je d_undone (hr.mono (by decide)) (by rfl) (eg_v (au (pv 0)) (eg_v (au (pv 1)) (eg_v (au (pv 4)) dj))))) (ak (di (i:=1) jg.nd rfl (Or.inl rfl) (ju (e2_n (pv 7) (EV.toB bc)) (fun _ _=>by rfl))) (az (xr (je d_count_leavings (hr.mono (by decide)) (by rfl) (eg_n (pv 3) (eg_v (au (pv 4)) (eg_v (ER.toD (ju (e2_n (pv 7) (EV.toB bc)) (fun _ _=>by rfl))) dj))))))))))) (az (fu (EV.toR (v8 (bf (au (pv 1)) (bf (ER.toD (gj qg (by rfl) T.z_tuple j8 (ea_n (pv 3) bz))) dg))))))))
theorem afj (F:Fun K "led_back_all" "led_back_all" m7 f fd) (T:Txt K mg) (d_refuse_no_crowd:Dfn P w K mg base "refuse_no_crowd" ["house","arrows","walkers"] 5 (spOf K 3 lu)) (d_refuse_not_open:Dfn P w K mg base "refuse_not_open" ["house"] 2 (spOf K 1 lq)) (d_refuse_never_back:Dfn P w K mg base "refuse_never_back" ["house","arrows"] 3 (spOf K 2 jt)) (d_led_back_each:Dfn P w K mg base "led_back_each" ["house","arrows","walkers"] 3 (spOf K 3 n6)):FnOk P w K mg base CX0 6 f fd ["house","arrows","walkers"] (spOf K 3 qp) :=
  ig F ae9 rfl rfl fun cdv A outer s H E hr =>
    (ak (xr (je d_refuse_no_crowd (hr.mono (by decide)) (by rfl) (eg_v (au (pv 0)) (eg_v (au (pv 1)) (eg_v (au (pv 2)) dj))))) (ak (xr (je d_refuse_not_open (hr.mono (by decide)) (by rfl) (eg_n (pv 0) dj))) (ak (xr (je d_refuse_never_back (hr.mono (by decide)) (by rfl) (eg_v (au (pv 0)) (eg_v (au (pv 1)) dj)))) (az (fu (je d_led_back_each (hr.mono (by decide)) (by rfl) (eg_v (au (pv 0)) (eg_v (au (pv 1)) (eg_v (au (pv 2)) dj)))))))))
theorem ai0 (F:Fun K "_law_cell" "_law_cell" u0 f fd) (T:Txt K mg):FnOk P w K mg base CX0 1 f fd ["script","k"] (spOf K 2 f__law_cell) :=
  ig F aio rfl rfl fun cdv A outer s H E hr =>
    (ak (zb (jw afi (e2_n (pv 1) (EV.toB (ER.toD (bu gm (by rfl) T.z_len gq (ea_n (pv 0) bz))))) (lg _)) (az (fu (ju (e2_n (pv 0) (d7 (pv 1))) (fun _ _=>by rfl)))) jx) (az (fu (EV.toR bc))))
theorem akk (F:Fun K "_law_pen" "_law_pen" xm f fd) (T:Txt K mg):FnOk P w K mg base CX0 1 f fd ["cell"] (spOf K 1 f__law_pen) :=
  ig F afb rfl rfl fun cdv A outer s H E hr =>
    (ak (di (i:=1) afb.nd rfl (Or.inl rfl) (bu (azd rfl) (by rfl) T.z_max azi (ea_n (pv 0) (ea_v (ER.toD (dw aaq (e2_v bc (d7 (pv 0))))) bz)))) (az (fu (uh (bf (au (pv 1)) (bf (ER.toD (gj aze (by rfl) T.z_int aqa (ea_v (ER.toD (apo abe (e2_n (pv 1) (EV.toB (ER.toD (dw aus (e2_v bc (EV.toB bc)))))) (lg _))) bz))) dg))))))
theorem aiz (F:Fun K "_law_draw" "_law_draw" uz f fd) (T:Txt K mg):FnOk P w K mg base CX0 1 f fd ["pen","many"] (spOf K 2 f__law_draw) :=
  ig F vp rfl rfl fun cdv A outer s H E hr =>
    (ak (zb (jw (as7 hr.units) (e2_v (ER.toD (ju (e2_n (pv 0) (EV.toB bc)) (fun _ _=>by rfl))) (EV.toB bc)) (lg _)) (ak (an5 (ER.toD (bu ap3 (by rfl) T.z_divmod aqb (ea_v (ER.toD (ju (e2_n (pv 0) (EV.toB bc)) (fun _ _=>by rfl))) (ea_n (pv 1) bz)))) (abi rfl (ik (cu (i:=2) vp.nd rfl (Or.inl rfl)) (ik (cu (i:=3) vp.nd rfl (Or.inl rfl)) yg)))) (ak (aed (au (pv 2)) (pv 0) bc) (az (fu (af4 (pv 3)))))) jx) (ak (di (i:=4) vp.nd rfl (Or.inl rfl) (dw zy (e2_v (ER.toD (dw abd (e2_v (ER.toD (dw km (e2_v (ER.toD (dw zy (e2_v (ER.toD (ju (e2_n (pv 0) (EV.toB bc)) (fun _ _=>by rfl))) (EV.toB bc)))) (EV.toB bc)))) (EV.toB bc)))) (EV.toB bc)))) (ak (di (i:=4) vp.nd rfl (Or.inl rfl) (dw zy (e2_v (ER.toD (dw km (e2_v (ER.toD (dw abd (e2_n (pv 4) (d7 (pv 4))))) (EV.toB bc)))) (EV.toB bc)))) (ak (aed (ER.toD (dw zy (e2_v (ER.toD (dw km (e2_v (ER.toD (dw abd (e2_n (pv 4) (EV.toB bc)))) (EV.toB bc)))) (EV.toB bc)))) (pv 0) bc) (az (fu (dw zy (e2_v (ER.toD (dw aut (e2_v (ER.toD (ju (e2_n (pv 0) (EV.toB bc)) (fun _ _=>by rfl))) (EV.toB bc)))) (d7 (pv 1))))))))))
theorem ahq (F:Fun K "_law_whole" "_law_whole" su f fd) (T:Txt K mg):FnOk P w K mg base CX0 1 f fd ["thing"] (spOf K 1 v6) :=
  ig F ahf rfl rfl fun cdv A outer s H E hr =>
    (az (fu (EV.toR (amd (af3 (t:=.int) (akf (by rfl) T.z_int aqa) (by rfl) T.z_isinstance mq (d7 (pv 0))) (amb (atj (af3 (t:=.bool) (akf (by rfl) T.z_bool aqc) (by rfl) T.z_isinstance mq (d7 (pv 0)))))))))
theorem aht (F:Fun K "_law_house" "_law_house" t6 f fd) (T:Txt K mg) (d__law_draw:Dfn P w K mg base "_law_draw" ["pen","many"] 1 (spOf K 2 f__law_draw)):FnOk P w K mg base CX0 2 f fd ["pen","most","doors"] (spOf K 3 f__law_house) :=
  ig F ou rfl rfl fun cdv A outer s H E hr =>
    (ak (di (i:=3) ou.nd rfl (Or.inr rfl) (dw km (e2_v bc (EV.toB (ER.toD (je d__law_draw (hr.mono (by decide)) (by rfl) (eg_n (pv 0) (eg_n (pv 1) dj)))))))) (ak (di (i:=4) ou.nd rfl (Or.inr rfl) (ju (e2_v (ER.toD (uh (bf bc (bf bc (bf bc (bf bc dg)))))) (EV.toB (ER.toD (je d__law_draw (hr.mono (by decide)) (by rfl) (eg_n (pv 0) (eg_v bc dj)))))) (fun _ _=>by rfl))) (ak (di (i:=5) ou.nd rfl (Or.inl rfl) (uh dg)) (ak (xq PassesOwn.never rfl (v4 (by rfl) T.z_range (bf (au (pv 3)) dg)) (cu (i:=6) ou.nd rfl (Or.inl rfl)) (ak (di (i:=7) ou.nd rfl (Or.inl rfl) (dw km (e2_v bc (EV.toB (ER.toD (je d__law_draw (hr.mono (by decide)) (by rfl) (eg_n (pv 0) (eg_n (pv 2) dj)))))))) (az (xr (EV.toR (amc abu PySem.F.slot_list_append PySem.F.type_list_append abf (pv 5) (bf (ER.toD (gj qg (by rfl) T.z_tuple j8 (ea_v (ER.toD (um ["pen","many","gates"] ["door","pen","many","gates"] [none,some 0,some 3,some 4] rfl (v4 (by rfl) T.z_range (bf (au (pv 7)) dg)) (fun _ _ _=>(cu (i:=0) (show (["door","pen","many","gates"]:List Str).Nodup by decide +kernel) rfl (Or.inl rfl))) (fun _ _ _=>yr) (fun _ _ _=>(ER.toD (dw aaq (e2_v (ER.toD (je d__law_draw (hr.mono (by decide)) (by rfl) (eg_n (pv 1) (eg_v (ER.toD (dw km (e2_n (pv 2) (d7 (pv 3))))) dj)))) (d7 (pv 3)))))))) bz))) dg))))))) (az (fu (gj qg (by rfl) T.z_tuple j8 (ea_n (pv 5) bz))))))))
theorem afk (F:Fun K "_law_reached" "_law_reached" m8 f fd) (T:Txt K mg):FnOk P w K mg base CX0 1 f fd ["house","room"] (spOf K 2 qt) :=
  ig F nj rfl rfl fun cdv A outer s H E hr =>
    (ak (di (i:=2) nj.nd rfl (Or.inr rfl) (uh (bf (au (pv 1)) dg))) (ak (di (i:=3) nj.nd rfl (Or.inl rfl) (EV.toR bc)) (ak (zg fuel PassesOwn.never (jw afi (e2_n (pv 3) (EV.toB (ER.toD (bu gm (by rfl) T.z_len gq (ea_n (pv 2) bz))))) (lg _)) (ak (zb (jw abe (e2_v (ER.toD (ju (e2_n (pv 2) (d7 (pv 3))) (fun _ _=>by rfl))) (EV.toB bc)) (lg _)) (az (di (i:=2) nj.nd rfl (Or.inr rfl) (dw km (e2_n (pv 2) (EV.toB (ER.toD (um ["found"] ["door","found"] [none,some 2] rfl (ye (ER.toD (ajl rfl (by rfl) T.z_sorted ap9 (by rfl) T.z_set azg (ea_v (ER.toD (ju (e2_n (pv 0) (EV.toB (ER.toD (ju (e2_n (pv 2) (d7 (pv 3))) (fun _ _=>by rfl))))) (fun _ _=>by rfl))) bz)))) (fun _ _ _=>(cu (i:=0) (show (["door","found"]:List Str).Nodup by decide +kernel) rfl (Or.inl rfl))) (fun _ _ _=>(af5 (jw (afg hr.units) (e2_n (pv 0) (d7 (pv 1))) (by with_unfolding_all rfl)))) (fun _ _ _=>(au (pv 0)))))))))) jx) (az (di (i:=3) nj.nd rfl (Or.inl rfl) (dw km (e2_n (pv 3) (EV.toB bc))))))) (az (fu (af4 (pv 2)))))))
theorem aiu (F:Fun K "_law_open" "_law_open" ut f fd) (T:Txt K mg) (d__law_house:Dfn P w K mg base "_law_house" ["pen","most","doors"] 2 (spOf K 3 f__law_house)) (d__law_reached:Dfn P w K mg base "_law_reached" ["house","room"] 1 (spOf K 2 qt)) (d__law_draw:Dfn P w K mg base "_law_draw" ["pen","many"] 1 (spOf K 2 f__law_draw)):FnOk P w K mg base CX0 3 f fd ["pen","most","doors"] (spOf K 3 f__law_open) :=
  ig F zm rfl rfl fun cdv A outer s H E hr =>
    (ak (di (i:=3) zm.nd rfl (Or.inl rfl) (gj ad9 (by rfl) T.z_list acr (ea_v (ER.toD (je d__law_house (hr.mono (by decide)) (by rfl) (eg_n (pv 0) (eg_n (pv 1) (eg_n (pv 2) dj))))) bz))) (ak (xq PassesOwn.never rfl (v4 (by rfl) T.z_range (bf (ER.toD (bu gm (by rfl) T.z_len gq (ea_n (pv 3) bz))) dg)) (cu (i:=4) zm.nd rfl (Or.inl rfl)) (az (zb (jw abe (e2_v (ER.toD (bu (av8 rfl) (by rfl) T.z_min azh (ea_v (ER.toD (je d__law_reached (hr.mono (by decide)) (by rfl) (eg_n (pv 3) (eg_v (au (pv 4)) dj)))) bz))) (EV.toB bc)) (lg _)) (ak (di (i:=5) zm.nd rfl (Or.inl rfl) (je d__law_draw (hr.mono (by decide)) (by rfl) (eg_n (pv 0) (eg_v (ER.toD (bu gm (by rfl) T.z_len gq (ea_v (ER.toD (ju (e2_n (pv 3) (d7 (pv 4))) (fun _ _=>by rfl))) bz))) dj)))) (az (aed (ER.toD (dw km (e2_v (ER.toD (dw km (e2_v (ER.toD (atk (ER.toD (ju (e2_n (pv 3) (d7 (pv 4))) (fun _ _=>by rfl))) ah7 (ad6 (au (pv 5))))) (EV.toB (v8 (bf (ER.toD (dw aaq (e2_v (af2 bc) (EV.toB (ER.toD (je d__law_draw (hr.mono (by decide)) (by rfl) (eg_n (pv 0) (eg_v bc dj)))))))) dg)))))) (EV.toB (ER.toD (atk (ER.toD (ju (e2_n (pv 3) (d7 (pv 4))) (fun _ _=>by rfl))) (ad6 (ER.toD (dw km (e2_n (pv 5) (EV.toB bc))))) ah7)))))) (pv 3) (au (pv 4))))) jx))) (az (fu (gj qg (by rfl) T.z_tuple j8 (ea_n (pv 3) bz))))))
theorem agh (F:Fun K "_law_arrows" "_law_arrows" qb f fd) (T:Txt K mg) (d__law_draw:Dfn P w K mg base "_law_draw" ["pen","many"] 1 (spOf K 2 f__law_draw)):FnOk P w K mg base CX0 2 f fd ["pen","house"] (spOf K 2 f__law_arrows) :=
  ig F age rfl rfl fun cdv A outer s H E hr =>
    (az (fu (gj qg (by rfl) T.z_tuple j8 (ea_v (ER.toD (um ["pen"] ["doors","pen"] [none,some 0] rfl (ye (au (pv 1))) (fun _ _ _=>(cu (i:=0) (show (["doors","pen"]:List Str).Nodup by decide +kernel) rfl (Or.inl rfl))) (fun _ _ _=>yr) (fun _ _ _=>(ER.toD (je d__law_draw (hr.mono (by decide)) (by rfl) (eg_n (pv 1) (eg_v (ER.toD (bu gm (by rfl) T.z_len gq (ea_n (pv 0) bz))) dj))))))) bz))))
theorem aiv (F:Fun K "_law_left" "_law_left" uv f fd) (T:Txt K mg):FnOk P w K mg base CX0 1 f fd ["house","arrows","room"] (spOf K 3 yo) :=
  ig F aa9 rfl rfl fun cdv A outer s H E hr =>
    (ak (di (i:=3) aa9.nd rfl (Or.inl rfl) (ju (e2_n (pv 1) (d7 (pv 2))) (fun _ _=>by rfl))) (ak (di (i:=4) aa9.nd rfl (Or.inl rfl) (gj ad9 (by rfl) T.z_list acr (ea_n (pv 1) bz))) (ak (aed (ER.toD (dw zy (e2_v (ER.toD (dw km (e2_n (pv 3) (EV.toB bc)))) (EV.toB (ER.toD (bu gm (by rfl) T.z_len gq (ea_v (ER.toD (ju (e2_n (pv 0) (d7 (pv 2))) (fun _ _=>by rfl))) bz))))))) (pv 4) (au (pv 2))) (az (fu (EV.toR (v8 (bf (ER.toD (gj qg (by rfl) T.z_tuple j8 (ea_n (pv 4) bz))) (bf (ER.toD (ju (e2_v (ER.toD (ju (e2_n (pv 0) (d7 (pv 2))) (fun _ _=>by rfl))) (d7 (pv 3))) (fun _ _=>by rfl))) dg)))))))))
theorem ahr (F:Fun K "_law_tuple" "_law_tuple" sy f fd) (T:Txt K mg) (d__law_whole:Dfn P w K mg base "_law_whole" ["thing"] 1 (spOf K 1 v6)):FnOk P w K mg base CX0 2 f fd ["found","due"] (spOf K 2 t8) :=
  ig F ahg rfl rfl fun cdv A outer s H E hr =>
    (ak (zb (EW.pt (ak2 (zr (yq (af3 (t:=.tuple) (akf (by rfl) T.z_tuple j8) (by rfl) T.z_isinstance mq (d7 (pv 0))))) (ag0 (jw (afh hr.units) (e2_n (pv 0) (d7 (pv 1))) (lg _))))) (az (fu (EV.toR ad4))) jx) (az (fu (bu (ajo rfl) (by rfl) T.z_all ajv (ea_v (ER.toD (um [] ["one"] [none] rfl (ye (au (pv 0))) (fun _ _ _=>(cu (i:=0) (show (["one"]:List Str).Nodup by decide +kernel) rfl (Or.inl rfl))) (fun _ _ _=>yr) (fun _ _ _=>(ER.toD (je d__law_whole (hr.mono (by decide)) (by rfl) (eg_n (pv 0) dj)))))) bz)))))
theorem aix (F:Fun K "_law_gone" "_law_gone" ux f fd) (T:Txt K mg) (d__law_left:Dfn P w K mg base "_law_left" ["house","arrows","room"] 1 (spOf K 3 yo)):FnOk P w K mg base CX0 2 f fd ["house","arrows","room","most"] (spOf K 4 f__law_gone) :=
  ig F vo rfl rfl fun cdv A outer s H E hr =>
    (ak (di (i:=4) vo.nd rfl (Or.inl rfl) (uh dg)) (ak (di (i:=5) vo.nd rfl (Or.inl rfl) (EV.toR (au (pv 2)))) (ak (zg fuel PassesOwn.never (EW.pt (ay4 (jw abe (e2_n (pv 5) (EV.toB bc)) (lg _)) (av2 (jw afi (e2_v (ER.toD (bu gm (by rfl) T.z_len gq (ea_n (pv 4) bz))) (d7 (pv 3))) (lg _))))) (ak (an5 (ER.toD (je d__law_left (hr.mono (by decide)) (by rfl) (eg_n (pv 0) (eg_n (pv 1) (eg_v (au (pv 5)) dj))))) (abi rfl (ik (cu (i:=1) vo.nd rfl (Or.inl rfl)) (ik (cu (i:=5) vo.nd rfl (Or.inl rfl)) yg)))) (az (xr (EV.toR (amc abu PySem.F.slot_list_append PySem.F.type_list_append abf (pv 4) (bf (au (pv 5)) dg))))))) (az (fu (EV.toR (v8 (bf (au (pv 1)) (bf (au (pv 4)) dg)))))))))
theorem agg (F:Fun K "_law_counts" "_law_counts" pq f fd) (T:Txt K mg):FnOk P w K mg base CX0 1 f fd ["house","room","places"] (spOf K 3 ug) :=
  ig F zx rfl rfl fun cdv A outer s H E hr =>
    (ak (di (i:=3) zx.nd rfl (Or.inl rfl) (dw abd (e2_v (ER.toD (uh (bf bc dg))) (EV.toB (ER.toD (bu gm (by rfl) T.z_len gq (ea_n (pv 0) bz))))))) (ak (xq PassesOwn.never rfl (ye (ER.toD (dw km (e2_v (ER.toD (uh (bf (au (pv 1)) dg))) (EV.toB (ER.toD (ak3 (pv 2) ah7 (ad6 (af2 bc))))))))) (cu (i:=4) zx.nd rfl (Or.inl rfl)) (az (aed (ER.toD (dw km (e2_v (ER.toD (ju (e2_n (pv 3) (d7 (pv 4))) (fun _ _=>by rfl))) (EV.toB bc)))) (pv 3) (au (pv 4))))) (az (fu (gj qg (by rfl) T.z_tuple j8 (ea_n (pv 3) bz))))))
theorem aiw (F:Fun K "_law_last" "_law_last" uw f fd) (T:Txt K mg):FnOk P w K mg base CX0 1 f fd ["house","arrows"] (spOf K 2 yp) :=
  ig F ain rfl rfl fun cdv A outer s H E hr =>
    (az (fu (um [] ["doors","arrow"] [none,none] rfl (afo (by rfl) T.z_zip (bf (au (pv 0)) (bf (au (pv 1)) dg))) (fun _ _ _=>(abi rfl (ik (cu (i:=0) (show (["doors","arrow"]:List Str).Nodup by decide +kernel) rfl (Or.inl rfl)) (ik (cu (i:=1) (show (["doors","arrow"]:List Str).Nodup by decide +kernel) rfl (Or.inl rfl)) yg)))) (fun _ _ _=>yr) (fun _ _ _=>(ER.toD (ju (e2_n (pv 0) (EV.toB (ER.toD (dw zy (e2_v (ER.toD (dw aaq (e2_n (pv 1) (EV.toB bc)))) (EV.toB (ER.toD (bu gm (by rfl) T.z_len gq (ea_n (pv 0) bz))))))))) (fun _ _=>by rfl)))))))
theorem aiy (F:Fun K "_law_free" "_law_free" uy f fd) (T:Txt K mg) (d__law_last:Dfn P w K mg base "_law_last" ["house","arrows"] 1 (spOf K 2 yp)):FnOk P w K mg base CX0 2 f fd ["house","arrows"] (spOf K 2 u9) :=
  ig F rz rfl rfl fun cdv A outer s H E hr =>
    (ak (di (i:=2) rz.nd rfl (Or.inl rfl) (je d__law_last (hr.mono (by decide)) (by rfl) (eg_v (au (pv 0)) (eg_v (au (pv 1)) dj)))) (ak (xq PassesOwn.never rfl (v4 (by rfl) T.z_range (bf (ER.toD (bu gm (by rfl) T.z_len gq (ea_n (pv 0) bz))) dg)) (cu (i:=3) rz.nd rfl (Or.inl rfl)) (ak (di (i:=4) rz.nd rfl (Or.inl rfl) (EV.toR (au (pv 3)))) (ak (xq PassesOwn.never rfl (v4 (by rfl) T.z_range (bf (ER.toD (bu gm (by rfl) T.z_len gq (ea_n (pv 0) bz))) dg)) (cu (i:=5) rz.nd rfl (Or.inl rfl)) (az (zb (jw abe (e2_n (pv 4) (EV.toB bc)) (lg _)) (az (di (i:=4) rz.nd rfl (Or.inl rfl) (ju (e2_n (pv 2) (d7 (pv 4))) (fun _ _=>by rfl)))) jx))) (az (zb (jw abe (e2_n (pv 4) (EV.toB bc)) (lg _)) (az (fu (EV.toR ad4))) jx))))) (az (fu (EV.toR ad4)))))
theorem ahu (F:Fun K "_law_freed" "_law_freed" t7 f fd) (T:Txt K mg) (d__law_draw:Dfn P w K mg base "_law_draw" ["pen","many"] 1 (spOf K 2 f__law_draw)):FnOk P w K mg base CX0 2 f fd ["pen","house","arrows"] (spOf K 3 v7) :=
  ig F o9 rfl rfl fun cdv A outer s H E hr =>
    (ak (di (i:=3) o9.nd rfl (Or.inr rfl) (uh dg)) (ak (di (i:=4) o9.nd rfl (Or.inl rfl) (gj ad9 (by rfl) T.z_list acr (ea_n (pv 2) bz))) (ak (zg fuel PassesOwn.never (jw afi (e2_v (ER.toD (bu gm (by rfl) T.z_len gq (ea_n (pv 3) bz))) (EV.toB (ER.toD (bu gm (by rfl) T.z_len gq (ea_n (pv 1) bz))))) (lg _)) (az (xq PassesOwn.never rfl (ye (ER.toD (um ["out_row"] ["one","out_row"] [none,some 3] rfl (v4 (by rfl) T.z_range (bf (ER.toD (bu gm (by rfl) T.z_len gq (ea_n (pv 1) bz))) dg)) (fun _ _ _=>(cu (i:=0) (show (["one","out_row"]:List Str).Nodup by decide +kernel) rfl (Or.inl rfl))) (fun _ _ _=>(af5 (jw (afg hr.units) (e2_n (pv 0) (d7 (pv 1))) (by with_unfolding_all rfl)))) (fun _ _ _=>(au (pv 0)))))) (cu (i:=5) o9.nd rfl (Or.inl rfl)) (ak (di (i:=6) o9.nd rfl (Or.inl rfl) (ju (e2_n (pv 1) (d7 (pv 5))) (fun _ _=>by rfl))) (ak (an4 (i:=7) ["out_row"] ["at","door","out_row"] [none,none,some 3] o9.nd rfl (Or.inl rfl) rfl (akt (by rfl) T.z_enumerate (bf (au (pv 6)) dg)) (fun _ _ _=>(abi rfl (ik (cu (i:=0) (show (["at","door","out_row"]:List Str).Nodup by decide +kernel) rfl (Or.inl rfl)) (ik (cu (i:=1) (show (["at","door","out_row"]:List Str).Nodup by decide +kernel) rfl (Or.inl rfl)) yg)))) (fun _ _ _=>(af5 (EW.pt (ak2 (jw afi (e2_n (pv 1) (EV.toB bc)) (lg _)) (ag0 (jw (aoq hr.units) (e2_n (pv 1) (d7 (pv 2))) (by with_unfolding_all rfl))))))) (fun _ _ _=>(au (pv 0)))) (az (zb (jw (afh hr.units) (e2_n (pv 7) (EV.toB (ER.toD (uh dg)))) (lg _)) (ak (zb (jw (afg hr.units) (e2_v (ER.toD (dw zy (e2_v (ER.toD (dw aaq (e2_v (ER.toD (ju (e2_n (pv 4) (d7 (pv 5))) (fun _ _=>by rfl))) (EV.toB bc)))) (EV.toB (ER.toD (bu gm (by rfl) T.z_len gq (ea_n (pv 6) bz))))))) (d7 (pv 7))) (by with_unfolding_all rfl)) (az (aed (ER.toD (dw zy (e2_v (ER.toD (dw km (e2_v (ER.toD (ju (e2_n (pv 7) (EV.toB (ER.toD (je d__law_draw (hr.mono (by decide)) (by rfl) (eg_n (pv 0) (eg_v (ER.toD (bu gm (by rfl) T.z_len gq (ea_n (pv 7) bz))) dj)))))) (fun _ _=>by rfl))) (EV.toB bc)))) (EV.toB (ER.toD (bu gm (by rfl) T.z_len gq (ea_n (pv 6) bz))))))) (pv 4) (au (pv 5)))) jx) (az (xr (EV.toR (amc abu PySem.F.slot_list_append PySem.F.type_list_append abf (pv 3) (bf (au (pv 5)) dg)))))) jx))))))) (az (fu (gj qg (by rfl) T.z_tuple j8 (ea_n (pv 4) bz)))))))
theorem afl (F:Fun K "_law_led_out" "_law_led_out" m9 f fd) (T:Txt K mg) (d__law_gone:Dfn P w K mg base "_law_gone" ["house","arrows","room","most"] 2 (spOf K 4 f__law_gone)) (d__law_counts:Dfn P w K mg base "_law_counts" ["house","room","places"] 1 (spOf K 3 ug)):FnOk P w K mg base CX0 3 f fd ["house","arrows","rooms"] (spOf K 3 qu) :=
  ig F j9 rfl rfl fun cdv A outer s H E hr =>
    (ak (di (i:=3) j9.nd rfl (Or.inl rfl) (dw abd (e2_v (ER.toD (uh (bf bc dg))) (EV.toB (ER.toD (bu gm (by rfl) T.z_len gq (ea_n (pv 0) bz))))))) (ak (xq PassesOwn.never rfl (ye (au (pv 2))) (cu (i:=4) j9.nd rfl (Or.inl rfl)) (ak (an5 (ER.toD (je d__law_gone (hr.mono (by decide)) (by rfl) (eg_n (pv 0) (eg_v (au (pv 1)) (eg_v (au (pv 4)) (eg_v bc dj)))))) (abi rfl (ik (cu (i:=1) j9.nd rfl (Or.inl rfl)) (ik (cu (i:=5) j9.nd rfl (Or.inl rfl)) yg)))) (ak (zb (jw abe (e2_v (ER.toD (ju (e2_n (pv 5) (EV.toB (af2 bc))) (fun _ _=>by rfl))) (EV.toB bc)) (lg _)) (az (fu (EV.toR ay5))) jx) (az (an4 (i:=3) [] ["a","b"] [none,none] j9.nd rfl (Or.inl rfl) rfl (afo (by rfl) T.z_zip (bf (au (pv 3)) (bf (ER.toD (je d__law_counts (hr.mono (by decide)) (by rfl) (eg_n (pv 0) (eg_v (au (pv 4)) (eg_n (pv 5) dj))))) dg))) (fun _ _ _=>(abi rfl (ik (cu (i:=0) (show (["a","b"]:List Str).Nodup by decide +kernel) rfl (Or.inl rfl)) (ik (cu (i:=1) (show (["a","b"]:List Str).Nodup by decide +kernel) rfl (Or.inl rfl)) yg)))) (fun _ _ _=>yr) (fun _ _ _=>(ER.toD (dw km (e2_n (pv 0) (d7 (pv 1))))))))))) (az (fu (EV.toR (v8 (bf (au (pv 1)) (bf (ER.toD (gj qg (by rfl) T.z_tuple j8 (ea_n (pv 3) bz))) dg))))))))
theorem ahs (F:Fun K "_law_right" "_law_right" tu f fd) (T:Txt K mg) (d_led_back_all:Dfn P w K mg base "led_back_all" ["house","arrows","walkers"] 6 (spOf K 3 qp)) (d__law_tuple:Dfn P w K mg base "_law_tuple" ["found","due"] 2 (spOf K 2 t8)) (d__law_free:Dfn P w K mg base "_law_free" ["house","arrows"] 2 (spOf K 2 u9)) (d__law_led_out:Dfn P w K mg base "_law_led_out" ["house","arrows","rooms"] 3 (spOf K 3 qu)):FnOk P w K mg base CX0 7 f fd ["house","arrows","walkers"] (spOf K 3 lw) :=
  ig F j4 rfl rfl fun cdv A outer s H E hr =>
    (ak (di (i:=3) j4.nd rfl (Or.inl rfl) (uh dg)) (ak (xq PassesOwn.never rfl (akt (by rfl) T.z_enumerate (bf (au (pv 2)) dg)) (abi rfl (ik (cu (i:=4) j4.nd rfl (Or.inl rfl)) (ik (cu (i:=5) j4.nd rfl (Or.inl rfl)) yg))) (az (di (i:=3) j4.nd rfl (Or.inl rfl) (dw km (e2_n (pv 3) (EV.toB (ER.toD (dw abd (e2_v (ER.toD (uh (bf (au (pv 4)) dg))) (d7 (pv 5))))))))))) (ak (xq PassesOwn.never rfl (v4 (by rfl) T.z_range (bf bc dg)) (cu (i:=6) j4.nd rfl (Or.inl rfl)) (ak (di (i:=7) j4.nd rfl (Or.inl rfl) (je d_led_back_all (hr.mono (by decide)) (by rfl) (eg_v (au (pv 0)) (eg_v (au (pv 1)) (eg_v (au (pv 2)) dj))))) (ak (zb (EW.pt (ak2 (zr (yq (af3 (t:=.tuple) (akf (by rfl) T.z_tuple j8) (by rfl) T.z_isinstance mq (d7 (pv 7))))) (ak2 (jw (afh hr.units) (e2_v (ER.toD (bu gm (by rfl) T.z_len gq (ea_n (pv 7) bz))) (EV.toB bc)) (lg _)) (ag0 (zr (yq (ER.toD (je d__law_tuple (hr.mono (by decide)) (by rfl) (eg_v (ER.toD (ju (e2_n (pv 7) (EV.toB bc)) (fun _ _=>by rfl))) (eg_v (ER.toD (ju (e2_n (pv 7) (EV.toB bc)) (fun _ _=>by rfl))) dj)))))))))) (az (fu (EV.toR ad4))) jx) (ak (zb (EW.pt (ak2 (jw (afh hr.units) (e2_v (ER.toD (bu gm (by rfl) T.z_len gq (ea_v (ER.toD (ju (e2_n (pv 7) (EV.toB bc)) (fun _ _=>by rfl))) bz))) (EV.toB (ER.toD (bu gm (by rfl) T.z_len gq (ea_n (pv 0) bz))))) (lg _)) (ag0 (zr (yq (ER.toD (bu (ajo rfl) (by rfl) T.z_all ajv (ea_v (ER.toD (um [] ["a","b"] [none,none] rfl (afo (by rfl) T.z_zip (bf (ER.toD (ju (e2_n (pv 7) (EV.toB bc)) (fun _ _=>by rfl))) (bf (au (pv 0)) dg))) (fun _ _ _=>(abi rfl (ik (cu (i:=0) (show (["a","b"]:List Str).Nodup by decide +kernel) rfl (Or.inl rfl)) (ik (cu (i:=1) (show (["a","b"]:List Str).Nodup by decide +kernel) rfl (Or.inl rfl)) yg)))) (fun _ _ _=>yr) (fun _ _ _=>(ah5 aos axu bc (au (pv 0)) (ER.toD (bu gm (by rfl) T.z_len gq (ea_n (pv 1) bz))))))) bz)))))))) (az (fu (EV.toR ad4))) jx) (ak (zb (EW.pt (ak2 (zr (yq (ER.toD (je d__law_free (hr.mono (by decide)) (by rfl) (eg_v (au (pv 0)) (eg_v (ER.toD (ju (e2_n (pv 7) (EV.toB bc)) (fun _ _=>by rfl))) dj)))))) (ag0 (zr (yq (ER.toD (je d__law_tuple (hr.mono (by decide)) (by rfl) (eg_v (ER.toD (ju (e2_n (pv 7) (EV.toB bc)) (fun _ _=>by rfl))) (eg_v (ER.toD (ju (e2_n (pv 7) (EV.toB bc)) (fun _ _=>by rfl))) dj))))))))) (az (fu (EV.toR ad4))) jx) (az (xq PassesOwn.never rfl (ye (ER.toD (uh (bf (au (pv 3)) (bf (ER.toD (av4 (au (pv 3)) (af2 bc))) dg))))) (cu (i:=8) j4.nd rfl (Or.inl rfl)) (az (zb (jw (afh hr.units) (e2_v (ER.toD (je d__law_led_out (hr.mono (by decide)) (by rfl) (eg_n (pv 0) (eg_v (ER.toD (ju (e2_n (pv 7) (EV.toB bc)) (fun _ _=>by rfl))) (eg_v (au (pv 8)) dj))))) (EV.toB (v8 (bf (au (pv 1)) (bf (ER.toD (ju (e2_n (pv 7) (EV.toB bc)) (fun _ _=>by rfl))) dg))))) (lg _)) (az (fu (EV.toR ad4))) jx))))))))) (az (fu (EV.toR ad4))))))
theorem axx (F:Fun K "law" "law" ahh f fd) (T:Txt K mg) (d__law_right:Dfn P w K mg base "_law_right" ["house","arrows","walkers"] 7 (spOf K 3 lw)) (d__law_cell:Dfn P w K mg base "_law_cell" ["script","k"] 1 (spOf K 2 f__law_cell)) (d__law_pen:Dfn P w K mg base "_law_pen" ["cell"] 1 (spOf K 1 f__law_pen)) (d__law_draw:Dfn P w K mg base "_law_draw" ["pen","many"] 1 (spOf K 2 f__law_draw)) (d__law_open:Dfn P w K mg base "_law_open" ["pen","most","doors"] 3 (spOf K 3 f__law_open)) (d__law_arrows:Dfn P w K mg base "_law_arrows" ["pen","house"] 2 (spOf K 2 f__law_arrows)) (d__law_freed:Dfn P w K mg base "_law_freed" ["pen","house","arrows"] 2 (spOf K 3 v7)):FnOk P w K mg base CX0 8 f fd ["script"] (spOf K 1 apn) :=
  ig F afa rfl rfl fun cdv A outer s H E hr =>
    (ak (zb (EW.pt (ak2 (zr (yq (ER.toD (je d__law_right (hr.mono (by decide)) (by rfl) (eg_v (v8 (bf (v8 (bf (af2 bc) dg)) dg)) (eg_v (v8 (bf bc dg)) (eg_v (v8 (bf bc dg)) dj))))))) (ag0 (zr (yq (ER.toD (je d__law_right (hr.mono (by decide)) (by rfl) (eg_v (v8 (bf (v8 (bf bc (bf bc (bf (af2 bc) dg)))) dg)) (eg_v (v8 (bf bc dg)) (eg_v (v8 (bf bc dg)) dj)))))))))) (az (fu (EV.toR ad4))) jx) (ak (xq PassesOwn.never rfl (ye (ER.toD (dw km (e2_v (ER.toD (uh (bf (ER.toD (je d__law_cell (hr.mono (by decide)) (by rfl) (eg_n (pv 0) (eg_v bc dj)))) dg))) (EV.toB (ER.toD (ak3 (pv 0) (ad6 bc) (ad6 bc)))))))) (cu (i:=1) afa.nd rfl (Or.inl rfl)) (ak (di (i:=2) afa.nd rfl (Or.inr rfl) (je d__law_pen (hr.mono (by decide)) (by rfl) (eg_n (pv 1) dj))) (ak (di (i:=3) afa.nd rfl (Or.inl rfl) (je d__law_open (hr.mono (by decide)) (by rfl) (eg_n (pv 2) (eg_v (ER.toD (ju (e2_v (ER.toD (uh (bf bc (bf bc (bf bc dg))))) (EV.toB (ER.toD (je d__law_draw (hr.mono (by decide)) (by rfl) (eg_n (pv 2) (eg_v bc dj)))))) (fun _ _=>by rfl))) (eg_v bc dj))))) (ak (di (i:=4) afa.nd rfl (Or.inl rfl) (je d__law_freed (hr.mono (by decide)) (by rfl) (eg_n (pv 2) (eg_n (pv 3) (eg_v (ER.toD (je d__law_arrows (hr.mono (by decide)) (by rfl) (eg_n (pv 2) (eg_v (au (pv 3)) dj)))) dj))))) (ak (di (i:=5) afa.nd rfl (Or.inl rfl) (gj qg (by rfl) T.z_tuple j8 (ea_v (ER.toD (um ["pen"] ["room","pen"] [none,some 2] rfl (ye (au (pv 3))) (fun _ _ _=>(cu (i:=0) (show (["room","pen"]:List Str).Nodup by decide +kernel) rfl (Or.inl rfl))) (fun _ _ _=>yr) (fun _ _ _=>(ER.toD (je d__law_draw (hr.mono (by decide)) (by rfl) (eg_n (pv 1) (eg_v bc dj))))))) bz))) (az (xq PassesOwn.never rfl (ye (ER.toD (uh (bf (au (pv 5)) (bf (ER.toD (dw abd (e2_v (v8 (bf bc dg)) (EV.toB (ER.toD (bu gm (by rfl) T.z_len gq (ea_n (pv 3) bz))))))) (bf (au (pv 5)) dg)))))) (cu (i:=6) afa.nd rfl (Or.inl rfl)) (az (zb (zr (yq (ER.toD (je d__law_right (hr.mono (by decide)) (by rfl) (eg_v (au (pv 3)) (eg_v (au (pv 4)) (eg_v (au (pv 6)) dj))))))) (az (fu (EV.toR ad4))) jx))))))))) (az (fu (EV.toR ad4)))))
end
theorem azo {l:PySem.W.OpenLaw} {w:World} {K:PySem.W.Frag} {h:Heap} {mg:Str→Option Value} {fa f_is_whole' f_is_whole_within' f_is_tuple_within' f_trap' f_refuse_not_open' f_is_arrows' f_refuse_no_arrows' f_last_ways' f_going_round' f_lead_out' f_refuse_never_back' f_is_walkers' f_refuse_no_walkers' f_refuse_no_crowd' f_ahead_on_ring' f_gate_by' f_undone' f_count_leavings' f_led_back_each' f_led_back_all' f__law_cell' f__law_pen' f__law_draw' f__law_whole' f__law_house' f__law_reached' f__law_open' f__law_arrows' f__law_left' f__law_tuple' f__law_gone' f__law_counts' f__law_last' f__law_free' f__law_freed' f__law_led_out' f__law_right' f_law':Addr} (X:K.In h) (G:h.Ns mainGlobals mg) (hfa:mg "law" = some (.ref fa))
    {od_is_whole an_is_whole od_is_whole_within an_is_whole_within od_is_tuple_within an_is_tuple_within od_trap an_trap od_refuse_not_open an_refuse_not_open od_is_arrows an_is_arrows od_refuse_no_arrows an_refuse_no_arrows od_last_ways an_last_ways od_going_round an_going_round od_lead_out an_lead_out od_refuse_never_back an_refuse_never_back od_is_walkers an_is_walkers od_refuse_no_walkers an_refuse_no_walkers od_refuse_no_crowd an_refuse_no_crowd od_ahead_on_ring an_ahead_on_ring od_gate_by an_gate_by od_undone an_undone od_count_leavings an_count_leavings od_led_back_each an_led_back_each od_led_back_all an_led_back_all od__law_cell an__law_cell od__law_pen an__law_pen od__law_draw an__law_draw od__law_whole an__law_whole od__law_house an__law_house od__law_reached an__law_reached od__law_open an__law_open od__law_arrows an__law_arrows od__law_left an__law_left od__law_tuple an__law_tuple od__law_gone an__law_gone od__law_counts an__law_counts od__law_last an__law_last od__law_free an__law_free od__law_freed an__law_freed od__law_led_out an__law_led_out od__law_right an__law_right od_law an_law:Option Addr} {sl_is_whole sl_is_whole_within sl_is_tuple_within sl_trap sl_refuse_not_open sl_is_arrows sl_refuse_no_arrows sl_last_ways sl_going_round sl_lead_out sl_refuse_never_back sl_is_walkers sl_refuse_no_walkers sl_refuse_no_crowd sl_ahead_on_ring sl_gate_by sl_undone sl_count_leavings sl_led_back_each sl_led_back_all sl__law_cell sl__law_pen sl__law_draw sl__law_whole sl__law_house sl__law_reached sl__law_open sl__law_arrows sl__law_left sl__law_tuple sl__law_gone sl__law_counts sl__law_last sl__law_free sl__law_freed sl__law_led_out sl__law_right sl_law:Array (Option Value)} {oc_is_whole kV_is_whole dc_is_whole pm_is_whole cd_is_whole ct_is_whole oc_is_whole_within kV_is_whole_within dc_is_whole_within pm_is_whole_within cd_is_whole_within ct_is_whole_within oc_is_tuple_within kV_is_tuple_within dc_is_tuple_within pm_is_tuple_within cd_is_tuple_within ct_is_tuple_within oc_trap kV_trap dc_trap pm_trap cd_trap ct_trap oc_refuse_not_open kV_refuse_not_open dc_refuse_not_open pm_refuse_not_open cd_refuse_not_open ct_refuse_not_open oc_is_arrows kV_is_arrows dc_is_arrows pm_is_arrows cd_is_arrows ct_is_arrows oc_refuse_no_arrows kV_refuse_no_arrows dc_refuse_no_arrows pm_refuse_no_arrows cd_refuse_no_arrows ct_refuse_no_arrows oc_last_ways kV_last_ways dc_last_ways pm_last_ways cd_last_ways ct_last_ways oc_going_round kV_going_round dc_going_round pm_going_round cd_going_round ct_going_round oc_lead_out kV_lead_out dc_lead_out pm_lead_out cd_lead_out ct_lead_out oc_refuse_never_back kV_refuse_never_back dc_refuse_never_back pm_refuse_never_back cd_refuse_never_back ct_refuse_never_back oc_is_walkers kV_is_walkers dc_is_walkers pm_is_walkers cd_is_walkers ct_is_walkers oc_refuse_no_walkers kV_refuse_no_walkers dc_refuse_no_walkers pm_refuse_no_walkers cd_refuse_no_walkers ct_refuse_no_walkers oc_refuse_no_crowd kV_refuse_no_crowd dc_refuse_no_crowd pm_refuse_no_crowd cd_refuse_no_crowd ct_refuse_no_crowd oc_ahead_on_ring kV_ahead_on_ring dc_ahead_on_ring pm_ahead_on_ring cd_ahead_on_ring ct_ahead_on_ring oc_gate_by kV_gate_by dc_gate_by pm_gate_by cd_gate_by ct_gate_by oc_undone kV_undone dc_undone pm_undone cd_undone ct_undone oc_count_leavings kV_count_leavings dc_count_leavings pm_count_leavings cd_count_leavings ct_count_leavings oc_led_back_each kV_led_back_each dc_led_back_each pm_led_back_each cd_led_back_each ct_led_back_each oc_led_back_all kV_led_back_all dc_led_back_all pm_led_back_all cd_led_back_all ct_led_back_all oc__law_cell kV__law_cell dc__law_cell pm__law_cell cd__law_cell ct__law_cell oc__law_pen kV__law_pen dc__law_pen pm__law_pen cd__law_pen ct__law_pen oc__law_draw kV__law_draw dc__law_draw pm__law_draw cd__law_draw ct__law_draw oc__law_whole kV__law_whole dc__law_whole pm__law_whole cd__law_whole ct__law_whole oc__law_house kV__law_house dc__law_house pm__law_house cd__law_house ct__law_house oc__law_reached kV__law_reached dc__law_reached pm__law_reached cd__law_reached ct__law_reached oc__law_open kV__law_open dc__law_open pm__law_open cd__law_open ct__law_open oc__law_arrows kV__law_arrows dc__law_arrows pm__law_arrows cd__law_arrows ct__law_arrows oc__law_left kV__law_left dc__law_left pm__law_left cd__law_left ct__law_left oc__law_tuple kV__law_tuple dc__law_tuple pm__law_tuple cd__law_tuple ct__law_tuple oc__law_gone kV__law_gone dc__law_gone pm__law_gone cd__law_gone ct__law_gone oc__law_counts kV__law_counts dc__law_counts pm__law_counts cd__law_counts ct__law_counts oc__law_last kV__law_last dc__law_last pm__law_last cd__law_last ct__law_last oc__law_free kV__law_free dc__law_free pm__law_free cd__law_free ct__law_free oc__law_freed kV__law_freed dc__law_freed pm__law_freed cd__law_freed ct__law_freed oc__law_led_out kV__law_led_out dc__law_led_out pm__law_led_out cd__law_led_out ct__law_led_out oc__law_right kV__law_right dc__law_right pm__law_right cd__law_right ct__law_right oc_law kV_law dc_law pm_law cd_law ct_law:Value}
    {tk_MOST_WALKERS:Tok}
    (a_is_whole:PySem.W.nsIn K mainGlobals "is_whole" = some (some (.ref f_is_whole'))) (l_is_whole:K.lookup f_is_whole'=some ⟨oc_is_whole,od_is_whole,.func (PySem.W.fnOf "is_whole" "is_whole" (dh xj) (cj xj) (ao xj) .none kV_is_whole dc_is_whole pm_is_whole an_is_whole cd_is_whole ct_is_whole),sl_is_whole⟩) (c_is_whole:PySem.W.codeIn K cd_is_whole "is_whole" = true) (k_is_whole:PySem.W.keepIn K (.ref f_is_whole')=true)
    (a_is_whole_within:PySem.W.nsIn K mainGlobals "is_whole_within" = some (some (.ref f_is_whole_within'))) (l_is_whole_within:K.lookup f_is_whole_within'=some ⟨oc_is_whole_within,od_is_whole_within,.func (PySem.W.fnOf "is_whole_within" "is_whole_within" (dh jn) (cj jn) (ao jn) .none kV_is_whole_within dc_is_whole_within pm_is_whole_within an_is_whole_within cd_is_whole_within ct_is_whole_within),sl_is_whole_within⟩) (c_is_whole_within:PySem.W.codeIn K cd_is_whole_within "is_whole_within" = true) (k_is_whole_within:PySem.W.keepIn K (.ref f_is_whole_within')=true)
    (a_is_tuple_within:PySem.W.nsIn K mainGlobals "is_tuple_within" = some (some (.ref f_is_tuple_within'))) (l_is_tuple_within:K.lookup f_is_tuple_within'=some ⟨oc_is_tuple_within,od_is_tuple_within,.func (PySem.W.fnOf "is_tuple_within" "is_tuple_within" (dh jo) (cj jo) (ao jo) .none kV_is_tuple_within dc_is_tuple_within pm_is_tuple_within an_is_tuple_within cd_is_tuple_within ct_is_tuple_within),sl_is_tuple_within⟩) (c_is_tuple_within:PySem.W.codeIn K cd_is_tuple_within "is_tuple_within" = true) (k_is_tuple_within:PySem.W.keepIn K (.ref f_is_tuple_within')=true)
    (a_trap:PySem.W.nsIn K mainGlobals "trap" = some (some (.ref f_trap'))) (l_trap:K.lookup f_trap'=some ⟨oc_trap,od_trap,.func (PySem.W.fnOf "trap" "trap" (dh agn) (cj agn) (ao agn) .none kV_trap dc_trap pm_trap an_trap cd_trap ct_trap),sl_trap⟩) (c_trap:PySem.W.codeIn K cd_trap "trap" = true) (k_trap:PySem.W.keepIn K (.ref f_trap')=true)
    (a_refuse_not_open:PySem.W.nsIn K mainGlobals "refuse_not_open" = some (some (.ref f_refuse_not_open'))) (l_refuse_not_open:K.lookup f_refuse_not_open'=some ⟨oc_refuse_not_open,od_refuse_not_open,.func (PySem.W.fnOf "refuse_not_open" "refuse_not_open" (dh jl) (cj jl) (ao jl) .none kV_refuse_not_open dc_refuse_not_open pm_refuse_not_open an_refuse_not_open cd_refuse_not_open ct_refuse_not_open),sl_refuse_not_open⟩) (c_refuse_not_open:PySem.W.codeIn K cd_refuse_not_open "refuse_not_open" = true) (k_refuse_not_open:PySem.W.keepIn K (.ref f_refuse_not_open')=true)
    (a_is_arrows:PySem.W.nsIn K mainGlobals "is_arrows" = some (some (.ref f_is_arrows'))) (l_is_arrows:K.lookup f_is_arrows'=some ⟨oc_is_arrows,od_is_arrows,.func (PySem.W.fnOf "is_arrows" "is_arrows" (dh ur) (cj ur) (ao ur) .none kV_is_arrows dc_is_arrows pm_is_arrows an_is_arrows cd_is_arrows ct_is_arrows),sl_is_arrows⟩) (c_is_arrows:PySem.W.codeIn K cd_is_arrows "is_arrows" = true) (k_is_arrows:PySem.W.keepIn K (.ref f_is_arrows')=true)
    (a_refuse_no_arrows:PySem.W.nsIn K mainGlobals "refuse_no_arrows" = some (some (.ref f_refuse_no_arrows'))) (l_refuse_no_arrows:K.lookup f_refuse_no_arrows'=some ⟨oc_refuse_no_arrows,od_refuse_no_arrows,.func (PySem.W.fnOf "refuse_no_arrows" "refuse_no_arrows" (dh jf) (cj jf) (ao jf) .none kV_refuse_no_arrows dc_refuse_no_arrows pm_refuse_no_arrows an_refuse_no_arrows cd_refuse_no_arrows ct_refuse_no_arrows),sl_refuse_no_arrows⟩) (c_refuse_no_arrows:PySem.W.codeIn K cd_refuse_no_arrows "refuse_no_arrows" = true) (k_refuse_no_arrows:PySem.W.keepIn K (.ref f_refuse_no_arrows')=true)
    (a_last_ways:PySem.W.nsIn K mainGlobals "last_ways" = some (some (.ref f_last_ways'))) (l_last_ways:K.lookup f_last_ways'=some ⟨oc_last_ways,od_last_ways,.func (PySem.W.fnOf "last_ways" "last_ways" (dh uq) (cj uq) (ao uq) .none kV_last_ways dc_last_ways pm_last_ways an_last_ways cd_last_ways ct_last_ways),sl_last_ways⟩) (c_last_ways:PySem.W.codeIn K cd_last_ways "last_ways" = true) (k_last_ways:PySem.W.keepIn K (.ref f_last_ways')=true)
    (a_going_round:PySem.W.nsIn K mainGlobals "going_round" = some (some (.ref f_going_round'))) (l_going_round:K.lookup f_going_round'=some ⟨oc_going_round,od_going_round,.func (PySem.W.fnOf "going_round" "going_round" (dh ph) (cj ph) (ao ph) .none kV_going_round dc_going_round pm_going_round an_going_round cd_going_round ct_going_round),sl_going_round⟩) (c_going_round:PySem.W.codeIn K cd_going_round "going_round" = true) (k_going_round:PySem.W.keepIn K (.ref f_going_round')=true)
    (a_lead_out:PySem.W.nsIn K mainGlobals "lead_out" = some (some (.ref f_lead_out'))) (l_lead_out:K.lookup f_lead_out'=some ⟨oc_lead_out,od_lead_out,.func (PySem.W.fnOf "lead_out" "lead_out" (dh xg) (cj xg) (ao xg) .none kV_lead_out dc_lead_out pm_lead_out an_lead_out cd_lead_out ct_lead_out),sl_lead_out⟩) (c_lead_out:PySem.W.codeIn K cd_lead_out "lead_out" = true) (k_lead_out:PySem.W.keepIn K (.ref f_lead_out')=true)
    (a_refuse_never_back:PySem.W.nsIn K mainGlobals "refuse_never_back" = some (some (.ref f_refuse_never_back'))) (l_refuse_never_back:K.lookup f_refuse_never_back'=some ⟨oc_refuse_never_back,od_refuse_never_back,.func (PySem.W.fnOf "refuse_never_back" "refuse_never_back" (dh iu) (cj iu) (ao iu) .none kV_refuse_never_back dc_refuse_never_back pm_refuse_never_back an_refuse_never_back cd_refuse_never_back ct_refuse_never_back),sl_refuse_never_back⟩) (c_refuse_never_back:PySem.W.codeIn K cd_refuse_never_back "refuse_never_back" = true) (k_refuse_never_back:PySem.W.keepIn K (.ref f_refuse_never_back')=true)
    (a_is_walkers:PySem.W.nsIn K mainGlobals "is_walkers" = some (some (.ref f_is_walkers'))) (l_is_walkers:K.lookup f_is_walkers'=some ⟨oc_is_walkers,od_is_walkers,.func (PySem.W.fnOf "is_walkers" "is_walkers" (dh sr) (cj sr) (ao sr) .none kV_is_walkers dc_is_walkers pm_is_walkers an_is_walkers cd_is_walkers ct_is_walkers),sl_is_walkers⟩) (c_is_walkers:PySem.W.codeIn K cd_is_walkers "is_walkers" = true) (k_is_walkers:PySem.W.keepIn K (.ref f_is_walkers')=true)
    (a_refuse_no_walkers:PySem.W.nsIn K mainGlobals "refuse_no_walkers" = some (some (.ref f_refuse_no_walkers'))) (l_refuse_no_walkers:K.lookup f_refuse_no_walkers'=some ⟨oc_refuse_no_walkers,od_refuse_no_walkers,.func (PySem.W.fnOf "refuse_no_walkers" "refuse_no_walkers" (dh ir) (cj ir) (ao ir) .none kV_refuse_no_walkers dc_refuse_no_walkers pm_refuse_no_walkers an_refuse_no_walkers cd_refuse_no_walkers ct_refuse_no_walkers),sl_refuse_no_walkers⟩) (c_refuse_no_walkers:PySem.W.codeIn K cd_refuse_no_walkers "refuse_no_walkers" = true) (k_refuse_no_walkers:PySem.W.keepIn K (.ref f_refuse_no_walkers')=true)
    (a_refuse_no_crowd:PySem.W.nsIn K mainGlobals "refuse_no_crowd" = some (some (.ref f_refuse_no_crowd'))) (l_refuse_no_crowd:K.lookup f_refuse_no_crowd'=some ⟨oc_refuse_no_crowd,od_refuse_no_crowd,.func (PySem.W.fnOf "refuse_no_crowd" "refuse_no_crowd" (dh jm) (cj jm) (ao jm) .none kV_refuse_no_crowd dc_refuse_no_crowd pm_refuse_no_crowd an_refuse_no_crowd cd_refuse_no_crowd ct_refuse_no_crowd),sl_refuse_no_crowd⟩) (c_refuse_no_crowd:PySem.W.codeIn K cd_refuse_no_crowd "refuse_no_crowd" = true) (k_refuse_no_crowd:PySem.W.keepIn K (.ref f_refuse_no_crowd')=true)
    (a_ahead_on_ring:PySem.W.nsIn K mainGlobals "ahead_on_ring" = some (some (.ref f_ahead_on_ring'))) (l_ahead_on_ring:K.lookup f_ahead_on_ring'=some ⟨oc_ahead_on_ring,od_ahead_on_ring,.func (PySem.W.fnOf "ahead_on_ring" "ahead_on_ring" (dh kj) (cj kj) (ao kj) .none kV_ahead_on_ring dc_ahead_on_ring pm_ahead_on_ring an_ahead_on_ring cd_ahead_on_ring ct_ahead_on_ring),sl_ahead_on_ring⟩) (c_ahead_on_ring:PySem.W.codeIn K cd_ahead_on_ring "ahead_on_ring" = true) (k_ahead_on_ring:PySem.W.keepIn K (.ref f_ahead_on_ring')=true)
    (a_gate_by:PySem.W.nsIn K mainGlobals "gate_by" = some (some (.ref f_gate_by'))) (l_gate_by:K.lookup f_gate_by'=some ⟨oc_gate_by,od_gate_by,.func (PySem.W.fnOf "gate_by" "gate_by" (dh aab) (cj aab) (ao aab) .none kV_gate_by dc_gate_by pm_gate_by an_gate_by cd_gate_by ct_gate_by),sl_gate_by⟩) (c_gate_by:PySem.W.codeIn K cd_gate_by "gate_by" = true) (k_gate_by:PySem.W.keepIn K (.ref f_gate_by')=true)
    (a_undone:PySem.W.nsIn K mainGlobals "undone" = some (some (.ref f_undone'))) (l_undone:K.lookup f_undone'=some ⟨oc_undone,od_undone,.func (PySem.W.fnOf "undone" "undone" (dh abr) (cj abr) (ao abr) .none kV_undone dc_undone pm_undone an_undone cd_undone ct_undone),sl_undone⟩) (c_undone:PySem.W.codeIn K cd_undone "undone" = true) (k_undone:PySem.W.keepIn K (.ref f_undone')=true)
    (a_count_leavings:PySem.W.nsIn K mainGlobals "count_leavings" = some (some (.ref f_count_leavings'))) (l_count_leavings:K.lookup f_count_leavings'=some ⟨oc_count_leavings,od_count_leavings,.func (PySem.W.fnOf "count_leavings" "count_leavings" (dh jy) (cj jy) (ao jy) .none kV_count_leavings dc_count_leavings pm_count_leavings an_count_leavings cd_count_leavings ct_count_leavings),sl_count_leavings⟩) (c_count_leavings:PySem.W.codeIn K cd_count_leavings "count_leavings" = true) (k_count_leavings:PySem.W.keepIn K (.ref f_count_leavings')=true)
    (a_led_back_each:PySem.W.nsIn K mainGlobals "led_back_each" = some (some (.ref f_led_back_each'))) (l_led_back_each:K.lookup f_led_back_each'=some ⟨oc_led_back_each,od_led_back_each,.func (PySem.W.fnOf "led_back_each" "led_back_each" (dh kh) (cj kh) (ao kh) .none kV_led_back_each dc_led_back_each pm_led_back_each an_led_back_each cd_led_back_each ct_led_back_each),sl_led_back_each⟩) (c_led_back_each:PySem.W.codeIn K cd_led_back_each "led_back_each" = true) (k_led_back_each:PySem.W.keepIn K (.ref f_led_back_each')=true)
    (a_led_back_all:PySem.W.nsIn K mainGlobals "led_back_all" = some (some (.ref f_led_back_all'))) (l_led_back_all:K.lookup f_led_back_all'=some ⟨oc_led_back_all,od_led_back_all,.func (PySem.W.fnOf "led_back_all" "led_back_all" (dh m7) (cj m7) (ao m7) .none kV_led_back_all dc_led_back_all pm_led_back_all an_led_back_all cd_led_back_all ct_led_back_all),sl_led_back_all⟩) (c_led_back_all:PySem.W.codeIn K cd_led_back_all "led_back_all" = true) (k_led_back_all:PySem.W.keepIn K (.ref f_led_back_all')=true)
    (a__law_cell:PySem.W.nsIn K mainGlobals "_law_cell" = some (some (.ref f__law_cell'))) (l__law_cell:K.lookup f__law_cell'=some ⟨oc__law_cell,od__law_cell,.func (PySem.W.fnOf "_law_cell" "_law_cell" (dh u0) (cj u0) (ao u0) .none kV__law_cell dc__law_cell pm__law_cell an__law_cell cd__law_cell ct__law_cell),sl__law_cell⟩) (c__law_cell:PySem.W.codeIn K cd__law_cell "_law_cell" = true) (k__law_cell:PySem.W.keepIn K (.ref f__law_cell')=true)
    (a__law_pen:PySem.W.nsIn K mainGlobals "_law_pen" = some (some (.ref f__law_pen'))) (l__law_pen:K.lookup f__law_pen'=some ⟨oc__law_pen,od__law_pen,.func (PySem.W.fnOf "_law_pen" "_law_pen" (dh xm) (cj xm) (ao xm) .none kV__law_pen dc__law_pen pm__law_pen an__law_pen cd__law_pen ct__law_pen),sl__law_pen⟩) (c__law_pen:PySem.W.codeIn K cd__law_pen "_law_pen" = true) (k__law_pen:PySem.W.keepIn K (.ref f__law_pen')=true)
    (a__law_draw:PySem.W.nsIn K mainGlobals "_law_draw" = some (some (.ref f__law_draw'))) (l__law_draw:K.lookup f__law_draw'=some ⟨oc__law_draw,od__law_draw,.func (PySem.W.fnOf "_law_draw" "_law_draw" (dh uz) (cj uz) (ao uz) .none kV__law_draw dc__law_draw pm__law_draw an__law_draw cd__law_draw ct__law_draw),sl__law_draw⟩) (c__law_draw:PySem.W.codeIn K cd__law_draw "_law_draw" = true) (k__law_draw:PySem.W.keepIn K (.ref f__law_draw')=true)
    (a__law_whole:PySem.W.nsIn K mainGlobals "_law_whole" = some (some (.ref f__law_whole'))) (l__law_whole:K.lookup f__law_whole'=some ⟨oc__law_whole,od__law_whole,.func (PySem.W.fnOf "_law_whole" "_law_whole" (dh su) (cj su) (ao su) .none kV__law_whole dc__law_whole pm__law_whole an__law_whole cd__law_whole ct__law_whole),sl__law_whole⟩) (c__law_whole:PySem.W.codeIn K cd__law_whole "_law_whole" = true) (k__law_whole:PySem.W.keepIn K (.ref f__law_whole')=true)
    (a__law_house:PySem.W.nsIn K mainGlobals "_law_house" = some (some (.ref f__law_house'))) (l__law_house:K.lookup f__law_house'=some ⟨oc__law_house,od__law_house,.func (PySem.W.fnOf "_law_house" "_law_house" (dh t6) (cj t6) (ao t6) .none kV__law_house dc__law_house pm__law_house an__law_house cd__law_house ct__law_house),sl__law_house⟩) (c__law_house:PySem.W.codeIn K cd__law_house "_law_house" = true) (k__law_house:PySem.W.keepIn K (.ref f__law_house')=true)
    (a__law_reached:PySem.W.nsIn K mainGlobals "_law_reached" = some (some (.ref f__law_reached'))) (l__law_reached:K.lookup f__law_reached'=some ⟨oc__law_reached,od__law_reached,.func (PySem.W.fnOf "_law_reached" "_law_reached" (dh m8) (cj m8) (ao m8) .none kV__law_reached dc__law_reached pm__law_reached an__law_reached cd__law_reached ct__law_reached),sl__law_reached⟩) (c__law_reached:PySem.W.codeIn K cd__law_reached "_law_reached" = true) (k__law_reached:PySem.W.keepIn K (.ref f__law_reached')=true)
    (a__law_open:PySem.W.nsIn K mainGlobals "_law_open" = some (some (.ref f__law_open'))) (l__law_open:K.lookup f__law_open'=some ⟨oc__law_open,od__law_open,.func (PySem.W.fnOf "_law_open" "_law_open" (dh ut) (cj ut) (ao ut) .none kV__law_open dc__law_open pm__law_open an__law_open cd__law_open ct__law_open),sl__law_open⟩) (c__law_open:PySem.W.codeIn K cd__law_open "_law_open" = true) (k__law_open:PySem.W.keepIn K (.ref f__law_open')=true)
    (a__law_arrows:PySem.W.nsIn K mainGlobals "_law_arrows" = some (some (.ref f__law_arrows'))) (l__law_arrows:K.lookup f__law_arrows'=some ⟨oc__law_arrows,od__law_arrows,.func (PySem.W.fnOf "_law_arrows" "_law_arrows" (dh qb) (cj qb) (ao qb) .none kV__law_arrows dc__law_arrows pm__law_arrows an__law_arrows cd__law_arrows ct__law_arrows),sl__law_arrows⟩) (c__law_arrows:PySem.W.codeIn K cd__law_arrows "_law_arrows" = true) (k__law_arrows:PySem.W.keepIn K (.ref f__law_arrows')=true)
    (a__law_left:PySem.W.nsIn K mainGlobals "_law_left" = some (some (.ref f__law_left'))) (l__law_left:K.lookup f__law_left'=some ⟨oc__law_left,od__law_left,.func (PySem.W.fnOf "_law_left" "_law_left" (dh uv) (cj uv) (ao uv) .none kV__law_left dc__law_left pm__law_left an__law_left cd__law_left ct__law_left),sl__law_left⟩) (c__law_left:PySem.W.codeIn K cd__law_left "_law_left" = true) (k__law_left:PySem.W.keepIn K (.ref f__law_left')=true)
    (a__law_tuple:PySem.W.nsIn K mainGlobals "_law_tuple" = some (some (.ref f__law_tuple'))) (l__law_tuple:K.lookup f__law_tuple'=some ⟨oc__law_tuple,od__law_tuple,.func (PySem.W.fnOf "_law_tuple" "_law_tuple" (dh sy) (cj sy) (ao sy) .none kV__law_tuple dc__law_tuple pm__law_tuple an__law_tuple cd__law_tuple ct__law_tuple),sl__law_tuple⟩) (c__law_tuple:PySem.W.codeIn K cd__law_tuple "_law_tuple" = true) (k__law_tuple:PySem.W.keepIn K (.ref f__law_tuple')=true)
    (a__law_gone:PySem.W.nsIn K mainGlobals "_law_gone" = some (some (.ref f__law_gone'))) (l__law_gone:K.lookup f__law_gone'=some ⟨oc__law_gone,od__law_gone,.func (PySem.W.fnOf "_law_gone" "_law_gone" (dh ux) (cj ux) (ao ux) .none kV__law_gone dc__law_gone pm__law_gone an__law_gone cd__law_gone ct__law_gone),sl__law_gone⟩) (c__law_gone:PySem.W.codeIn K cd__law_gone "_law_gone" = true) (k__law_gone:PySem.W.keepIn K (.ref f__law_gone')=true)
    (a__law_counts:PySem.W.nsIn K mainGlobals "_law_counts" = some (some (.ref f__law_counts'))) (l__law_counts:K.lookup f__law_counts'=some ⟨oc__law_counts,od__law_counts,.func (PySem.W.fnOf "_law_counts" "_law_counts" (dh pq) (cj pq) (ao pq) .none kV__law_counts dc__law_counts pm__law_counts an__law_counts cd__law_counts ct__law_counts),sl__law_counts⟩) (c__law_counts:PySem.W.codeIn K cd__law_counts "_law_counts" = true) (k__law_counts:PySem.W.keepIn K (.ref f__law_counts')=true)
    (a__law_last:PySem.W.nsIn K mainGlobals "_law_last" = some (some (.ref f__law_last'))) (l__law_last:K.lookup f__law_last'=some ⟨oc__law_last,od__law_last,.func (PySem.W.fnOf "_law_last" "_law_last" (dh uw) (cj uw) (ao uw) .none kV__law_last dc__law_last pm__law_last an__law_last cd__law_last ct__law_last),sl__law_last⟩) (c__law_last:PySem.W.codeIn K cd__law_last "_law_last" = true) (k__law_last:PySem.W.keepIn K (.ref f__law_last')=true)
    (a__law_free:PySem.W.nsIn K mainGlobals "_law_free" = some (some (.ref f__law_free'))) (l__law_free:K.lookup f__law_free'=some ⟨oc__law_free,od__law_free,.func (PySem.W.fnOf "_law_free" "_law_free" (dh uy) (cj uy) (ao uy) .none kV__law_free dc__law_free pm__law_free an__law_free cd__law_free ct__law_free),sl__law_free⟩) (c__law_free:PySem.W.codeIn K cd__law_free "_law_free" = true) (k__law_free:PySem.W.keepIn K (.ref f__law_free')=true)
    (a__law_freed:PySem.W.nsIn K mainGlobals "_law_freed" = some (some (.ref f__law_freed'))) (l__law_freed:K.lookup f__law_freed'=some ⟨oc__law_freed,od__law_freed,.func (PySem.W.fnOf "_law_freed" "_law_freed" (dh t7) (cj t7) (ao t7) .none kV__law_freed dc__law_freed pm__law_freed an__law_freed cd__law_freed ct__law_freed),sl__law_freed⟩) (c__law_freed:PySem.W.codeIn K cd__law_freed "_law_freed" = true) (k__law_freed:PySem.W.keepIn K (.ref f__law_freed')=true)
    (a__law_led_out:PySem.W.nsIn K mainGlobals "_law_led_out" = some (some (.ref f__law_led_out'))) (l__law_led_out:K.lookup f__law_led_out'=some ⟨oc__law_led_out,od__law_led_out,.func (PySem.W.fnOf "_law_led_out" "_law_led_out" (dh m9) (cj m9) (ao m9) .none kV__law_led_out dc__law_led_out pm__law_led_out an__law_led_out cd__law_led_out ct__law_led_out),sl__law_led_out⟩) (c__law_led_out:PySem.W.codeIn K cd__law_led_out "_law_led_out" = true) (k__law_led_out:PySem.W.keepIn K (.ref f__law_led_out')=true)
    (a__law_right:PySem.W.nsIn K mainGlobals "_law_right" = some (some (.ref f__law_right'))) (l__law_right:K.lookup f__law_right'=some ⟨oc__law_right,od__law_right,.func (PySem.W.fnOf "_law_right" "_law_right" (dh tu) (cj tu) (ao tu) .none kV__law_right dc__law_right pm__law_right an__law_right cd__law_right ct__law_right),sl__law_right⟩) (c__law_right:PySem.W.codeIn K cd__law_right "_law_right" = true) (k__law_right:PySem.W.keepIn K (.ref f__law_right')=true)
    (a_law:PySem.W.nsIn K mainGlobals "law" = some (some (.ref f_law'))) (l_law:K.lookup f_law'=some ⟨oc_law,od_law,.func (PySem.W.fnOf "law" "law" (dh ahh) (cj ahh) (ao ahh) .none kV_law dc_law pm_law an_law cd_law ct_law),sl_law⟩) (c_law:PySem.W.codeIn K cd_law "law" = true) (k_law:PySem.W.keepIn K (.ref f_law')=true)
    (g_MOST_WALKERS:PySem.W.nsIn K mainGlobals "MOST_WALKERS" = some (some (.int 100 tk_MOST_WALKERS)))
    (y_all:PySem.W.nsIn K mainGlobals "all" = some none)
    (y_bool:PySem.W.nsIn K mainGlobals "bool" = some none)
    (y_divmod:PySem.W.nsIn K mainGlobals "divmod" = some none)
    (y_enumerate:PySem.W.nsIn K mainGlobals "enumerate" = some none)
    (y_int:PySem.W.nsIn K mainGlobals "int" = some none)
    (y_isinstance:PySem.W.nsIn K mainGlobals "isinstance" = some none)
    (y_len:PySem.W.nsIn K mainGlobals "len" = some none)
    (y_list:PySem.W.nsIn K mainGlobals "list" = some none)
    (y_max:PySem.W.nsIn K mainGlobals "max" = some none)
    (y_min:PySem.W.nsIn K mainGlobals "min" = some none)
    (y_range:PySem.W.nsIn K mainGlobals "range" = some none)
    (y_set:PySem.W.nsIn K mainGlobals "set" = some none)
    (y_sorted:PySem.W.nsIn K mainGlobals "sorted" = some none)
    (y_tuple:PySem.W.nsIn K mainGlobals "tuple" = some none)
    (y_zip:PySem.W.nsIn K mainGlobals "zip" = some none)
    : ∃ fd:FuncData,(∀ (s:Shared) (v:Value),BindsTo s fd ⟨[v],[]⟩ [("script", v)])∧∀ base:Heap,K.In base→base.Ns mainGlobals mg→FnOk l.prog w K mg base CX0 8 fa fd ["script"] (spOf K 1 apn):=by
  have e:=hfa.symm.trans (PySem.W.mg_of X G a_law)
  cases e
  have T:Txt K mg:=⟨⟨_,PySem.W.mg_of X G g_MOST_WALKERS⟩,PySem.W.mg_none_of X G y_all,PySem.W.mg_none_of X G y_bool,PySem.W.mg_none_of X G y_divmod,PySem.W.mg_none_of X G y_enumerate,PySem.W.mg_none_of X G y_int,PySem.W.mg_none_of X G y_isinstance,PySem.W.mg_none_of X G y_len,PySem.W.mg_none_of X G y_list,PySem.W.mg_none_of X G y_max,PySem.W.mg_none_of X G y_min,PySem.W.mg_none_of X G y_range,PySem.W.mg_none_of X G y_set,PySem.W.mg_none_of X G y_sorted,PySem.W.mg_none_of X G y_tuple,PySem.W.mg_none_of X G y_zip⟩
  have F_is_whole:=ie (st:=xj) l_is_whole c_is_whole k_is_whole
  have b_is_whole:=F_is_whole.binds (ps:=["thing"]) fun _ _ _ _ _ _ us hl=>by obtain ⟨_,rfl⟩:=ln1 hl; rfl
  have F_is_whole_within:=ie (st:=jn) l_is_whole_within c_is_whole_within k_is_whole_within
  have b_is_whole_within:=F_is_whole_within.binds (ps:=["thing","least","most"]) fun _ _ _ _ _ _ us hl=>by obtain ⟨_,_,_,rfl⟩:=ln3 hl; rfl
  have F_is_tuple_within:=ie (st:=jo) l_is_tuple_within c_is_tuple_within k_is_tuple_within
  have b_is_tuple_within:=F_is_tuple_within.binds (ps:=["thing","least","most"]) fun _ _ _ _ _ _ us hl=>by obtain ⟨_,_,_,rfl⟩:=ln3 hl; rfl
  have F_trap:=ie (st:=agn) l_trap c_trap k_trap
  have b_trap:=F_trap.binds (ps:=["house"]) fun _ _ _ _ _ _ us hl=>by obtain ⟨_,rfl⟩:=ln1 hl; rfl
  have F_refuse_not_open:=ie (st:=jl) l_refuse_not_open c_refuse_not_open k_refuse_not_open
  have b_refuse_not_open:=F_refuse_not_open.binds (ps:=["house"]) fun _ _ _ _ _ _ us hl=>by obtain ⟨_,rfl⟩:=ln1 hl; rfl
  have F_is_arrows:=ie (st:=ur) l_is_arrows c_is_arrows k_is_arrows
  have b_is_arrows:=F_is_arrows.binds (ps:=["house","thing"]) fun _ _ _ _ _ _ us hl=>by obtain ⟨_,_,rfl⟩:=ln2 hl; rfl
  have F_refuse_no_arrows:=ie (st:=jf) l_refuse_no_arrows c_refuse_no_arrows k_refuse_no_arrows
  have b_refuse_no_arrows:=F_refuse_no_arrows.binds (ps:=["house","thing"]) fun _ _ _ _ _ _ us hl=>by obtain ⟨_,_,rfl⟩:=ln2 hl; rfl
  have F_last_ways:=ie (st:=uq) l_last_ways c_last_ways k_last_ways
  have b_last_ways:=F_last_ways.binds (ps:=["house","arrows"]) fun _ _ _ _ _ _ us hl=>by obtain ⟨_,_,rfl⟩:=ln2 hl; rfl
  have F_going_round:=ie (st:=ph) l_going_round c_going_round k_going_round
  have b_going_round:=F_going_round.binds (ps:=["last","rooms"]) fun _ _ _ _ _ _ us hl=>by obtain ⟨_,_,rfl⟩:=ln2 hl; rfl
  have F_lead_out:=ie (st:=xg) l_lead_out c_lead_out k_lead_out
  have b_lead_out:=F_lead_out.binds (ps:=["house","arrows"]) fun _ _ _ _ _ _ us hl=>by obtain ⟨_,_,rfl⟩:=ln2 hl; rfl
  have F_refuse_never_back:=ie (st:=iu) l_refuse_never_back c_refuse_never_back k_refuse_never_back
  have b_refuse_never_back:=F_refuse_never_back.binds (ps:=["house","arrows"]) fun _ _ _ _ _ _ us hl=>by obtain ⟨_,_,rfl⟩:=ln2 hl; rfl
  have F_is_walkers:=ie (st:=sr) l_is_walkers c_is_walkers k_is_walkers
  have b_is_walkers:=F_is_walkers.binds (ps:=["house","thing","most"]) fun _ _ _ _ _ _ us hl=>by obtain ⟨_,_,_,rfl⟩:=ln3 hl; rfl
  have F_refuse_no_walkers:=ie (st:=ir) l_refuse_no_walkers c_refuse_no_walkers k_refuse_no_walkers
  have b_refuse_no_walkers:=F_refuse_no_walkers.binds (ps:=["house","thing"]) fun _ _ _ _ _ _ us hl=>by obtain ⟨_,_,rfl⟩:=ln2 hl; rfl
  have F_refuse_no_crowd:=ie (st:=jm) l_refuse_no_crowd c_refuse_no_crowd k_refuse_no_crowd
  have b_refuse_no_crowd:=F_refuse_no_crowd.binds (ps:=["house","arrows","walkers"]) fun _ _ _ _ _ _ us hl=>by obtain ⟨_,_,_,rfl⟩:=ln3 hl; rfl
  have F_ahead_on_ring:=ie (st:=kj) l_ahead_on_ring c_ahead_on_ring k_ahead_on_ring
  have b_ahead_on_ring:=F_ahead_on_ring.binds (ps:=["last","put_in","place"]) fun _ _ _ _ _ _ us hl=>by obtain ⟨_,_,_,rfl⟩:=ln3 hl; rfl
  have F_gate_by:=ie (st:=aab) l_gate_by c_gate_by k_gate_by
  have b_gate_by:=F_gate_by.binds (ps:=["last","room"]) fun _ _ _ _ _ _ us hl=>by obtain ⟨_,_,rfl⟩:=ln2 hl; rfl
  have F_undone:=ie (st:=abr) l_undone c_undone k_undone
  have b_undone:=F_undone.binds (ps:=["house","arrows","room"]) fun _ _ _ _ _ _ us hl=>by obtain ⟨_,_,_,rfl⟩:=ln3 hl; rfl
  have F_count_leavings:=ie (st:=jy) l_count_leavings c_count_leavings k_count_leavings
  have b_count_leavings:=F_count_leavings.binds (ps:=["leavings","room","places"]) fun _ _ _ _ _ _ us hl=>by obtain ⟨_,_,_,rfl⟩:=ln3 hl; rfl
  have F_led_back_each:=ie (st:=kh) l_led_back_each c_led_back_each k_led_back_each
  have b_led_back_each:=F_led_back_each.binds (ps:=["house","arrows","walkers"]) fun _ _ _ _ _ _ us hl=>by obtain ⟨_,_,_,rfl⟩:=ln3 hl; rfl
  have F_led_back_all:=ie (st:=m7) l_led_back_all c_led_back_all k_led_back_all
  have b_led_back_all:=F_led_back_all.binds (ps:=["house","arrows","walkers"]) fun _ _ _ _ _ _ us hl=>by obtain ⟨_,_,_,rfl⟩:=ln3 hl; rfl
  have F__law_cell:=ie (st:=u0) l__law_cell c__law_cell k__law_cell
  have b__law_cell:=F__law_cell.binds (ps:=["script","k"]) fun _ _ _ _ _ _ us hl=>by obtain ⟨_,_,rfl⟩:=ln2 hl; rfl
  have F__law_pen:=ie (st:=xm) l__law_pen c__law_pen k__law_pen
  have b__law_pen:=F__law_pen.binds (ps:=["cell"]) fun _ _ _ _ _ _ us hl=>by obtain ⟨_,rfl⟩:=ln1 hl; rfl
  have F__law_draw:=ie (st:=uz) l__law_draw c__law_draw k__law_draw
  have b__law_draw:=F__law_draw.binds (ps:=["pen","many"]) fun _ _ _ _ _ _ us hl=>by obtain ⟨_,_,rfl⟩:=ln2 hl; rfl
  have F__law_whole:=ie (st:=su) l__law_whole c__law_whole k__law_whole
  have b__law_whole:=F__law_whole.binds (ps:=["thing"]) fun _ _ _ _ _ _ us hl=>by obtain ⟨_,rfl⟩:=ln1 hl; rfl
  have F__law_house:=ie (st:=t6) l__law_house c__law_house k__law_house
  have b__law_house:=F__law_house.binds (ps:=["pen","most","doors"]) fun _ _ _ _ _ _ us hl=>by obtain ⟨_,_,_,rfl⟩:=ln3 hl; rfl
  have F__law_reached:=ie (st:=m8) l__law_reached c__law_reached k__law_reached
  have b__law_reached:=F__law_reached.binds (ps:=["house","room"]) fun _ _ _ _ _ _ us hl=>by obtain ⟨_,_,rfl⟩:=ln2 hl; rfl
  have F__law_open:=ie (st:=ut) l__law_open c__law_open k__law_open
  have b__law_open:=F__law_open.binds (ps:=["pen","most","doors"]) fun _ _ _ _ _ _ us hl=>by obtain ⟨_,_,_,rfl⟩:=ln3 hl; rfl
  have F__law_arrows:=ie (st:=qb) l__law_arrows c__law_arrows k__law_arrows
  have b__law_arrows:=F__law_arrows.binds (ps:=["pen","house"]) fun _ _ _ _ _ _ us hl=>by obtain ⟨_,_,rfl⟩:=ln2 hl; rfl
  have F__law_left:=ie (st:=uv) l__law_left c__law_left k__law_left
  have b__law_left:=F__law_left.binds (ps:=["house","arrows","room"]) fun _ _ _ _ _ _ us hl=>by obtain ⟨_,_,_,rfl⟩:=ln3 hl; rfl
  have F__law_tuple:=ie (st:=sy) l__law_tuple c__law_tuple k__law_tuple
  have b__law_tuple:=F__law_tuple.binds (ps:=["found","due"]) fun _ _ _ _ _ _ us hl=>by obtain ⟨_,_,rfl⟩:=ln2 hl; rfl
  have F__law_gone:=ie (st:=ux) l__law_gone c__law_gone k__law_gone
  have b__law_gone:=F__law_gone.binds (ps:=["house","arrows","room","most"]) fun _ _ _ _ _ _ us hl=>by obtain ⟨_,_,_,_,rfl⟩:=ln4 hl; rfl
  have F__law_counts:=ie (st:=pq) l__law_counts c__law_counts k__law_counts
  have b__law_counts:=F__law_counts.binds (ps:=["house","room","places"]) fun _ _ _ _ _ _ us hl=>by obtain ⟨_,_,_,rfl⟩:=ln3 hl; rfl
  have F__law_last:=ie (st:=uw) l__law_last c__law_last k__law_last
  have b__law_last:=F__law_last.binds (ps:=["house","arrows"]) fun _ _ _ _ _ _ us hl=>by obtain ⟨_,_,rfl⟩:=ln2 hl; rfl
  have F__law_free:=ie (st:=uy) l__law_free c__law_free k__law_free
  have b__law_free:=F__law_free.binds (ps:=["house","arrows"]) fun _ _ _ _ _ _ us hl=>by obtain ⟨_,_,rfl⟩:=ln2 hl; rfl
  have F__law_freed:=ie (st:=t7) l__law_freed c__law_freed k__law_freed
  have b__law_freed:=F__law_freed.binds (ps:=["pen","house","arrows"]) fun _ _ _ _ _ _ us hl=>by obtain ⟨_,_,_,rfl⟩:=ln3 hl; rfl
  have F__law_led_out:=ie (st:=m9) l__law_led_out c__law_led_out k__law_led_out
  have b__law_led_out:=F__law_led_out.binds (ps:=["house","arrows","rooms"]) fun _ _ _ _ _ _ us hl=>by obtain ⟨_,_,_,rfl⟩:=ln3 hl; rfl
  have F__law_right:=ie (st:=tu) l__law_right c__law_right k__law_right
  have b__law_right:=F__law_right.binds (ps:=["house","arrows","walkers"]) fun _ _ _ _ _ _ us hl=>by obtain ⟨_,_,_,rfl⟩:=ln3 hl; rfl
  have F_law:=ie (st:=ahh) l_law c_law k_law
  refine ⟨PySem.W.fnOf "law" "law" (dh ahh) (cj ahh) (ao ahh) .none kV_law dc_law pm_law an_law cd_law ct_law,fun s v=>.of_eq rfl,fun base _ _ => ?_⟩
  have d_is_whole:Dfn l.prog w K mg base _ _ _ _:=⟨f_is_whole',_,akj (P:=l.prog) (w:=w) (base:=base) F_is_whole T,PySem.W.mg_of X G a_is_whole,k_is_whole,b_is_whole⟩
  have d_is_whole_within:Dfn l.prog w K mg base _ _ _ _:=⟨f_is_whole_within',_,ac3 (P:=l.prog) (w:=w) (base:=base) F_is_whole_within T d_is_whole,PySem.W.mg_of X G a_is_whole_within,k_is_whole_within,b_is_whole_within⟩
  have d_is_tuple_within:Dfn l.prog w K mg base _ _ _ _:=⟨f_is_tuple_within',_,ac4 (P:=l.prog) (w:=w) (base:=base) F_is_tuple_within T,PySem.W.mg_of X G a_is_tuple_within,k_is_tuple_within,b_is_tuple_within⟩
  have d_trap:Dfn l.prog w K mg base _ _ _ _:=⟨f_trap',_,auw (P:=l.prog) (w:=w) (base:=base) F_trap T,PySem.W.mg_of X G a_trap,k_trap,b_trap⟩
  have d_refuse_not_open:Dfn l.prog w K mg base _ _ _ _:=⟨f_refuse_not_open',_,ac1 (P:=l.prog) (w:=w) (base:=base) F_refuse_not_open T d_trap,PySem.W.mg_of X G a_refuse_not_open,k_refuse_not_open,b_refuse_not_open⟩
  have d_is_arrows:Dfn l.prog w K mg base _ _ _ _:=⟨f_is_arrows',_,ait (P:=l.prog) (w:=w) (base:=base) F_is_arrows T d_is_tuple_within d_is_whole_within,PySem.W.mg_of X G a_is_arrows,k_is_arrows,b_is_arrows⟩
  have d_refuse_no_arrows:Dfn l.prog w K mg base _ _ _ _:=⟨f_refuse_no_arrows',_,ach (P:=l.prog) (w:=w) (base:=base) F_refuse_no_arrows T d_is_arrows,PySem.W.mg_of X G a_refuse_no_arrows,k_refuse_no_arrows,b_refuse_no_arrows⟩
  have d_last_ways:Dfn l.prog w K mg base _ _ _ _:=⟨f_last_ways',_,ais (P:=l.prog) (w:=w) (base:=base) F_last_ways T,PySem.W.mg_of X G a_last_ways,k_last_ways,b_last_ways⟩
  have d_going_round:Dfn l.prog w K mg base _ _ _ _:=⟨f_going_round',_,agf (P:=l.prog) (w:=w) (base:=base) F_going_round T,PySem.W.mg_of X G a_going_round,k_going_round,b_going_round⟩
  have d_lead_out:Dfn l.prog w K mg base _ _ _ _:=⟨f_lead_out',_,aki (P:=l.prog) (w:=w) (base:=base) F_lead_out T d_last_ways d_going_round,PySem.W.mg_of X G a_lead_out,k_lead_out,b_lead_out⟩
  have d_refuse_never_back:Dfn l.prog w K mg base _ _ _ _:=⟨f_refuse_never_back',_,ab7 (P:=l.prog) (w:=w) (base:=base) F_refuse_never_back T d_lead_out,PySem.W.mg_of X G a_refuse_never_back,k_refuse_never_back,b_refuse_never_back⟩
  have d_is_walkers:Dfn l.prog w K mg base _ _ _ _:=⟨f_is_walkers',_,ahp (P:=l.prog) (w:=w) (base:=base) F_is_walkers T d_is_tuple_within d_is_whole_within,PySem.W.mg_of X G a_is_walkers,k_is_walkers,b_is_walkers⟩
  have d_refuse_no_walkers:Dfn l.prog w K mg base _ _ _ _:=⟨f_refuse_no_walkers',_,ab6 (P:=l.prog) (w:=w) (base:=base) F_refuse_no_walkers T d_is_walkers,PySem.W.mg_of X G a_refuse_no_walkers,k_refuse_no_walkers,b_refuse_no_walkers⟩
  have d_refuse_no_crowd:Dfn l.prog w K mg base _ _ _ _:=⟨f_refuse_no_crowd',_,ac2 (P:=l.prog) (w:=w) (base:=base) F_refuse_no_crowd T d_refuse_no_arrows d_refuse_no_walkers,PySem.W.mg_of X G a_refuse_no_crowd,k_refuse_no_crowd,b_refuse_no_crowd⟩
  have d_ahead_on_ring:Dfn l.prog w K mg base _ _ _ _:=⟨f_ahead_on_ring',_,aev (P:=l.prog) (w:=w) (base:=base) F_ahead_on_ring T,PySem.W.mg_of X G a_ahead_on_ring,k_ahead_on_ring,b_ahead_on_ring⟩
  have d_gate_by:Dfn l.prog w K mg base _ _ _ _:=⟨f_gate_by',_,am2 (P:=l.prog) (w:=w) (base:=base) F_gate_by T,PySem.W.mg_of X G a_gate_by,k_gate_by,b_gate_by⟩
  have d_undone:Dfn l.prog w K mg base _ _ _ _:=⟨f_undone',_,aot (P:=l.prog) (w:=w) (base:=base) F_undone T d_last_ways d_gate_by d_ahead_on_ring,PySem.W.mg_of X G a_undone,k_undone,b_undone⟩
  have d_count_leavings:Dfn l.prog w K mg base _ _ _ _:=⟨f_count_leavings',_,adx (P:=l.prog) (w:=w) (base:=base) F_count_leavings T,PySem.W.mg_of X G a_count_leavings,k_count_leavings,b_count_leavings⟩
  have d_led_back_each:Dfn l.prog w K mg base _ _ _ _:=⟨f_led_back_each',_,aeu (P:=l.prog) (w:=w) (base:=base) F_led_back_each T d_undone d_count_leavings,PySem.W.mg_of X G a_led_back_each,k_led_back_each,b_led_back_each⟩
  have d_led_back_all:Dfn l.prog w K mg base _ _ _ _:=⟨f_led_back_all',_,afj (P:=l.prog) (w:=w) (base:=base) F_led_back_all T d_refuse_no_crowd d_refuse_not_open d_refuse_never_back d_led_back_each,PySem.W.mg_of X G a_led_back_all,k_led_back_all,b_led_back_all⟩
  have d__law_cell:Dfn l.prog w K mg base _ _ _ _:=⟨f__law_cell',_,ai0 (P:=l.prog) (w:=w) (base:=base) F__law_cell T,PySem.W.mg_of X G a__law_cell,k__law_cell,b__law_cell⟩
  have d__law_pen:Dfn l.prog w K mg base _ _ _ _:=⟨f__law_pen',_,akk (P:=l.prog) (w:=w) (base:=base) F__law_pen T,PySem.W.mg_of X G a__law_pen,k__law_pen,b__law_pen⟩
  have d__law_draw:Dfn l.prog w K mg base _ _ _ _:=⟨f__law_draw',_,aiz (P:=l.prog) (w:=w) (base:=base) F__law_draw T,PySem.W.mg_of X G a__law_draw,k__law_draw,b__law_draw⟩
  have d__law_whole:Dfn l.prog w K mg base _ _ _ _:=⟨f__law_whole',_,ahq (P:=l.prog) (w:=w) (base:=base) F__law_whole T,PySem.W.mg_of X G a__law_whole,k__law_whole,b__law_whole⟩
  have d__law_house:Dfn l.prog w K mg base _ _ _ _:=⟨f__law_house',_,aht (P:=l.prog) (w:=w) (base:=base) F__law_house T d__law_draw,PySem.W.mg_of X G a__law_house,k__law_house,b__law_house⟩
  have d__law_reached:Dfn l.prog w K mg base _ _ _ _:=⟨f__law_reached',_,afk (P:=l.prog) (w:=w) (base:=base) F__law_reached T,PySem.W.mg_of X G a__law_reached,k__law_reached,b__law_reached⟩
  have d__law_open:Dfn l.prog w K mg base _ _ _ _:=⟨f__law_open',_,aiu (P:=l.prog) (w:=w) (base:=base) F__law_open T d__law_house d__law_reached d__law_draw,PySem.W.mg_of X G a__law_open,k__law_open,b__law_open⟩
  have d__law_arrows:Dfn l.prog w K mg base _ _ _ _:=⟨f__law_arrows',_,agh (P:=l.prog) (w:=w) (base:=base) F__law_arrows T d__law_draw,PySem.W.mg_of X G a__law_arrows,k__law_arrows,b__law_arrows⟩
  have d__law_left:Dfn l.prog w K mg base _ _ _ _:=⟨f__law_left',_,aiv (P:=l.prog) (w:=w) (base:=base) F__law_left T,PySem.W.mg_of X G a__law_left,k__law_left,b__law_left⟩
  have d__law_tuple:Dfn l.prog w K mg base _ _ _ _:=⟨f__law_tuple',_,ahr (P:=l.prog) (w:=w) (base:=base) F__law_tuple T d__law_whole,PySem.W.mg_of X G a__law_tuple,k__law_tuple,b__law_tuple⟩
  have d__law_gone:Dfn l.prog w K mg base _ _ _ _:=⟨f__law_gone',_,aix (P:=l.prog) (w:=w) (base:=base) F__law_gone T d__law_left,PySem.W.mg_of X G a__law_gone,k__law_gone,b__law_gone⟩
  have d__law_counts:Dfn l.prog w K mg base _ _ _ _:=⟨f__law_counts',_,agg (P:=l.prog) (w:=w) (base:=base) F__law_counts T,PySem.W.mg_of X G a__law_counts,k__law_counts,b__law_counts⟩
  have d__law_last:Dfn l.prog w K mg base _ _ _ _:=⟨f__law_last',_,aiw (P:=l.prog) (w:=w) (base:=base) F__law_last T,PySem.W.mg_of X G a__law_last,k__law_last,b__law_last⟩
  have d__law_free:Dfn l.prog w K mg base _ _ _ _:=⟨f__law_free',_,aiy (P:=l.prog) (w:=w) (base:=base) F__law_free T d__law_last,PySem.W.mg_of X G a__law_free,k__law_free,b__law_free⟩
  have d__law_freed:Dfn l.prog w K mg base _ _ _ _:=⟨f__law_freed',_,ahu (P:=l.prog) (w:=w) (base:=base) F__law_freed T d__law_draw,PySem.W.mg_of X G a__law_freed,k__law_freed,b__law_freed⟩
  have d__law_led_out:Dfn l.prog w K mg base _ _ _ _:=⟨f__law_led_out',_,afl (P:=l.prog) (w:=w) (base:=base) F__law_led_out T d__law_gone d__law_counts,PySem.W.mg_of X G a__law_led_out,k__law_led_out,b__law_led_out⟩
  have d__law_right:Dfn l.prog w K mg base _ _ _ _:=⟨f__law_right',_,ahs (P:=l.prog) (w:=w) (base:=base) F__law_right T d_led_back_all d__law_tuple d__law_free d__law_led_out,PySem.W.mg_of X G a__law_right,k__law_right,b__law_right⟩
  exact axx F_law T d__law_right d__law_cell d__law_pen d__law_draw d__law_open d__law_arrows d__law_freed
end My
def PySem.W.Fast.tw8892656770179606980:Unit:=()
def PySem.W.Fast.tw14284184408489875369:Unit:=()
def PySem.W.Fast.tw12649998497097835786:Unit:=()
def PySem.W.Fast.tw9779150408022862826:Unit:=()
def PySem.W.Fast.tw5090177008290675755:Unit:=()
def PySem.W.Fast.tw3267347250675583723:Unit:=()
def PySem.W.Fast.tw6245544844423622927:Unit:=()
def PySem.W.Fast.tw8656264150606857168:Unit:=()
def PySem.W.Fast.tw4074116509116782544:Unit:=()
def PySem.W.Fast.tw15451916009748418995:Unit:=()
def PySem.W.Fast.tw7251607020493931700:Unit:=()
def PySem.W.Fast.tw7817171326453582550:Unit:=()
open PySem PySem.W PyProof.Rows
set_option maxRecDepth 100000 in
set_option maxHeartbeats 0 in
theorem PySem.Challenge.cw_turnarrows_k47_all_walkers_led_back_holds : PySem.Challenge.rw_turnarrows_k47_all_walkers_led_back.Holds := by
  w_on; o_law; k_head; (case hw=>w_witness2)
  k_fill
  refine Dn.walk (l:=PySem.Challenge.rw_turnarrows_k47_all_walkers_led_back) (f:=My.apn) (k:=8) My.arq rfl rfl ⟨rfl,by decide,by decide,rfl⟩ (fun w h Y=>PySem.W.kIn_of Y) ?F
  case F =>
    intro w mg fa h KX G hmg
    refine' My.azo KX G hmg ?a_is_whole ?l_is_whole ?c_is_whole ?k_is_whole ?a_is_whole_within ?l_is_whole_within ?c_is_whole_within ?k_is_whole_within ?a_is_tuple_within ?l_is_tuple_within ?c_is_tuple_within ?k_is_tuple_within ?a_trap ?l_trap ?c_trap ?k_trap ?a_refuse_not_open ?l_refuse_not_open ?c_refuse_not_open ?k_refuse_not_open ?a_is_arrows ?l_is_arrows ?c_is_arrows ?k_is_arrows ?a_refuse_no_arrows ?l_refuse_no_arrows ?c_refuse_no_arrows ?k_refuse_no_arrows ?a_last_ways ?l_last_ways ?c_last_ways ?k_last_ways ?a_going_round ?l_going_round ?c_going_round ?k_going_round ?a_lead_out ?l_lead_out ?c_lead_out ?k_lead_out ?a_refuse_never_back ?l_refuse_never_back ?c_refuse_never_back ?k_refuse_never_back ?a_is_walkers ?l_is_walkers ?c_is_walkers ?k_is_walkers ?a_refuse_no_walkers ?l_refuse_no_walkers ?c_refuse_no_walkers ?k_refuse_no_walkers ?a_refuse_no_crowd ?l_refuse_no_crowd ?c_refuse_no_crowd ?k_refuse_no_crowd ?a_ahead_on_ring ?l_ahead_on_ring ?c_ahead_on_ring ?k_ahead_on_ring ?a_gate_by ?l_gate_by ?c_gate_by ?k_gate_by ?a_undone ?l_undone ?c_undone ?k_undone ?a_count_leavings ?l_count_leavings ?c_count_leavings ?k_count_leavings ?a_led_back_each ?l_led_back_each ?c_led_back_each ?k_led_back_each ?a_led_back_all ?l_led_back_all ?c_led_back_all ?k_led_back_all ?a__law_cell ?l__law_cell ?c__law_cell ?k__law_cell ?a__law_pen ?l__law_pen ?c__law_pen ?k__law_pen ?a__law_draw ?l__law_draw ?c__law_draw ?k__law_draw ?a__law_whole ?l__law_whole ?c__law_whole ?k__law_whole ?a__law_house ?l__law_house ?c__law_house ?k__law_house ?a__law_reached ?l__law_reached ?c__law_reached ?k__law_reached ?a__law_open ?l__law_open ?c__law_open ?k__law_open ?a__law_arrows ?l__law_arrows ?c__law_arrows ?k__law_arrows ?a__law_left ?l__law_left ?c__law_left ?k__law_left ?a__law_tuple ?l__law_tuple ?c__law_tuple ?k__law_tuple ?a__law_gone ?l__law_gone ?c__law_gone ?k__law_gone ?a__law_counts ?l__law_counts ?c__law_counts ?k__law_counts ?a__law_last ?l__law_last ?c__law_last ?k__law_last ?a__law_free ?l__law_free ?c__law_free ?k__law_free ?a__law_freed ?l__law_freed ?c__law_freed ?k__law_freed ?a__law_led_out ?l__law_led_out ?c__law_led_out ?k__law_led_out ?a__law_right ?l__law_right ?c__law_right ?k__law_right ?a_law ?l_law ?c_law ?k_law ?g_MOST_WALKERS ?y_all ?y_bool ?y_divmod ?y_enumerate ?y_int ?y_isinstance ?y_len ?y_list ?y_max ?y_min ?y_range ?y_set ?y_sorted ?y_tuple ?y_zip
    (case a_is_whole=>k_is)
    (case l_is_whole=>k_is)
    (case c_is_whole=>k_is)
    (case k_is_whole=>k_is)
    (case a_is_whole_within=>k_is)
    (case l_is_whole_within=>k_is)
    (case c_is_whole_within=>k_is)
    (case k_is_whole_within=>k_is)
    (case a_is_tuple_within=>k_is)
    (case l_is_tuple_within=>k_is)
    (case c_is_tuple_within=>k_is)
    (case k_is_tuple_within=>k_is)
    (case a_trap=>k_is)
    (case l_trap=>k_is)
    (case c_trap=>k_is)
    (case k_trap=>k_is)
    (case a_refuse_not_open=>k_is)
    (case l_refuse_not_open=>k_is)
    (case c_refuse_not_open=>k_is)
    (case k_refuse_not_open=>k_is)
    (case a_is_arrows=>k_is)
    (case l_is_arrows=>k_is)
    (case c_is_arrows=>k_is)
    (case k_is_arrows=>k_is)
    (case a_refuse_no_arrows=>k_is)
    (case l_refuse_no_arrows=>k_is)
    (case c_refuse_no_arrows=>k_is)
    (case k_refuse_no_arrows=>k_is)
    (case a_last_ways=>k_is)
    (case l_last_ways=>k_is)
    (case c_last_ways=>k_is)
    (case k_last_ways=>k_is)
    (case a_going_round=>k_is)
    (case l_going_round=>k_is)
    (case c_going_round=>k_is)
    (case k_going_round=>k_is)
    (case a_lead_out=>k_is)
    (case l_lead_out=>k_is)
    (case c_lead_out=>k_is)
    (case k_lead_out=>k_is)
    (case a_refuse_never_back=>k_is)
    (case l_refuse_never_back=>k_is)
    (case c_refuse_never_back=>k_is)
    (case k_refuse_never_back=>k_is)
    (case a_is_walkers=>k_is)
    (case l_is_walkers=>k_is)
    (case c_is_walkers=>k_is)
    (case k_is_walkers=>k_is)
    (case a_refuse_no_walkers=>k_is)
    (case l_refuse_no_walkers=>k_is)
    (case c_refuse_no_walkers=>k_is)
    (case k_refuse_no_walkers=>k_is)
    (case a_refuse_no_crowd=>k_is)
    (case l_refuse_no_crowd=>k_is)
    (case c_refuse_no_crowd=>k_is)
    (case k_refuse_no_crowd=>k_is)
    (case a_ahead_on_ring=>k_is)
    (case l_ahead_on_ring=>k_is)
    (case c_ahead_on_ring=>k_is)
    (case k_ahead_on_ring=>k_is)
    (case a_gate_by=>k_is)
    (case l_gate_by=>k_is)
    (case c_gate_by=>k_is)
    (case k_gate_by=>k_is)
    (case a_undone=>k_is)
    (case l_undone=>k_is)
    (case c_undone=>k_is)
    (case k_undone=>k_is)
    (case a_count_leavings=>k_is)
    (case l_count_leavings=>k_is)
    (case c_count_leavings=>k_is)
    (case k_count_leavings=>k_is)
    (case a_led_back_each=>k_is)
    (case l_led_back_each=>k_is)
    (case c_led_back_each=>k_is)
    (case k_led_back_each=>k_is)
    (case a_led_back_all=>k_is)
    (case l_led_back_all=>k_is)
    (case c_led_back_all=>k_is)
    (case k_led_back_all=>k_is)
    (case a__law_cell=>k_is)
    (case l__law_cell=>k_is)
    (case c__law_cell=>k_is)
    (case k__law_cell=>k_is)
    (case a__law_pen=>k_is)
    (case l__law_pen=>k_is)
    (case c__law_pen=>k_is)
    (case k__law_pen=>k_is)
    (case a__law_draw=>k_is)
    (case l__law_draw=>k_is)
    (case c__law_draw=>k_is)
    (case k__law_draw=>k_is)
    (case a__law_whole=>k_is)
    (case l__law_whole=>k_is)
    (case c__law_whole=>k_is)
    (case k__law_whole=>k_is)
    (case a__law_house=>k_is)
    (case l__law_house=>k_is)
    (case c__law_house=>k_is)
    (case k__law_house=>k_is)
    (case a__law_reached=>k_is)
    (case l__law_reached=>k_is)
    (case c__law_reached=>k_is)
    (case k__law_reached=>k_is)
    (case a__law_open=>k_is)
    (case l__law_open=>k_is)
    (case c__law_open=>k_is)
    (case k__law_open=>k_is)
    (case a__law_arrows=>k_is)
    (case l__law_arrows=>k_is)
    (case c__law_arrows=>k_is)
    (case k__law_arrows=>k_is)
    (case a__law_left=>k_is)
    (case l__law_left=>k_is)
    (case c__law_left=>k_is)
    (case k__law_left=>k_is)
    (case a__law_tuple=>k_is)
    (case l__law_tuple=>k_is)
    (case c__law_tuple=>k_is)
    (case k__law_tuple=>k_is)
    (case a__law_gone=>k_is)
    (case l__law_gone=>k_is)
    (case c__law_gone=>k_is)
    (case k__law_gone=>k_is)
    (case a__law_counts=>k_is)
    (case l__law_counts=>k_is)
    (case c__law_counts=>k_is)
    (case k__law_counts=>k_is)
    (case a__law_last=>k_is)
    (case l__law_last=>k_is)
    (case c__law_last=>k_is)
    (case k__law_last=>k_is)
    (case a__law_free=>k_is)
    (case l__law_free=>k_is)
    (case c__law_free=>k_is)
    (case k__law_free=>k_is)
    (case a__law_freed=>k_is)
    (case l__law_freed=>k_is)
    (case c__law_freed=>k_is)
    (case k__law_freed=>k_is)
    (case a__law_led_out=>k_is)
    (case l__law_led_out=>k_is)
    (case c__law_led_out=>k_is)
    (case k__law_led_out=>k_is)
    (case a__law_right=>k_is)
    (case l__law_right=>k_is)
    (case c__law_right=>k_is)
    (case k__law_right=>k_is)
    (case a_law=>k_is)
    (case l_law=>k_is)
    (case c_law=>k_is)
    (case k_law=>k_is)
    (case g_MOST_WALKERS=>k_is)
    (case y_all=>k_is)
    (case y_bool=>k_is)
    (case y_divmod=>k_is)
    (case y_enumerate=>k_is)
    (case y_int=>k_is)
    (case y_isinstance=>k_is)
    (case y_len=>k_is)
    (case y_list=>k_is)
    (case y_max=>k_is)
    (case y_min=>k_is)
    (case y_range=>k_is)
    (case y_set=>k_is)
    (case y_sorted=>k_is)
    (case y_tuple=>k_is)
    (case y_zip=>k_is)
