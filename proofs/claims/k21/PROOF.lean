import PyProof.Rows.All
import Wide.All
import OpenK.AllK
import Wide.FinOn
import Lean
import PyProof.EqAt
import PyProof.EqKinds
import PyProof.TupleCall
import PySem.Challenge.RW_turnarrows_k21_whole_whatever_the_order
set_option Elab.async false
set_option linter.all false
set_option maxRecDepth 100000
open Array renaming length_toList->bI,getElem?_eq_some_iff->lG,getElem?_toList->oE,getElem_toList->oJ,getElem?_eq_none->tK,append_assoc->uT,toList_push->vP,getD->vQ
open Bool renaming and_eq_true->bF,false_ne_true->dX,false_eq_true->iK,or_eq_true->rD,false_and->rW,or_eq_false_iff->uE,and_false->wO,or_false->xG
open Classical renaming byContradiction->cN
open False renaming elim->gG
open ForInStep renaming yield->wC
open Function renaming comp_def->jX
open Int renaming toNat_natCast->aX,emod_eq_of_lt->dR,emod_lt_of_pos->dW,emod_nonneg->fZ,natCast_add->iU,add_zero->kI,mul_le_mul_of_nonneg_left->kY,lt_or_le->lN,add_emod_right->lO,emod_add_mul_ediv->oA,mul_add->oW,natCast_mul->qX,mul_one->qY,fmod_eq_emod_of_nonneg->rF,fdiv_eq_ediv_of_nonneg->rG,ediv_emod_unique->uD,emod_add_emod->vK
open List renaming getElem?_eq_getElem->aC,replicate->aD,length_map->aF,getD_eq_getElem?_getD->aG,mem_cons_of_mem->aL,getElem?_eq_some_iff->aN,getElem?_map->aO,mem_cons_self->aR,map_cons->aU,size_toArray->aV,mem_cons->aY,set->bA,getElem?_append_left->bB,length_set->bC,range->bG,lookup->bK,sum_cons->bL,length_append->bM,getElem?_eq_none->bN,length_cons->bO,getElem?_set->bQ,getElem_mem->bT,length_replicate->bY,mem_of_getElem?->cC,map_append->cG,getElem?_append_right->cJ,mem_filter->cM,mem_append->cO,not_mem_nil->cQ,count_append->cR,nil_append->cU,mem_singleton->cV,mem_map->cW,mem_append_right->cX,lookup_cons_self->cY,append_nil->cZ,length_range->dD,mem_range->dG,getElem?_range->dJ,replicate_succ->eE,getElem?_replicate->eH,range_succ->eY,foldl_cons->fB,map_map->fD,length_filter_le->fG,pairwise_cons->fL,mem_iff_getElem->fO,all_eq_true->fP,length_zipWith->fV,ext_getElem?->fW,append_assoc->fX,map_set->fY,length_take->gB,getElem?_cons_succ->gD,filterMap_cons->gJ,mem_append_left->gR,getElem?_take_of_lt->gW,flatten_cons->gY,length_pos_iff->iD,getElem?_zipWith->iT,all_cons->iZ,getElem?_eq_none_iff->jE,length_drop->jG,map_congr_left->jH,foldl->jM,sum_append->jQ,pairwise_lt_range->jT,contains_iff_mem->kE,take_length->kO,cons_append->kW,nodup_cons->lD,forIn_cons->lE,cons.injEq->lF,zipWith->lL,map_replicate->lM,drop_eq_getElem_cons->lU,append_eq_append_iff->lV,zipIdx_cons->mZ,take_of_length_le->nF,zipIdx_nil->nU,take_append_drop->nW,filter_map->nY,Pairwise.sublist->nZ,mem_of_mem_take->oG,getElem?_mapIdx->oH,forIn_nil->oN,filter_eq_self->oV,map_take->pA,findIdx?_eq_some_iff_getElem->pB,findIdx?->pC,filter_filter->pD,count_eq_zero->pF,any_cons->pG,Pairwise.cons->pH,Pairwise.nil->pQ,map_nil->pW,mapIdx_cons->qD,filter_cons->qF,ext_getElem->qG,eq_nil_of_length_eq_zero->qH,countP_cons->qI,of_mem_zip->qU,length_zip->qW,length_eraseIdx_of_lt->rE,mem_or_eq_of_mem_set->rP,getElem?_zip_eq_some->rQ,findIdx?_eq_none_iff->rR,drop_zero->rT,zip->sX,length_eq_zero_iff->sY,length_pos_of_mem->tE,getElem?_set_self->tG,drop_eq_nil_of_le->tH,take->tU,all_nil->tV,all_map->tW,Pairwise.of_cons->tX,replicate_succ'->uA,getElem?_set_ne->uB,count_replicate->uC,replicate_zero->uI,map_id->uJ,filter_sublist->uK,mem_replicate->uO,mem_filterMap->uP,length_mapIdx->uQ,take_sublist->vA,take_add_one->vB,reverse_cons->vC,pairwise_map->vD,nodup_append->vG,length_erase->vH,getElem_drop->vI,Pairwise.imp->vJ,take_succ->wL,mapM_cons->wM,map_drop->wX
open Nat renaming le_refl->aM,ne_of_lt->bD,lt_of_lt_of_le->cA,le_trans->cF,zero_add->cT,zero_le->dI,lt_succ_self->gM,ne_of_gt->gP,lt_or_ge->iR,lt_irrefl->iW,le_succ->jW,lt_trans->lH,le_of_lt->lJ,le_of_eq->lK,lt_succ_of_lt->mH,succ_le_succ->mY,not_lt_zero->nR,min_eq_left->nT,eq_zero_or_pos->oZ,sub_zero->tQ,mul_comm->tR,mul_le_mul_right->tZ,lt_of_le_of_lt->uN,le_add_right->vX
open Ne renaming symm->iI
open Option renaming map_eq_some_iff->bH,some.inj->bW,bind_eq_some_iff->jP,map_some->nQ,getD_none->qC,isNone_iff_eq_none->rO,isSome_iff_exists->sG,getD_some->vV,bind_some->vW
open Or renaming inl->bR,inr->nP
open Prod renaming ext->wV
open PyProof renaming Rows.slot_tuple_getitem->eG,Rows.callWith_type1->gH,Rows.LSm.kept_iter->lA,Rows.IntsAre->mV,Rows.F.plain_set_update_loop->mW,Rows.envOfC->nG,Rows.AllBare->oX,Rows.IntsAre.allInts->qL,Rows.F.entry_set_update_loop->sZ
open PySem renaming wpAny_bind->aA,Heap.get?_push_of_some->aB,wpAny_pure->aH,Shared->aJ,Heap.get?_push_size->aK,mainGlobals->aP,Heap.lt_size->aQ,starEach->aW,Program->aZ,Heap.size_push->bJ,wpAny_newObj_type->bU,bootBuiltins->bV,Heap.get?_update_self->bZ,Heap.SameBut.update->cB,sizeLine->cD,Heap.SameBut->cH,Around->cI,PassesOwn.never->cL,SetTable->cP,wpAny_field->dB,wpAny_mono->dC,Obj.data_mapFields->dF,wpAny_callSpecial?_slot->dH,Value.ref->dN,wpAny_seqItems->dO,NameKind.free->dU,assignEach->dY,W.kia_one->dZ,wpAny_call_entry->eF,W.keepIn->eQ,wpAny_setField_rec->eU,Heap.get?_update_other->eV,SetTable.below->eX,wpAny_holding->fH,compareOp->fJ,W.codeIn->fK,FuncData->fM,binaryOp->fQ,W.mg_none_of->fU,Value.none->gA,attributeBase->gC,W.emptyDict->gF,Obj.mapSeq->gK,sizeLine_eq->gQ,W.instObj->gU,Builtin.Tuple.tupleExact->iB,mem_of_lookup->iC,wpAny_setField->iG,wpAny_rule->iH,Builtin->iJ,Str.ofString->iM,Obj.isFreed_of_fields->iQ,Value.type->iV,NameKind.cell->iY,backTo->jA,F.slot_tuple_iterator_next->jB,holding->jC,Around.under_plainId->jD,Builtin.Slice.slicePlaces->jF,W.findIn->jJ,F.type_list_append->jK,F.slot_list_append->jL,F.called_set->jN,pickOrder->jO,F.slot_int_rmul->jR,call_meets->jU,W.hasDictIn->jV,intItems->jY,W.isFn->jZ,W.plainGet->kJ,assign->kZ,swapsWith->lB,rawInt->lC,SetTable.grown->lQ,W.InstAt->lR,Builtin.Slice.sliceAdjust->lW,scanBound->lX,pyNext->lY,Value.int->lZ,W.specialIn->mD,F.args_tuple_add_2->mF,Obj.cls_mapFields->mG,AutoSeq1.wpAny_loadPart'->mJ,codeAny->mK,Value.builtin->mL,Shared.heap->mO,W.subIn->mQ,W.clsIn->mR,F.entry_tuple_add->mU,W.any_some->mX,F.slot_tuple_mul->nA,F.slot_tuple_add->nD,argBest->nH,W.takerIn->nJ,W.makesIn->nM,W.findObj->nO,W.looks_findIn->oF,W.lookIn->oK,W.kitOne->oM,intKind->oO,hashInt->oR,W.plainGet_of->oU,W.callWith_K->oY,setNext->pI,getItem->pJ,callerA->pK,Value.bool->pL,W.plainOver->pM,W.methodObj->pN,W.kitx_list->pO,PyData.eqv->pP,F.args_int_rmul_2->pR,BindsTo->pU,IsPart->pX,Code.isFrame->pY,Around.under->pZ,F.slot_int_index->qJ,F.entry_int_rmul->qK,F.args_tuple_iterator_next_1->qM,Builtin.divisionGoesByPylong->qN,Walks.tuple->qO,W.takesIn->qR,W.OpenLaw->qT,Heap.get?->qZ,F.fills_int_mul->rA,F.entry_tuple_iterator_next->rB,Builtin.List.listExtendWith->rC,Calls.Name_function_global->rH,Builtin.Tuple.tupleTooMany->rJ,Builtin.Tuple.tupleItemsOf->rK,Builtin.Slice.sliceApplied->rM,W.typeIn->rN,argsOk->rY,Walks.list->rZ,F.slot_tuple_count->sE,Builtin.List.listTooLong->sH,Builtin.List.listSameRef->sI,W.mroIn->sJ,F.slot_list_count->sO,F.plainAttrs_list->sU,F.attr_ValueError->sV,NameKind->sW,W.cellsFrom_some->tD,Value.str->tL,Within->tM,PassesOwn->tO,Flow.next->tY,Value.isInt->uF,Value.float->uG,nums_intItems->uH,Heap.ExtBut->uL,Code.frames->uM,F.args_tuple_mul_2->uR,SetTable.probe.go->uU,SetTable.below.go->uV,call->uW,W.kitx_dict->uX,PyData.canLayAll0->uY,Obj.putSet->uZ,Heap.SameBut.refl->vL,F.slot_tuple_rmul->vM,F.plain_list_iadd->vN,F.entry_tuple_mul->vO,seqSlot_of->vR,W.handedIn->vU,preSum_eq->vY,W.kitMeta->vZ,PyData.depthAll->wA,Paired->wB,F.slot_zip_next->wD,F.slot_set_iter->wF,F.plain_set_new->wG,F.entry_zip_new->wH,Code.isCreation->wI,SetTable.Probe->wJ,W.notCls->wK,F.owner_object->wN,SetTable.laid->wQ,W.WalkO->wR,PyData.eqvAll->wU,Obj.mapFields->wW,Code.isCaller->wY,CmpOf.ints_lt->wZ,CmpOf.ints_gt->xF
open Sum renaming inr->qP,inl->qQ
open True renaming intro->mC
noncomputable section
open PySem.W (nsIn mg_of keepIn fnOf codeIn findIn mg_none_of)
abbrev Fg9:=PySem.W.Frag
abbrev LL9:=List (List Int)
section
open PySem PySem.Spec PyProof.Rows
namespace L2
abbrev Key:=Sum Int Str
def a1j:Key->Value->Bool
 | .inl k,v=>uF k v
 | .inr x,v=>Value.isStrOf x v
def keyH(w:World):Key->Int
 | .inl k=>oR k
 | .inr x=>hashStr w x
theorem m7:∀{k:Key} {v:Value},a1j k v=true->(∃i t,k=qQ i/\v=lZ i t)∨(∃x t,k=qP x/\v=tL x t)
 | .inl i,v,h=>by
  obtain⟨t,e⟩:=Value.isInt_shape (k:=i) (v:=v) h;exact .inl ⟨i,t,rfl,e⟩
 | .inr x,v,h=>by
  obtain⟨t,e⟩:=Value.isStrOf_shape (x:=x) (v:=v) h;exact .inr ⟨x,t,rfl,e⟩
theorem a1i(a b:Int):decide ((qQ a:Key)=qQ b)=(a==b):=by
 by_cases e:a=b
 ·subst e;simp
 ·have h:¬(qQ a:Key)=qQ b:=fun q=>e (Sum.inl.inj q)
  rw[decide_eq_false h];exact(beq_eq_false_iff_ne.mpr e).symm
theorem a1f(a b:Str):decide ((qP a:Key)=qP b)=decide (a=b):=by
 by_cases e:a=b
 ·subst e;simp
 ·have h:¬(qP a:Key)=qP b:=fun q=>e (Sum.inr.inj q)
  rw[decide_eq_false h,decide_eq_false e]
theorem a1h(a:Int)(b:Str):decide ((qQ a:Key)=qP b)=false:=decide_eq_false (fun q=>nomatch q)
theorem a1g(a:Str)(b:Int):decide ((qP a:Key)=qQ b)=false:=decide_eq_false (fun q=>nomatch q)
def aqd(prog:aZ)(w:World):PySem.KeyKind prog w Key where
 is:=a1j
 hash:=keyH w
 inj:=fun v a b ha hb=>by
  rcases m7 ha with⟨i,t,rfl,rfl⟩ | ⟨x,t,rfl,rfl⟩
  ·rcases m7 hb with⟨j,u,rfl,e⟩ | ⟨y,u,rfl,e⟩
   ·injection e with e1 _;rw[e1]
   ·exact nomatch e
  ·rcases m7 hb with⟨j,u,rfl,e⟩ | ⟨y,u,rfl,e⟩
   ·exact nomatch e
   ·injection e with e1 _;rw[e1]
 byValue:=fun k v h=>by
  rcases m7 h with⟨i,t,rfl,rfl⟩ | ⟨x,t,rfl,rfl⟩ <;> rfl
 pyHash:=fun hv h=>by
  rcases m7 hv with⟨i,t,rfl,rfl⟩ | ⟨x,t,rfl,rfl⟩
  ·exact wpAny_pyHash_int h
  ·exact wpAny_pyHash_str h
 eqBool:=fun hu hv h=>by
  rcases m7 hu with⟨i,t,rfl,rfl⟩ | ⟨x,t,rfl,rfl⟩
  ·rcases m7 hv with⟨j,u,rfl,rfl⟩ | ⟨y,u,rfl,rfl⟩
   ·rw[a1i] at h;exact wpAny_eqBool_int h
   ·rw[a1h] at h;exact SeqAt.EqAt.int_str i t y u _ _ _ _ h
  ·rcases m7 hv with⟨j,u,rfl,rfl⟩ | ⟨y,u,rfl,rfl⟩
   ·rw[a1g] at h;exact SeqAt.EqAt.str_int x t j u _ _ _ _ h
   ·rw[a1f] at h;exact wpAny_eqBool_str h
 «strs» := fun k x t v h=>by
  rcases m7 h with⟨i,u,rfl,e⟩ | ⟨y,u,rfl,e⟩
  ·exact nomatch e
  ·injection e with e1 _
   subst e1;cases v <;> rfl
def IsTp(h:Heap)(a:Addr)(items:Array Value):Prop:=∃o,h.get? a=some o/\o.cls=.type "tuple" /\ o.dict=none/\∃n,o.data=.seq items n
theorem IsTp.tup{h:Heap}{a:Addr}{items:Array Value}(x:IsTp h a items):IsTup h a items:=let ⟨o,e,c,_,n,d⟩:=x;⟨o,e,c,n,d⟩
theorem IsTp.new(h:Heap)(items:Array Value):IsTp (h.push { cls:=.type "tuple", data:=.seq items }) h.objs.size items:=⟨_,aK _ rfl,rfl,rfl,_,rfl⟩
inductive V where
 | non | bl (b:Bool) | int (i:Int) | str (x:Str) | byt (b:Array UInt8) | flt (b:UInt64) | ref (a:Addr) | ty (n:String)
 deriving DecidableEq
noncomputable def RelV:V->Value->Prop
 | .non,u=>u=gA
 | .bl b,u=>u=pL b
 | .int i,u=>∃t,u=lZ i t
 | .str x,u=>∃t,u=tL x t
 | .byt b,u=>∃t,u=Value.bytes b t
 | .flt b,u=>∃t,u=uG b t
 | .ref a,u=>u=dN a
 | .ty n,u=>u=iV n
abbrev Vals:List V->List Value->Prop:=wB RelV
theorem Vals.length{xs:List V}{us:List Value}(r:Vals xs us):xs.length=us.length:=Paired.length r
theorem Vals.get:∀{xs:List V} {us:List Value} {i:Nat} {x:V},Vals xs us->xs[i]? = some x->∃u,us[i]? = some u/\RelV x u
 | _,_,_,_,.nil,e=>by simp at e
 | _,_,0,_,.cons r _,e=>by simp at e;subst e;exact⟨_,rfl,r⟩
 | _,_,i+1,x,.cons _ t,e=>by
  obtain⟨u,h1,h2⟩:=Vals.get (i:=i) (x:=x) t (by simpa using e)
  exact⟨u,by simpa using h1,h2⟩
theorem Vals.set{x:V}{u:Value}(r:RelV x u):∀{xs:List V} {us:List Value} (i:Nat),Vals xs us->Vals (xs.set i x) (us.set i u)
 | _,_,_,.nil=>.nil
 | _,_,0,.cons _ t=>.cons r t
 | _,_,i+1,.cons q t=>.cons q (Vals.set r i t)
theorem Vals.append:∀{xs ys:List V} {us ws:List Value},Vals xs us->Vals ys ws->Vals (xs++ys) (us++ws)
 | _,_,_,_,.nil,s=>s
 | _,_,_,_,.cons r t,s=>.cons r (Vals.append t s)
theorem Vals.take:∀{xs:List V} {us:List Value} (n:Nat),Vals xs us->Vals (xs.take n) (us.take n)
 | _,_,0,_=>.nil
 | _,_,_+1,.nil=>.nil
 | _,_,n+1,.cons r t=>.cons r (Vals.take n t)
theorem Vals.drop:∀{xs:List V} {us:List Value} (n:Nat),Vals xs us->Vals (xs.drop n) (us.drop n)
 | _,_,0,r=>r
 | _,_,_+1,.nil=>.nil
 | _,_,n+1,.cons _ t=>Vals.drop n t
theorem Vals.none_of:∀{xs:List V} {us:List Value} {i:Nat},Vals xs us->xs[i]? = none->us[i]? = none:=fun{xs us i} r e=>by
 have h1:=r.length;have h2:xs.length<=i:=jE.mp e;exact jE.mpr (by omega)
def RelO:Option V->Option Value->Prop
 | some v,some u=>RelV v u
 | none,none=>True
 | _,_=>False
def KV{κ:Type}:List (κ×V)->List (κ×Value)->Prop:=wB fun(p:κ×V) (q:κ×Value)=>p.1=q.1/\RelV p.2 q.2
noncomputable def kV:Key->V
 | .inl i=>.int i
 | .inr x=>.str x
inductive HO where
 | lst (xs:List V)
 | tup (xs:List V)
 | dK (kvs:List (Key×V)) | dT (kvs:List (List Key×V))
 | set (S:Int->Bool) (n:Nat)
 | ins (C dx:Addr) (fs:List (Str×V))
 | own (x:Addr)
 | xd (fs:List (Str×V))
 | met (f x:Addr)
 | rng (lo hi:Int)
 | frz (o:Obj) (u:HO)
 | tbl (ps:Array Value)
 | ext (φ:Heap->Prop)
abbrev Hp:=Addr->Option HO
def upd(H:Hp)(a:Addr)(o:HO):Hp:=fun b=>if b=a then some o else H b
theorem je{H:Hp}{a:Addr}{o:HO}:upd H a o a=some o:=by unfold upd;rw[if_pos rfl]
theorem di{H:Hp}{a b:Addr}{o:HO}(h:b≠a):upd H a o b=H b:=by unfold upd;rw[if_neg h]
theorem jb{H:Hp}{a b:Addr}{o:HO}(h:H a=some o)(h':H b=none):a≠b:=by
 intro e;subst e;rw[h] at h';cases h'
section
variable(P:aZ)(w:World)
def ym(H:Hp)(h:Heap)(a:Addr):HO->Prop
 | .lst xs=>xs.length<=cD/\∃(its:List Value) (n:Nat),Vals xs its/\h.get? a=some { cls:=.type "list", data:=.seq its.toArray n }
 | .tup xs=>xs.length<=cD/\∃its:List Value,Vals xs its/\IsTp h a its.toArray
 | .dK kvs=>kvs.length<=cD/\(a==sysModules)=false/\∃vs,KV kvs vs/\h.DictOf (aqd P w) a vs
 | .dT kvs=>kvs.length<=cD/\(a==sysModules)=false/\∃xs:List (List Key×Addr×Value),
   wB (fun(p:List Key×V) (q:List Key×Addr×Value)=>p.1=q.1/\H q.2.1=some (.tup (p.1.map kV))/\RelV p.2 q.2.2) kvs xs /\
   ∃o es ep,h.get? a=some o/\o.ExactDict/\o.data=.dict es ep/\es.toList=xs.map (entryOfKey (tupleKind (aqd P w)))/\(xs.map (·.1)).Nodup
 | .set S n=>h.SetOf (oO P w) a S n
 | .ins C dx fs=>H dx=some (.own a)/\fs.length<=1000/\dx≠a/\h.get? a=some (gU C dx) /\
   ∃mA,h.Ns1 dx mA/\(∀f,RelO (fs.lookup f) (mA f))/\tM mA (fs.map (·.1))
 | .own _=>∃o,h.get? a=some o
 | .xd fs=>∃mA,h.Ns1 a mA/\∀f,RelO (fs.lookup f) (mA f)
 | .rng lo hi=>∃t u v,h.get? a=some { cls:=.type "range", data:=.fields #[.int lo t,.int hi u,.int 1 v] }
 | .frz o u=>h.get? a=some o/\ym H h a u
 | .tbl ps=>h.get? a=some { cls:=.none,data:=.fields ps }
 | .met f x=>h.get? a=some (pN (.ref f) (.ref x))
 | .ext φ=>φ h/\(∃o,h.get? a=some o)/\∀h1 h2:Heap,φ h1->(∀o,h1.get? a=some o->h2.get? a=some o)->φ h2
def HOk(H:Hp)(h:Heap):Prop:=∀a o,H a=some o->ym P w H h a o
end
section
variable{P:aZ}{w:World}{H H':Hp}{h h':Heap}{a:Addr}{o:HO}
theorem ym.lt(x:ym P w H h a o):a < h.objs.size:=by
 cases o with
 | lst xs=>obtain⟨_,_,_,_,e⟩:=x;exact aQ e
 | tup xs=>obtain⟨_,_,_,p⟩:=x;exact p.tup.lt
 | dK kvs=>obtain⟨_,_,_,_,o,_,_,e,_⟩:=x;exact aQ e
 | dT kvs=>obtain⟨_,_,_,_,o,_,_,e,_⟩:=x;exact aQ e
 | set S n=>obtain⟨o,_,_,_,e,_⟩:=x;exact aQ e
 | ins C dx fs=>obtain⟨_,_,_,e,_⟩:=x;exact aQ e
 | own y=>obtain⟨_,e⟩:=x;exact aQ e
 | xd fs=>obtain⟨_,⟨_,_,_,e,_⟩,_⟩:=x;exact aQ e
 | rng lo hi=>obtain⟨_,_,_,e⟩:=x;exact aQ e
 | frz ob u=>obtain⟨e,_⟩:=x;exact aQ e
 | tbl ps=>exact aQ (show h.get? a=some _ from x)
 | met f y=>exact aQ (show h.get? a=some _ from x)
 | ext φ=>obtain⟨_,⟨_,e⟩,_⟩:=x;exact aQ e
theorem Paired.mapP{α β:Type}{F G:α->β->Prop}:∀{l₁:List α} {l₂:List β},wB F l₁ l₂->(∀a b,F a b->G a b)->wB G l₁ l₂
 | _,_,.nil,_=>.nil
 | _,_,.cons r t,f=>.cons (f _ _ r) (Paired.mapP t f)
theorem ym.stay(x:ym P w H h a o)(k:∀b u,(b=a∨H b=some (.own a))->h.get? b=some u->h'.get? b=some u)
  (ho:∀b,H b=some (.own a)->H' b=some (.own a)) (ht:∀b xs,H b=some (.tup xs)->H' b=some (.tup xs)):ym P w H' h' a o:=by
 induction o with
 | lst xs=>obtain⟨z,its,n,r,e⟩:=x;exact⟨z,its,n,r,k _ _ (.inl rfl) e⟩
 | tup xs=>obtain⟨z,its,r,ob,e,c⟩:=x;exact⟨z,its,r,ob,k _ _ (.inl rfl) e,c⟩
 | dK kvs=>obtain⟨z,y,vs,r,ob,es,ep,e,c⟩:=x;exact⟨z,y,vs,r,ob,es,ep,k _ _ (.inl rfl) e,c⟩
 | dT kvs =>
  obtain⟨z,y,xs,r,ob,es,ep,e,c⟩:=x;exact⟨z,y,xs,Paired.mapP r fun p q z=>⟨z.1,ht _ _ z.2.1,z.2.2⟩,ob,es,ep,k _ _ (.inl rfl) e,c⟩
 | set S n=>obtain⟨ob,es,ep,t,e,c⟩:=x;exact⟨ob,es,ep,t,k _ _ (.inl rfl) e,c⟩
 | ins C dx fs =>
  obtain⟨d,z,ne,e,mA,⟨od,es,ep,e2,c⟩,r⟩:=x;exact⟨ho _ d,z,ne,k _ _ (.inl rfl) e,mA,⟨od,es,ep,k _ _ (.inr d) e2,c⟩,r⟩
 | own y=>obtain⟨ob,e⟩:=x;exact⟨ob,k _ _ (.inl rfl) e⟩
 | xd fs=>obtain⟨mA,⟨od,es,ep,e,c⟩,r⟩:=x;exact⟨mA,⟨od,es,ep,k _ _ (.inl rfl) e,c⟩,r⟩
 | rng lo hi=>obtain⟨t,u,v,e⟩:=x;exact⟨t,u,v,k _ _ (.inl rfl) e⟩
 | frz ob u ih=>obtain⟨e,q⟩:=x;exact⟨k _ _ (.inl rfl) e,ih q⟩
 | tbl ps =>
  have e:h.get? a=some { cls:=.none,data:=.fields ps }:=x;show h'.get? a=some { cls:=.none,data:=.fields ps };exact k a _ (.inl rfl) e
 | met f y =>
  have e:h.get? a=some (pN (.ref f) (.ref y)):=x;show h'.get? a=some (pN (.ref f) (.ref y));exact k a _ (.inl rfl) e
 | ext φ=>obtain⟨p,⟨o,e⟩,st⟩:=x;exact⟨st _ _ p fun o q=>k _ _ (.inl rfl) q,⟨o,k _ _ (.inl rfl) e⟩,st⟩
theorem HOk.lt(x:HOk P w H h)(e:H a=some o):a < h.objs.size:=(x a o e).lt
theorem HOk.fresh(x:HOk P w H h)(e:h.objs.size<=a):H a=none:=by
 cases q:H a with
 | none=>rfl
 | some u=>exact absurd (cA (x.lt q) e) (iW _)
theorem HOk.kept(x:HOk P w H h)(k:∀b u,h.get? b=some u->h'.get? b=some u):HOk P w H h':=fun a o e =>
 (x a o e).stay (fun b u _ q=>k b u q) (fun _ q=>q) fun _ _ q=>q
theorem HOk.laid(x:HOk P w H h)(k:∀b u,h.get? b=some u->h'.get? b=some u)(hp:h.objs.size<=a)(new:ym P w (upd H a o) h' a o):HOk P w (upd H a o) h':=fun b u e=>by
 have hn:=x.fresh hp
 by_cases hb:b=a
 ·subst hb;rw[je] at e;cases e;exact new
 ·rw[di hb] at e;exact(x b u e).stay (fun c v _ q=>k c v q) (fun c q=>by rw[di (jb q hn)];exact q) fun c xs q=>by rw[di (jb q hn)];exact q
end
def Rd(H:Hp)(a:Addr)(u:HO):Prop:=H a=some u∨∃o,H a=some (.frz o u)
theorem Rd.of{H:Hp}{a:Addr}{u:HO}(h:H a=some u):Rd H a u:=.inl h
theorem Rd.ok{P:aZ}{w:World}{H:Hp}{h:Heap}{a:Addr}{u:HO}(r:Rd H a u)(x:HOk P w H h):ym P w H h a u:=by
 rcases r with r | ⟨o,r⟩
 ·exact x a u r
 ·obtain⟨_,q⟩:=x a _ r;exact q
def Mut:Option HO->Prop
 | some (.lst _)=>True
 | some (.dK _)=>True
 | some (.dT _)=>True
 | some (.set _ _)=>True
 | some (.ins _ _ _)=>True
 | some (.ext _)=>True
 | _=>False
section
variable{P:aZ}{w:World}{H:Hp}{h h':Heap}{x e:Addr}{o':HO}
theorem HOk.write(ok:HOk P w H h)(mu:Mut (H x))(he:e=x∨H e=some (.own x))(k:∀b u,b≠e->h.get? b=some u->h'.get? b=some u)(heo:∃u,h'.get? e=some u)
  (new:ym P w (upd H x o') h' x o'):HOk P w (upd H x o') h':=fun b u q=>by
 have nown:∀c y,H c=some (.own y)->c≠x:=fun c y r z=>by subst z;rw[r] at mu;exact mu
 have ntup:∀c xs,H c=some (.tup xs)->c≠x:=fun c xs r z=>by subst z;rw[r] at mu;exact mu
 by_cases hb:b=x
 ·subst hb;rw[je] at q;cases q;exact new
 ·rw[di hb] at q
  by_cases hbe:b=e
  ·have q':H b=some (.own x):=by
    rcases he with z | z
    ·exact absurd (hbe.trans z) hb
    ·rw[hbe];exact z
   rw[q] at q';cases q';obtain⟨v,hv⟩:=heo;exact⟨v,by rw[hbe];exact hv⟩
  ·refine(ok b u q).stay (fun c v hc r=>k c v ?_ r) (fun c r=>by rw[di (nown c b r)];exact r) fun c xs r=>by rw[di (ntup c xs r)];exact r
   rcases hc with rfl | hc
   ·exact hbe
   ·rintro rfl
    rcases he with z | z
    ·exact nown c b hc z
    ·rw[hc] at z;cases z;exact hb rfl
end
structure Un (fs ex:List Addr) (H H':Hp) (h h':Heap):Prop where
 keep:∀b o,h.get? b=some o->H b=none->b∉fs->b∉ex->h'.get? b=some o
 slot:∀b o,h.get? b=some o->H b=none->b∈fs->b∉ex->∃sl,h'.get? b=some { o with slots:=sl }
 free:∀b o,h.get? b=some o->H b=none->b∉ex->H' b=none
 there:∀b o,h.get? b=some o->b∉ex->∃o',h'.get? b=some o'
 tups:∀b xs,H b=some (.tup xs)->H' b=some (.tup xs)
 frzs:∀b o u,H b=some (.frz o u)->H' b=some (.frz o u)
 tbls:∀b ps,H b=some (.tbl ps)->∃more,H' b=some (.tbl (ps++more))
section
variable{fs fs' ex ex':List Addr}{H H1 H2:Hp}{h h1 h2 h':Heap}{a x e:Addr}{o:HO}
theorem Un.any(u:Un fs ex H H1 h h1){b:Addr}{ob:Obj}(q:h.get? b=some ob)(n:H b=none)(hx:b∉ex):∃sl,h1.get? b=some { ob with slots:=sl }:=by
 by_cases hb:b∈fs
 ·exact u.slot b ob q n hb hx
 ·exact⟨ob.slots,u.keep b ob q n hb hx⟩
theorem Un.trans(a:Un fs ex H H1 h h1)(b:Un fs ex H1 H2 h1 h2):Un fs ex H H2 h h2 where
 keep:=fun c ob q n hc hx=>b.keep c ob (a.keep c ob q n hc hx) (a.free c ob q n hx) hc hx
 slot:=fun c ob q n hc hx=>by
  obtain⟨sl,e1⟩:=a.slot c ob q n hc hx;obtain⟨sl',e2⟩:=b.slot c _ e1 (a.free c ob q n hx) hc hx;exact⟨sl',e2⟩
 free:=fun c ob q n hx=>by
  obtain⟨o',e1⟩:=a.there c ob q hx;exact b.free c o' e1 (a.free c ob q n hx) hx
 there:=fun c ob q hx=>by
  obtain⟨o',e1⟩:=a.there c ob q hx;exact b.there c o' e1 hx
 tups:=fun c xs q=>b.tups c xs (a.tups c xs q)
 frzs:=fun c ob xs q=>b.frzs c ob xs (a.frzs c ob xs q)
 tbls:=fun c ps q=>by
  obtain⟨m1,e1⟩:=a.tbls c ps q;obtain⟨m2,e2⟩:=b.tbls c _ e1;exact⟨m1++m2,by rw[e2,uT]⟩
theorem Un.kept(k:∀b u,h.get? b=some u->h'.get? b=some u):Un fs ex H H h h' :=
 ⟨fun b ob q _ _ _=>k b ob q,fun b ob q _ _ _=>⟨ob.slots,k b ob q⟩,fun _ _ _ n _=>n,fun b ob q _=>⟨ob,k b ob q⟩,fun _ _ q=>q,fun _ _ _ q=>q,fun _ ps q=>⟨#[],by rw[q];simp⟩⟩
theorem Un.refl:Un fs ex H H h h:=Un.kept fun _ _ q=>q
theorem Un.laid(k:∀b u,h.get? b=some u->h'.get? b=some u)(hp:h.objs.size<=a)(hn:H a=none):Un fs ex H (upd H a o) h h' where
 keep:=fun b u q _ _ _=>k b u q
 slot:=fun b u q _ _ _=>⟨u.slots,k b u q⟩
 free:=fun b u q n _=>by rw[di (bD (cA (aQ q) hp))];exact n
 there:=fun b u q _=>⟨u,k b u q⟩
 tups:=fun b xs q=>by rw[di (jb q hn)];exact q
 frzs:=fun b u xs q=>by rw[di (jb q hn)];exact q
 tbls:=fun b ps q=>⟨#[],by rw[di (jb q hn),q];simp⟩
theorem Un.write(mu:Mut (H x))(he:e=x∨H e=some (.own x))(k:∀b u,b≠e->h.get? b=some u->h'.get? b=some u)(heo:∃u,h'.get? e=some u):Un fs ex H (upd H x o) h h':=by
 have hx:∀b,H b=none->b≠x:=fun b n z=>by subst z;rw[n] at mu;exact mu
 have hb:∀b,H b=none->b≠e:=fun b n z=>by
  subst z;rcases he with r | r
  ·exact hx b n r
  ·rw[n] at r;cases r
 have hm:∀b u,H b=some u->¬Mut (some u)->b≠x:=fun b u q nm z=>by subst z;rw[q] at mu;exact nm mu
 refine⟨fun b u q n _ _=>k b u (hb b n) q,fun b u q n _ _=>⟨u.slots,k b u (hb b n) q⟩,fun b u q n _=>by rw[di (hx b n)];exact n,fun b u q _ =>?_,
  fun b xs q=>by rw[di (hm b _ q fun z=>z)];exact q,fun b u xs q=>by rw[di (hm b _ q fun z=>z)];exact q,fun b ps q=>⟨#[],by rw[di (hm b _ q fun z=>z),q];simp⟩⟩
 by_cases hbe:b=e
 ·subst hbe;exact heo
 ·exact⟨u,k b u hbe q⟩
theorem Un.mono(u:Un fs ex H H1 h h1)(hs:∀b∈fs,b∈fs')(hx:∀b∈ex,b∈ex'):Un fs' ex' H H1 h h1 :=
 ⟨fun b ob q n hb he=>u.keep b ob q n (fun z=>hb (hs b z)) fun z=>he (hx b z),fun _ _ q n _ he=>u.any q n fun z=>he (hx _ z),fun b ob q n he=>u.free b ob q n fun z=>he (hx b z),fun b ob q he=>u.there b ob q fun z=>he (hx b z),u.tups,u.frzs,u.tbls⟩
end
def trk(h:Heap)(H:Hp):List Addr:=(bG h.objs.size).filter fun a=>(H a).isSome
def hidT(h:Heap)(H:Hp):Heap:=PySem.W.hideAll h (trk h H)
theorem aqq(h:Heap)(H:Hp):(hidT h H).objs.size=h.objs.size:=PySem.W.hideAll_size _ _
theorem auh{h:Heap}{H:Hp}{b:Addr}{o:Obj}(e:h.get? b=some o)(n:H b=none):(hidT h H).get? b=some o :=
 PySem.W.hideAll_get _ e fun hm=>by
  have q:(H b).isSome=true:=(cM.mp hm).2;rw[n] at q;simp at q
theorem axl{h:Heap}{H:Hp}{b:Addr}{o:Obj}(e:(hidT h H).get? b=some o):h.get? b=some o/\H b=none:=by
 have e':h.get? b=some o:=PySem.W.of_hideAll (trk h H) e;refine⟨e',?_⟩;cases q:H b with
 | none=>rfl
 | some x =>
  have hm:b∈trk h H:=cM.mpr ⟨List.mem_range.mpr (aQ e'),by simp[q]⟩
  have z:(hidT h H).get? b=none:=PySem.W.hideAll_none (trk h H) hm;rw[z] at e;cases e
def aza(g h:Heap)(L:Addr):List (Addr×Obj):=(bG h.objs.size).filterMap fun a=>if a=L∨(g.get? a).isSome=true then none else (h.get? a).map fun o=>(a,o)
def rest(g h:Heap)(L d:Addr):List (Addr×Obj):=(aza g h L).filter fun p=>decide (p.1≠d)
structure Mod (K:Fg9) (mg:Str->Option Value) (base:Heap):Prop where
 kin:K.In base
 glob:base.Ns aP mg
 blt:∃mb,base.Ns builtinsNs mb/\∀x:Str,x ≠ "__name__" -> mb x=bV x
 nolimit:base.NoLimit
structure Cx where
 prog:aZ
 w:World
 K:Fg9
 mg:Str->Option Value
 base:Heap
 A:cI
 N:List Str
 s₀:aJ
 H₀:Hp
 env:Env
 outer:List Env
 stack:List Env
 ex:List Addr
 fn:Str->Bool
 calm:Bool
 pn:List (Addr×Obj)
 xe:Value->aJ->Prop
noncomputable def frs(l:List Env):List Addr:=l.filterMap (·.frame)
abbrev Cx.fs(X:Cx):List Addr:=frs X.outer
def Vis(sc:Scope)(x:Str):Prop:=sc.names.lookup x=some .local∨sc.names.lookup x=some .cell∨sc.names.lookup x=some .free
def Loc(sc:Scope)(x:Str):Prop:=sc.names.lookup x=some .local∨sc.names.lookup x=some .cell
def Look(env:Env)(h:Heap)(m:Str->Option Value)(x:Str)(u:Value):Prop :=
 (env.kindOf x=some .local/\m x=some u)∨((env.kindOf x=some .cell∨env.kindOf x=some .free)/\∃c,env.cells.lookup x=some c/\h.IsCell c (some u))
structure Cx.Ok (X:Cx):Prop where
 mod:Mod X.K X.mg X.base
 kind:X.env.scope.kind=.function
 glob:X.env.globals=aP
 blt:X.env.builtins=builtinsNs
 above:X.s₀.heap.objs.size<=X.env.locals
 inj:∀x y c,X.env.cells.lookup x=some c->X.env.cells.lookup y=some c->x=y
 has:∀x,(X.env.kindOf x=some .cell∨X.env.kindOf x=some .free)->∃c,X.env.cells.lookup x=some c
 cab:∀x c,X.fn x=true->X.env.cells.lookup x=some c->X.s₀.heap.objs.size<=c
 hd:X.calm=true->X.A.handled=none
 frames:X.A.frames=some X.stack
 stk:X.stack=X.outer∨(X.stack=X.env::X.outer/\X.env.frame=some X.env.locals)
 exf:∀b∈X.ex,b≠X.env.locals/\∀x c,X.env.cells.lookup x=some c->c≠b
 bs:∀b o,X.base.get? b=some o->X.s₀.heap.get? b=some o/\X.H₀ b=none
 bsz:X.base.objs.size<=X.s₀.heap.objs.size
 noex:∀b o,X.base.get? b=some o->b∉X.ex
 exfs:∀b∈X.ex,b∉X.fs
 funs:X.s₀.heap.FunFrames X.base X.outer
 frf:∀b∈X.fs,X.H₀ b=none
structure Inv (X:Cx) (zv:List (Addr×Obj)) (σ:List (Option V)) (H:Hp) (s:aJ):Prop where
 ok:X.Ok
 os:s.os=X.s₀.os
 bare:oX s.gens
 base:Un X.fs X.ex X.H₀ H X.s₀.heap s.heap
 loc:∃m,s.heap.Ns X.env.locals m/\∀(i:Nat) (x:Str) (v:V),X.N[i]? = some x->σ[i]? = some (some v)->Vis X.env.scope x->∃u,RelV v u/\Look X.env s.heap m x u
 cell:∀x c,X.env.cells.lookup x=some c->∃v,s.heap.IsCell c v
 free:H X.env.locals=none
 freeC:∀x c,X.env.cells.lookup x=some c->H c=none
 pin:∀p∈X.pn++zv,s.heap.get? p.1=some p.2/\H p.1=none/\p.1≠X.env.locals/\p.1∉X.fs/\∀v,p.2.data≠.cell v
 hok:HOk X.prog X.w H s.heap
 len:σ.length=X.N.length
section
variable{X:Cx}{zv:List (Addr×Obj)}{σ:List (Option V)}{H H':Hp}{s:aJ}{h':Heap}
theorem Cx.Ok.nofr(ok:X.Ok){b:Addr}{o:Obj}(e:X.base.get? b=some o):b∉X.fs:=fun hb=>by
 have:=(ok.funs.mem hb).1;rw[e] at this;cases this
theorem Inv.bs(I:Inv X zv σ H s):∀b o,X.base.get? b=some o->s.heap.get? b=some o/\H b=none:=fun b o e =>
 ⟨I.base.keep b o (I.ok.bs b o e).1 (I.ok.bs b o e).2 (I.ok.nofr e) (I.ok.noex b o e),I.base.free b o (I.ok.bs b o e).1 (I.ok.bs b o e).2 (I.ok.noex b o e)⟩
theorem Inv.bk(I:Inv X zv σ H s):∀b o,X.base.get? b=some o->s.heap.get? b=some o:=fun b o e=>(I.bs b o e).1
theorem Inv.mod(I:Inv X zv σ H s):Mod X.K X.mg X.base:=I.ok.mod
theorem Inv.kIn(I:Inv X zv σ H s):X.K.In s.heap:=I.ok.mod.kin.keeps I.bk
theorem Inv.nolimit(I:Inv X zv σ H s):s.heap.NoLimit:=I.ok.mod.nolimit.keeps I.bk
theorem Inv.fr(I:Inv X zv σ H s):∃m,Fr X.base X.env.locals s.heap m :=
 let ⟨m,hn,_⟩:=I.loc
 ⟨m,hn,I.bk,cF I.ok.bsz I.ok.above⟩
theorem Inv.lt(I:Inv X zv σ H s):X.env.locals < s.heap.objs.size:=let ⟨_,hn,_⟩:=I.loc;hn.lt
theorem Inv.sz(I:Inv X zv σ H s):X.s₀.heap.objs.size<=s.heap.objs.size:=cF I.ok.above (lJ I.lt)
theorem Inv.nofs(I:Inv X zv σ H s){a:Addr}(h:s.heap.objs.size<=a):a∉X.fs:=fun hb=>by
 obtain⟨_,o,ho,_⟩:=I.ok.funs.mem hb;exact absurd (cA (aQ ho) (cF I.sz h)) (iW _)
theorem Inv.cne(I:Inv X zv σ H s):∀x c,X.env.cells.lookup x=some c->c≠X.env.locals:=fun x c e z=>by
 obtain⟨v,o,ho,hd⟩:=I.cell x c e;obtain⟨m,⟨o',es,ep,ho',hd',_⟩,_⟩:=I.loc;rw[z,ho'] at ho;cases ho;rw[hd'] at hd;cases hd
theorem Inv.funs(I:Inv X zv σ H s):s.heap.FunFrames X.base X.outer:=by
 have all:∀(l:List Env),(∀b∈frs l,b∈X.fs)->X.s₀.heap.FunFrames X.base l->s.heap.FunFrames X.base l:=by
  intro l
  induction l with
  | nil=>intro _ _;trivial
  | cons env r ih =>
   intro hs hl;obtain⟨hk,⟨L,o,hf,hn,ho,hd⟩,hr⟩:=hl;have hL:L∈X.fs:=hs L (by unfold frs;rw[gJ,hf];exact aR)
   obtain⟨sl,e⟩:=I.base.slot L o ho (I.ok.frf L hL) hL fun z=>I.ok.exfs L z hL
   exact⟨hk,⟨L,_,hf,hn,e,hd⟩,ih (fun b hb=>hs b (by unfold frs;rw[gJ,hf];exact aL _ hb)) hr⟩
 exact all X.outer (fun _ hb=>hb) I.ok.funs
theorem Inv.stack(I:Inv X zv σ H s):s.heap.FunFrames X.base X.stack:=by
 rcases I.ok.stk with e | ⟨e,hf⟩
 ·rw[e];exact I.funs
 ·rw[e];obtain⟨m,hn,_⟩:=I.loc;refine .cons (by rw[I.ok.kind];decide) hf hn ?_ I.funs
  exact Heap.get?_none_of_le (cF I.ok.bsz I.ok.above)
theorem Inv.stkSub(I:Inv X zv σ H s):∀b∈frs X.stack,b∈X.env.locals::X.fs:=fun b hb=>by
 rcases I.ok.stk with e | ⟨e,hf⟩
 ·rw[e] at hb;exact aL _ hb
 ·rw[e] at hb;unfold frs at hb;rw[gJ,hf] at hb;exact hb
theorem Inv.stkFree(I:Inv X zv σ H s):∀b∈frs X.stack,H b=none:=fun b hb=>by
 rcases aY.mp (I.stkSub b hb) with e | hb
 ·rw[e];exact I.free
 ·obtain⟨_,o,ho,_⟩:=I.ok.funs.mem hb;exact I.base.free b o ho (I.ok.frf b hb) fun z=>I.ok.exfs b z hb
theorem Inv.step{g':Array GenState}{t':Nat}{d':Drawn}{ch:List Addr}(I:Inv X zv σ H s)
  (hch:∀b∈ch,(b∈X.ex∨X.s₀.heap.objs.size<=b)/\b≠X.env.locals/\(∀x c,X.env.cells.lookup x=some c->c≠b)/\∀p∈X.pn++zv,p.1≠b)
  (keep:∀b o,b≠X.env.locals->b∉X.fs->b∉ch->s.heap.get? b=some o->H b=none->h'.get? b=some o)
  (slot:∀b o,b≠X.env.locals->b∈X.fs->b∉ch->s.heap.get? b=some o->H b=none->∃sl,h'.get? b=some { o with slots:=sl }) (free:∀b o,b∉ch->s.heap.get? b=some o->H b=none->H' b=none)
  (there:∀b o,b∉ch->s.heap.get? b=some o->∃o',h'.get? b=some o')
  (tups:∀b xs,H b=some (.tup xs)->H' b=some (.tup xs)) (frzs:∀b o u,H b=some (.frz o u)->H' b=some (.frz o u)) (tbls:∀b ps,H b=some (.tbl ps)->∃more,H' b=some (.tbl (ps++more)))
  (ns:∀m,s.heap.Ns X.env.locals m->h'.Ns X.env.locals m) (hok:HOk X.prog X.w H' h') (hg:oX g') :
  Inv X zv σ H' { s with heap:=h',gens:=g',drawn:=d',toks:=t' }:=by
 have neL:∀b o,X.s₀.heap.get? b=some o->b≠X.env.locals:=fun b o e=>bD (cA (aQ e) I.ok.above)
 have neC:∀b o,X.s₀.heap.get? b=some o->b∉X.ex->b∉ch:=fun b o e hx hb=>by
  rcases(hch b hb).1 with z | z
  ·exact hx z
  ·exact absurd (cA (aQ e) z) (iW _)
 have cellK:∀x c,X.env.cells.lookup x=some c->∀v,s.heap.IsCell c v->h'.IsCell c v:=fun x c e v hq0=>by
  obtain⟨o,ho,hd⟩:=hq0;have nch:c∉ch:=fun z=>(hch c z).2.2.1 x c e rfl
  by_cases hc:c∈X.fs
  ·obtain⟨sl,q⟩:=slot c o (I.cne x c e) hc nch ho (I.freeC x c e);exact⟨_,q,hd⟩
  ·exact⟨o,keep c o (I.cne x c e) hc nch ho (I.freeC x c e),hd⟩
 refine⟨I.ok,I.os,hg,⟨fun b o e n hb hx =>?_,fun b o e n hb hx =>?_,fun b o e n hx =>?_,fun b o e hx =>?_,fun b xs e=>tups b xs (I.base.tups b xs e),fun b o xs e=>frzs b o xs (I.base.frzs b o xs e),fun b ps e =>?_⟩,?_,fun x c e =>?_,?_,fun x c e =>?_,fun p hp =>?_,hok,I.len⟩
 ·exact keep b o (neL b o e) hb (neC b o e hx) (I.base.keep b o e n hb hx) (I.base.free b o e n hx)
 ·obtain⟨sl,e1⟩:=I.base.slot b o e n hb hx;obtain⟨sl',e2⟩:=slot b _ (neL b o e) hb (neC b o e hx) e1 (I.base.free b o e n hx);exact⟨sl',e2⟩
 ·obtain⟨o',e1⟩:=I.base.there b o e hx;exact free b o' (neC b o e hx) e1 (I.base.free b o e n hx)
 ·obtain⟨o',e1⟩:=I.base.there b o e hx;exact there b o' (neC b o e hx) e1
 ·obtain⟨m1,e1⟩:=I.base.tbls b ps e;obtain⟨m2,e2⟩:=tbls b _ e1;exact⟨m1++m2,by rw[e2,uT]⟩
 ·obtain⟨m,hn,hl⟩:=I.loc;refine⟨m,ns m hn,fun i x v e1 e2 e3 =>?_⟩
  obtain⟨u,r,l⟩:=hl i x v e1 e2 e3;refine⟨u,r,?_⟩;rcases l with l | ⟨k,c,e,z⟩
  ·exact .inl l
  ·exact .inr ⟨k,c,e,cellK x c e _ z⟩
 ·obtain⟨v,z⟩:=I.cell x c e;exact⟨v,cellK x c e v z⟩
 ·obtain⟨m,⟨o,_,_,ho,_⟩,_⟩:=I.loc;exact free _ o (fun z=>(hch _ z).2.1 rfl) ho I.free
 ·obtain⟨v,o,ho,hd⟩:=I.cell x c e;exact free c o (fun z=>(hch c z).2.2.1 x c e rfl) ho (I.freeC x c e)
 ·obtain⟨e,n,ne,nf,d⟩:=I.pin p hp;have nch:p.1∉ch:=fun z=>(hch p.1 z).2.2.2 p hp rfl
  exact⟨keep p.1 p.2 ne nf nch e n,free p.1 p.2 nch e n,ne,nf,d⟩
theorem Inv.un{t':Nat}(I:Inv X zv σ H s)(u:Un X.fs [] H H' s.heap h')(hok:HOk X.prog X.w H' h'):Inv X zv σ H' { s with heap:=h',toks:=t' }:=by
 obtain⟨m,⟨o,es,ep,ho,r⟩,_⟩:=id I.loc;obtain⟨sl,hL⟩:=u.any ho I.free (by simp)
 exact I.step (g':=s.gens) (d':=s.drawn) (ch:=[]) (fun _ z=>nomatch z) (fun b o _ hb _ e n=>u.keep b o e n hb (by simp)) (fun b o _ hb _ e n=>u.slot b o e n hb (by simp)) (fun b o _ e n=>u.free b o e n (by simp)) (fun b o _ e=>u.there b o e (by simp)) u.tups u.frzs u.tbls (fun m' hm=>by
  obtain⟨o',es',ep',ho',r'⟩:=hm;rw[ho] at ho';cases ho';exact⟨_,es',ep',hL,r'⟩) hok I.bare
theorem Inv.call{g':Array GenState}{t':Nat}{d':Drawn}{ch:List Addr}(I:Inv X zv σ H s)(u:Un (frs X.stack) ch H H' s.heap h')(hok:HOk X.prog X.w H' h')(hg:oX g')
  (hch:∀b∈ch,(b∈X.ex∨X.s₀.heap.objs.size<=b)/\b≠X.env.locals/\(∀x c,X.env.cells.lookup x=some c->c≠b)/\∀p∈X.pn++zv,p.1≠b) :
  Inv X zv σ H' { s with heap:=h',gens:=g',drawn:=d',toks:=t' }:=by
 obtain⟨m,⟨o,es,ep,ho,r⟩,_⟩:=id I.loc;obtain⟨sl,hL⟩:=u.any ho I.free fun z=>(hch _ z).2.1 rfl
 exact I.step (ch:=ch) hch (fun b o hL hb hc e n=>u.keep b o e n (fun z=>(aY.mp (I.stkSub b z)).elim hL hb) hc) (fun b o _ _ hc e n=>u.any e n hc) (fun b o hc e n=>u.free b o e n hc) (fun b o hc e=>u.there b o e hc) u.tups u.frzs u.tbls (fun m' hm=>by
  obtain⟨o',es',ep',ho',r'⟩:=hm;rw[ho] at ho';cases ho';exact⟨_,es',ep',hL,r'⟩) hok hg
theorem Inv.turned{t':Nat}{it:Addr}(I:Inv X zv σ H s)(k:∀b o,b≠it->s.heap.get? b=some o->h'.get? b=some o)(hn:H it=none)(hL:it≠X.env.locals)
  (h1:it∈X.ex∨X.s₀.heap.objs.size<=it) (h2:∀x c,X.env.cells.lookup x=some c->c≠it) (h3:∀p∈X.pn++zv,p.1≠it):Inv X zv σ H { s with heap:=h',toks:=t' }:=by
 have nit:∀b u,H b=some u->b≠it:=fun b u e z=>by rw[z,hn] at e;cases e
 refine I.step (g':=s.gens) (d':=s.drawn) (ch:=[it]) (fun b hb =>?_) (fun b o _ _ hc e _=>k b o (fun z=>hc (by simp[z])) e) (fun b o _ _ hc e _=>⟨o.slots,k b o (fun z=>hc (by simp[z])) e⟩) (fun _ _ _ _ n=>n)
  (fun b o hc e=>⟨o,k b o (fun z=>hc (by simp[z])) e⟩) (fun _ _ e=>e) (fun _ _ _ e=>e) (fun b ps e=>⟨#[],by rw[e];simp⟩) (fun m hm =>?_) (fun b u e =>?_) I.bare
 ·have e:b=it:=by simpa using hb
  subst e;exact⟨h1,hL,h2,h3⟩
 ·obtain⟨o,es,ep,ho,r⟩:=hm;exact⟨o,es,ep,k _ o (iI hL) ho,r⟩
 ·refine(I.hok b u e).stay (fun c v hc q=>k c v ?_ q) (fun _ q=>q) fun _ _ q=>q
  rcases hc with z | z
  ·rw[z];exact nit b u e
  ·exact nit c _ z
theorem Inv.tok(I:Inv X zv σ H s)(t:Nat):Inv X zv σ H { s with toks:=t }:=I.un (h':=s.heap) (t':=t) Un.refl I.hok
theorem Inv.kept{t':Nat}(I:Inv X zv σ H s)(k:∀b u,s.heap.get? b=some u->h'.get? b=some u):Inv X zv σ H { s with heap:=h',toks:=t' }:=I.un (Un.kept k) (I.hok.kept k)
theorem Inv.laid{a:Addr}{o:HO}{t':Nat}(I:Inv X zv σ H s)(k:∀b u,s.heap.get? b=some u->h'.get? b=some u)(hp:s.heap.objs.size<=a)(new:ym X.prog X.w (upd H a o) h' a o) :
  Inv X zv σ (upd H a o) { s with heap:=h',toks:=t' }:=I.un (Un.laid k hp (I.hok.fresh hp)) (I.hok.laid k hp new)
theorem Inv.write{x e:Addr}{o:HO}{t':Nat}(I:Inv X zv σ H s)(mu:Mut (H x))(he:e=x∨H e=some (.own x))(k:∀b u,b≠e->s.heap.get? b=some u->h'.get? b=some u)(heo:∃u,h'.get? e=some u)
  (new:ym X.prog X.w (upd H x o) h' x o):Inv X zv σ (upd H x o) { s with heap:=h',toks:=t' }:=I.un (Un.write mu he k heo) (I.hok.write mu he k heo new)
theorem Inv.pins_of{pins':List (Addr×Obj)}(I:Inv X zv σ H s)(h:∀p∈pins',s.heap.get? p.1=some p.2/\H p.1=none/\p.1≠X.env.locals/\p.1∉X.fs/\∀v,p.2.data≠.cell v):Inv X pins' σ H s :=
 ⟨I.ok,I.os,I.bare,I.base,I.loc,I.cell,I.free,I.freeC,fun p hp=>(cO.mp hp).elim (fun z=>I.pin p (gR _ z)) (h p),I.hok,I.len⟩
theorem amk{N:List Str}(hN:N.Nodup){i j:Nat}{x:Str}(a:N[i]? = some x)(b:N[j]? = some x):i=j:=by
 obtain⟨h1,e1⟩:=aN.mp a;obtain⟨h2,e2⟩:=aN.mp b;exact(List.getElem_inj hN).mp (e1.trans e2.symm)
theorem ai3{M:Model}{A:cI}{E:Value->aJ->Prop}{i:Nat}{x:Str}{v:V}{u:Value}{Q:Unit->aJ->Prop}(I:Inv X zv σ H s)(hN:X.N.Nodup)(hi:X.N[i]? = some x)(hx:Loc X.env.scope x)(r:RelV v u)
  (h:∀s',Inv X zv (σ.set i (some v)) H s'->(∃a,cH a s.heap s'.heap/\(a=X.env.locals∨X.env.cells.lookup x=some a))->Q () s') (hf:X.fn x=true∨X.env.scope.names.lookup x=some .local:=by first | exact .inl rfl | exact .inr rfl | assumption):wpAny M A (storeName X.env x u) Q E s:=by
 obtain⟨m,hn,hl⟩:=id I.loc;have hcls:(X.env.scope.kind==.class||(X.env.scope.kind==.module&&X.env.locals != X.env.globals))=false:=by rw[I.ok.kind];rfl
 have hiσ:i < σ.length:=by rw[I.len];exact(aN.mp hi).1
 have cne:=I.cne;have tracked:∀{a:Addr} {h':Heap},(∃o,s.heap.get? a=some o/\H a=none)->cH a s.heap h'->HOk X.prog X.w H h':=fun{a h'} ha hs b ob e=>by
  obtain⟨_,_,hfree⟩:=ha;refine(I.hok b ob e).stay (fun c w' hc q=>(hs.2 c ?_).trans q) (fun _ q=>q) fun _ _ q=>q
  rintro rfl
  rcases hc with rfl | hc
  ·rw[hfree] at e;cases e
  ·rw[hfree] at hc;cases hc
 rcases hx with hk | hk
 ·refine wpAny_storeName_local hk hn (fun h' hn' hs =>?_) hcls
  obtain⟨oL,_,_,hoL,_⟩:=id hn;refine h _ ⟨I.ok,I.os,I.bare,⟨fun b o e n hb hx =>?_,fun b o e n hb hx =>?_,I.base.free,fun b o e hx =>?_,I.base.tups,I.base.frzs,I.base.tbls⟩,⟨_,hn',fun j y v' e1 e2 e3 =>?_⟩,fun y c e =>?_,I.free,I.freeC,fun p hp =>?_,tracked ⟨oL,hoL,I.free⟩ hs,by simpa using I.len⟩ ⟨_,hs,.inl rfl⟩
  ·exact(hs.2 b (bD (cA (aQ e) I.ok.above))).trans (I.base.keep b o e n hb hx)
  ·obtain⟨sl,e1⟩:=I.base.slot b o e n hb hx;exact⟨sl,(hs.2 b (bD (cA (aQ e) I.ok.above))).trans e1⟩
  ·obtain⟨o',e1⟩:=I.base.there b o e hx;exact⟨o',(hs.2 b (bD (cA (aQ e) I.ok.above))).trans e1⟩
  ·by_cases hj:j=i
   ·subst hj;rw[hi] at e1;cases e1;rw[tG hiσ] at e2;cases e2;exact⟨u,r,.inl ⟨hk,by simp⟩⟩
   ·rw[uB (iI hj)] at e2;obtain⟨u',r',q⟩:=hl j y v' e1 e2 e3;refine⟨u',r',?_⟩;rcases q with⟨k,e⟩ | ⟨k,c,e,z⟩
    ·refine .inl ⟨k,?_⟩;have:y≠x:=fun e=>hj (amk hN e1 (e▸hi))
     simp[this,e]
    ·exact .inr ⟨k,c,e,z.sameBut hs (cne y c e)⟩
  ·obtain⟨w',z⟩:=I.cell y c e;exact⟨w',z.sameBut hs (cne y c e)⟩
  ·obtain⟨e,n,ne,nf,d⟩:=I.pin p hp;exact⟨(hs.2 p.1 ne).trans e,n,ne,nf,d⟩
 ·have hfn:X.fn x=true:=by
   rcases hf with z | z
   ·exact z
   ·rw[z] at hk;cases hk
  obtain⟨c,hc⟩:=I.ok.has x (.inl hk);obtain⟨w',z⟩:=I.cell x c hc;refine wpAny_storeName_cell I.ok.kind hk hc z (fun h' hc' hs =>?_)
  obtain⟨oc,hoc,hocd⟩:=id z;refine h { s with heap:=h' } ⟨I.ok,I.os,I.bare,⟨fun b o e n hb hx =>?_,fun b o e n hb hx =>?_,I.base.free,fun b o e hx =>?_,I.base.tups,I.base.frzs,I.base.tbls⟩,⟨m,hn.sameBut hs (iI (cne x c hc)),fun j y v' e1 e2 e3 =>?_⟩,fun y c' e =>?_,I.free,I.freeC,fun p hp =>?_,tracked ⟨oc,hoc,I.freeC x c hc⟩ hs,by simpa using I.len⟩ ⟨c,hs,.inr hc⟩
  ·exact(hs.2 b (bD (cA (aQ e) (I.ok.cab x c hfn hc)))).trans (I.base.keep b o e n hb hx)
  ·obtain⟨sl,e1⟩:=I.base.slot b o e n hb hx;exact⟨sl,(hs.2 b (bD (cA (aQ e) (I.ok.cab x c hfn hc)))).trans e1⟩
  ·obtain⟨o',e1⟩:=I.base.there b o e hx;exact⟨o',(hs.2 b (bD (cA (aQ e) (I.ok.cab x c hfn hc)))).trans e1⟩
  ·by_cases hj:j=i
   ·subst hj;rw[hi] at e1;cases e1;rw[tG hiσ] at e2;cases e2;exact⟨u,r,.inr ⟨.inl hk,c,hc,hc'⟩⟩
   ·rw[uB (iI hj)] at e2;obtain⟨u',r',q⟩:=hl j y v' e1 e2 e3;refine⟨u',r',?_⟩;rcases q with q | ⟨k,c',e,z'⟩
    ·exact .inl q
    ·refine .inr ⟨k,c',e,z'.sameBut hs ?_⟩
     rintro rfl
     exact hj (amk hN e1 (I.ok.inj _ _ _ e hc▸hi))
  ·by_cases hcc:c'=c
   ·subst hcc;exact⟨_,hc'⟩
   ·obtain⟨w2,z2⟩:=I.cell y c' e;exact⟨w2,z2.sameBut hs hcc⟩
  ·obtain⟨e,n,ne,nf,d⟩:=I.pin p hp;refine⟨(hs.2 p.1 ?_).trans e,n,ne,nf,d⟩;intro q;rw[q,hoc] at e;have q':oc=p.2:=bW e;exact d w' (by rw[<-q'];exact hocd)
theorem afa{M:Model}{A:cI}{E:Value->aJ->Prop}{i:Nat}{x:Str}{v:V}{u:Value}{Q:Unit->aJ->Prop}(I:Inv X zv σ H s)(hN:X.N.Nodup)(hi:X.N[i]? = some x)(hx:Loc X.env.scope x)(r:RelV v u)
  (h:∀s',Inv X zv (σ.set i (some v)) H s'->Q () s') (hf:X.fn x=true∨X.env.scope.names.lookup x=some .local:=by first | exact .inl rfl | exact .inr rfl | assumption):wpAny M A (storeName X.env x u) Q E s :=
 ai3 I hN hi hx r (fun s' I' _=>h s' I') hf
theorem Inv.call'{s':aJ}{ch:List Addr}(I:Inv X zv σ H s)(ho:s'.os=s.os)(u:Un (frs X.stack) ch H H' s.heap s'.heap)(hok:HOk X.prog X.w H' s'.heap)(hg:oX s'.gens)
  (hch:∀b∈ch,(b∈X.ex∨X.s₀.heap.objs.size<=b)/\b≠X.env.locals/\(∀x c,X.env.cells.lookup x=some c->c≠b)/\∀p∈X.pn++zv,p.1≠b):Inv X zv σ H' s':=by
 obtain⟨h',g',d',t',o'⟩:=s';have e:o'=s.os:=ho;subst e;exact I.call (g':=g') (t':=t') (d':=d') u hok hg hch
end
abbrev XK:=Value->Option Addr->Hp->Prop
abbrev St:=List (Option V)
abbrev VK:=V->Hp->Prop
abbrev TE:=St->Hp->VK->Prop
abbrev TT:=St->Hp->(Bool->Hp->Prop)->Prop
abbrev TA:=St->Hp->(List V->Hp->Prop)->Prop
structure Ends where
 nx:St->Hp->Prop
 rt:VK
 bk:St->Hp->Prop:=fun _ _=>False
 ct:St->Hp->Prop:=fun _ _=>False
abbrev TS:=Ends->St->Hp->Prop
def EP(X:Cx)(zv:List (Addr×Obj))(σ:St)(Q:VK)(u:Value)(s':aJ):Prop:=∃v H',Inv X zv σ H' s'/\RelV v u/\Q v H'
def TP(X:Cx)(zv:List (Addr×Obj))(σ:St)(Q:Bool->Hp->Prop)(b:Bool)(s':aJ):Prop:=∃H',Inv X zv σ H' s'/\Q b H'
def AP(X:Cx)(zv:List (Addr×Obj))(σ:St)(Q:List V->Hp->Prop)(us:List Value)(s':aJ):Prop:=∃vs H',Inv X zv σ H' s'/\Vals vs us/\Q vs H'
def SP(X:Cx)(zv:List (Addr×Obj))(D:Ends)(f:Flow)(s':aJ):Prop :=
 match f with
 | .next=>∃σ' H',Inv X zv σ' H' s'/\D.nx σ' H'
 | .brk=>∃σ' H',Inv X zv σ' H' s'/\D.bk σ' H'
 | .cont=>∃σ' H',Inv X zv σ' H' s'/\D.ct σ' H'
 | .ret u=>∃v σ' H',Inv X zv σ' H' s'/\RelV v u/\D.rt v H'
def PE(X:Cx)(e:Expr)(t:TE):Prop :=
 ∀(zv:List (Addr×Obj)) (s:aJ) (σ:St) (H:Hp) (Q:VK),Inv X zv σ H s->t σ H Q->wpAny (model X.prog X.w) X.A (eval e X.env) (EP X zv σ Q) X.xe s
def PT(X:Cx)(e:Expr)(t:TT):Prop :=
 ∀(zv:List (Addr×Obj)) (s:aJ) (σ:St) (H:Hp) (Q:Bool->Hp->Prop),Inv X zv σ H s->t σ H Q->wpAny (model X.prog X.w) X.A (isTrue e X.env (eval e X.env)) (TP X zv σ Q) X.xe s
def PW(X:Cx)(e:Expr)(t:TT):Prop :=
 ∀(whole:Sem Value) (zv:List (Addr×Obj)) (s:aJ) (σ:St) (H:Hp) (Q:Bool->Hp->Prop),Inv X zv σ H s->t σ H Q->wpAny (model X.prog X.w) X.A (isTrue e X.env whole) (TP X zv σ Q) X.xe s
theorem PW.pt{X:Cx}{e:Expr}{t:TT}(h:PW X e t):PT X e t:=h _
def PA(X:Cx)(es:List Expr)(t:TA):Prop :=
 ∀(pos:Pos) (zv:List (Addr×Obj)) (s:aJ) (σ:St) (H:Hp) (Q:List V->Hp->Prop),Inv X zv σ H s->t σ H Q->wpAny (model X.prog X.w) X.A (spliced (jA pos (aW es X.env))) (AP X zv σ Q) X.xe s
def PS(X:Cx)(st:Stmt)(t:TS):Prop :=
 ∀(zv:List (Addr×Obj)) (s:aJ) (σ:St) (H:Hp) (D:Ends),Inv X zv σ H s->t D σ H->wpAny (model X.prog X.w) X.A (exec st X.env) (SP X zv D) X.xe s
def PSs(X:Cx)(st:List Stmt)(t:TS):Prop :=
 ∀(zv:List (Addr×Obj)) (s:aJ) (σ:St) (H:Hp) (D:Ends),Inv X zv σ H s->t D σ H->wpAny (model X.prog X.w) X.A (execs st X.env) (SP X zv D) X.xe s
theorem thn{α:Type}{t:Sem α}{Q Q':α->aJ->Prop}{M:Model}{A:cI}{E:Value->aJ->Prop}{s:aJ}(h:wpAny M A t Q E s)(hQ:∀a s,Q a s->Q' a s):wpAny M A t Q' E s:=dC h hQ fun _ _ x=>x
section
variable{X:Cx}
def tVar(i:Nat):TE:=fun σ H Q=>∃v,σ[i]? = some (some v)/\Q v H
def tC(v:V):TE:=fun _ H Q=>Q v H
theorem a0g{i:Nat}{x:Str}{pos:Pos}(hN:X.N[i]? = some x)(hv:Vis X.env.scope x)(hd:(x==("__debug__" : Str))=false:=by decide)(hcd:(x==("__classdict__" : Str))=false:=by decide):PE X (.Name x pos) (tVar i):=by
 intro zv s σ H Q I h;obtain⟨v,e,h⟩:=h;obtain⟨m,hn,hl⟩:=I.loc;obtain⟨u,r,l⟩:=hl i x v hN e hv;have fin:EP X zv σ Q u s:=⟨v,H,I,r,h⟩;rcases l with⟨hk,hm⟩ | ⟨hk,c,hc,hcell⟩
 ·exact wpAny_Name (wpAny_loadName_local I.ok.kind hk hn hm fin) hd
 ·rcases hk with hk | hk
  ·exact wpAny_Name (wpAny_loadName_cell I.ok.kind hk hc hcell fin) hd
  ·exact wpAny_Name (wpAny_loadName_free I.ok.kind hk hc hcell fin hcd) hd
theorem a0k{i j pos}:PE X (.Constant (.int i) j pos) (tC (.int i)):=fun _ _ _ H _ I h=>wpAny_Constant_int ⟨.int i,H,I.tok _,⟨_,rfl⟩,h⟩
theorem a5n{b j pos}:PE X (.Constant (.bool b) j pos) (tC (.bl b)):=fun _ _ _ H _ I h=>Constant_bool ⟨.bl b,H,I,rfl,h⟩
def Gl(X:Cx)(x:Str):Prop:=X.env.kindOf x=some .globalImplicit
theorem alg{E:Value->aJ->Prop}{zv:List (Addr×Obj)}{s:aJ}{σ:St}{H:Hp}{x:Str}{u:Value}{pos:Pos}{Q:Value->aJ->Prop}(I:Inv X zv σ H s)(hg:Gl X x)(hm:X.mg x=some u)(h:Q u s)
  (hd:(x==("__debug__" : Str))=false:=by decide):wpAny (model X.prog X.w) X.A (eval (.Name x pos) X.env) Q E s :=
 rH I.ok.kind hg (Calls.loadGlobal_global (by rw[I.ok.glob];exact I.mod.glob.keeps I.bk) hm h) hd
theorem af3{E:Value->aJ->Prop}{zv:List (Addr×Obj)}{s:aJ}{σ:St}{H:Hp}{x:Str}{u:Value}{pos:Pos}{Q:Value->aJ->Prop}(I:Inv X zv σ H s)(hg:Gl X x)(hm:X.mg x=none)(hv:bV x=some u)(h:Q u s)
  (hn:x ≠ "__name__" := by decide) (hd:(x==("__debug__" : Str))=false:=by decide):wpAny (model X.prog X.w) X.A (eval (.Name x pos) X.env) Q E s:=by
 obtain⟨mb,h1,h2⟩:=I.mod.blt;exact rH I.ok.kind hg (Calls.loadGlobal_builtin (by rw[I.ok.glob];exact I.mod.glob.keeps I.bk) hm (by rw[I.ok.blt];exact h1.keeps I.bk) ((h2 x hn).trans hv) h) hd
theorem aw8{x:Str}{v:V}{u:Value}{pos:Pos}(hg:Gl X x)(hm:X.mg x=some u)(r:RelV v u)(hd:(x==("__debug__" : Str))=false:=by decide):PE X (.Name x pos) (tC v) :=
 fun _ _ _ H _ I h=>alg I hg hm ⟨v,H,I,r,h⟩ hd
theorem axd{x:Str}{v:V}{u:Value}{pos:Pos}(hg:Gl X x)(hm:X.mg x=none)(hv:bV x=some u)(r:RelV v u)(hn:x ≠ "__name__" := by decide)(hd:(x==("__debug__" : Str))=false:=by decide):PE X (.Name x pos) (tC v) :=
 fun _ _ _ H _ I h=>af3 I hg hm hv ⟨v,H,I,r,h⟩ hn hd
variable{a b:Expr}{ta tb:TE}{pos:Pos}
def tB(t:TE):TT:=fun σ H Q=>t σ H fun x H1=>∃c,x=.bl c/\Q c H1
theorem az9{e:Expr}{t:TE}(h:PE X e t)(he:∀whole,isTrue e X.env whole=(do let v <-whole;standAt e.pos;jC [v] (truthy v)):=by intro _;rfl):PT X e (tB t):=by
 intro zv s σ H Q I hw;refine isTrue_plain (thn (h zv s σ H _ I hw) fun v s1 ⟨x,H1,I1,r1,q1⟩ =>?_) (he _)
 obtain⟨d,rfl,q⟩:=q1;cases r1;exact wpAny_truthy_bool ⟨H1,I1,q⟩
variable{tA tB':TT}{rest:List Expr}
def tOr(t u:TT):TT:=fun σ H Q=>t σ H fun c H1=>if c=true then Q true H1 else u σ H1 Q
def tNot(t:TT):TT:=fun σ H Q=>t σ H fun c H1=>Q (!c) H1
theorem az3(ha:PT X a tA):PW X (.BoolOp .Or [a] pos) tA:=by
 intro wh zv s σ H Q I h;refine isTrue_or (thn (ha zv s σ H Q I h) fun c s1 e =>?_)
 cases c with
 | false=>exact isTrue_or_nil e
 | true=>exact e
theorem a5f(ha:PT X a tA)(hb:PW X (.BoolOp .Or (b::rest) pos) tB'):PW X (.BoolOp .Or (a::b::rest) pos) (tOr tA tB'):=by
 intro wh zv s σ H Q I h;refine isTrue_or (thn (ha zv s σ H _ I h) fun c s1 ⟨H1,I1,q1⟩ =>?_)
 cases c with
 | true=>exact⟨H1,I1,q1⟩
 | false=>exact hb wh zv s1 σ H1 Q I1 q1
theorem a0a(ha:PT X a tA):PT X (.UnaryOp .Not a pos) (tNot tA):=by
 intro zv s σ H Q I h;exact isTrue_not (ha zv s σ H (fun c H1=>Q (!c) H1) I h)
def a5a(ta tb:TE):TE:=fun σ H Q=>ta σ H fun x H1=>∃c,x=.bl c/\if c=true then tb σ H1 Q else Q (.bl false) H1
def a4t(ta:TE):TE:=fun σ H Q=>ta σ H fun x H1=>∃c,x=.bl c/\Q (.bl (!c)) H1
theorem a0h{op}{t:TE}(h:PE X a t):PE X (.BoolOp op [a] pos) t:=fun zv s σ H Q I hw=>BoolOp_one (h zv s σ H Q I hw)
theorem a0n(ha:PE X a ta)(hb:PE X (.BoolOp .And (b::rest) pos) tb):PE X (.BoolOp .And (a::b::rest) pos) (a5a ta tb):=by
 intro zv s σ H Q I h;refine BoolOp_and (thn (ha zv s σ H _ I h) fun v s1 ⟨x,H1,I1,r1,q1⟩ =>?_)
 obtain⟨c,rfl,q1⟩:=q1;cases r1;refine wpAny_truthy_bool ?_;cases c with
 | true=>exact hb zv s1 σ H1 Q I1 q1
 | false=>exact⟨.bl false,H1,I1,rfl,q1⟩
theorem a0i(ha:PE X a ta):PE X (.UnaryOp .Not a pos) (a4t ta):=by
 intro zv s σ H Q I h;refine UnaryOp_ (thn (ha zv s σ H _ I h) fun v s1 ⟨x,H1,I1,r1,q1⟩ =>?_)
 obtain⟨c,rfl,q1⟩:=q1;cases r1;exact not_of (wpAny_truthy_bool ⟨.bl (!c),H1,I1,rfl,q1⟩)
end
def SqL(K:Fg9)(H:Hp)(a:Addr)(xs:List V):Prop :=
 Rd H a (.lst xs) ∨
  ∃(o:Obj) (its:Array Value) (n:Nat),K.lookup a=some o/\o.cls=.type "list" /\ o.dict=none/\o.data=.seq its n/\its.size<=cD/\Vals xs its.toList
def SqT(K:Fg9)(H:Hp)(a:Addr)(xs:List V):Prop :=
 Rd H a (.tup xs) ∨
  ∃(o:Obj) (its:Array Value) (n:Nat),K.lookup a=some o/\o.cls=.type "tuple" /\ o.data=.seq its n/\its.size<=cD/\Vals xs its.toList
noncomputable def absV:Value->Option V
 | .none=>some .non
 | .bool b=>some (.bl b)
 | .int i _=>some (.int i)
 | .str x _=>some (.str x)
 | .bytes b _=>some (.byt b)
 | .float b _=>some (.flt b)
 | .ref a=>some (.ref a)
 | .type n=>some (.ty n)
 | _=>none
theorem RelV.abs{x:V}{u:Value}(r:RelV x u):absV u=some x:=by
 cases x with
 | non=>cases r;rfl
 | bl _=>cases r;rfl
 | int _=>obtain⟨t,rfl⟩:=r;rfl
 | str _=>obtain⟨t,rfl⟩:=r;rfl
 | byt _=>obtain⟨t,rfl⟩:=r;rfl
 | flt _=>obtain⟨t,rfl⟩:=r;rfl
 | ref _=>cases r;rfl
 | ty _=>cases r;rfl
theorem RelV.inj{x y:V}{u:Value}(r:RelV x u)(q:RelV y u):x=y:=bW (r.abs.symm.trans q.abs)
theorem Vals.inj:∀{xs ys:List V} {us:List Value},Vals xs us->Vals ys us->xs=ys
 | _,_,_,.nil,.nil=>rfl
 | _,_,_,.cons r t,.cons r' t'=>by rw[r.inj r',Vals.inj t t']
section
variable{X:Cx}{zv:List (Addr×Obj)}{σ:St}{H:Hp}{s:aJ}{a:Addr}{xs ys:List V}
theorem SqL.of{K:Fg9}(h:H a=some (.lst xs)):SqL K H a xs:=.inl (.inl h)
theorem SqT.of{K:Fg9}(h:H a=some (.tup xs)):SqT K H a xs:=.inl (.inl h)
theorem Inv.list(I:Inv X zv σ H s)(h:SqL X.K H a xs):∃its:List Value,Vals xs its/\PlainL s.heap a its.toArray/\xs.length<=cD:=by
 rcases h with h | ⟨o,its,n,hk,hc,hd,hs,hz,r⟩
 ·obtain⟨z,its,n,r,e⟩:=h.ok I.hok;exact⟨its,r,⟨_,n,e,rfl,rfl,rfl⟩,z⟩
 ·refine⟨its.toList,r,⟨o,n,I.kIn a o hk,hc,hd,by simpa using hs⟩,?_⟩
  have e:=r.length;simp only[bI] at e;omega
theorem Inv.tuple(I:Inv X zv σ H s)(h:SqT X.K H a xs):∃its:List Value,Vals xs its/\IsTup s.heap a its.toArray/\xs.length<=cD:=by
 rcases h with h | ⟨o,its,n,hk,hc,hs,hz,r⟩
 ·obtain⟨z,its,r,p⟩:=h.ok I.hok;exact⟨its,r,p.tup,z⟩
 ·refine⟨its.toList,r,⟨o,I.kIn a o hk,hc,n,by simpa using hs⟩,?_⟩
  have e:=r.length;simp only[bI] at e;omega
theorem Inv.list_inj(I:Inv X zv σ H s)(h:SqL X.K H a xs)(h':SqL X.K H a ys):xs=ys:=by
 obtain⟨its,r,⟨o,n,e,_,_,d⟩,_⟩:=I.list h;obtain⟨its',r',⟨o',n',e',_,_,d'⟩,_⟩:=I.list h';rw[e] at e';cases e';rw[d] at d'
 injection d' with d1 _
 have:its=its':=by simpa using congrArg Array.toList d1
 subst this;exact r.inj r'
theorem Inv.tuple_inj(I:Inv X zv σ H s)(h:SqT X.K H a xs)(h':SqT X.K H a ys):xs=ys:=by
 obtain⟨its,r,⟨o,e,_,n,d⟩,_⟩:=I.tuple h;obtain⟨its',r',⟨o',e',_,n',d'⟩,_⟩:=I.tuple h';rw[e] at e';cases e';rw[d] at d'
 injection d' with d1 _
 have:its=its':=by simpa using congrArg Array.toList d1
 subst this;exact r.inj r'
end
abbrev Cx.wish(X:Cx)(E:Value->aJ->Prop):Cx:={ X with xe:=E }
abbrev Cx.nox(X:Cx):Cx:=X.wish fun _ _=>False
theorem Cx.Ok.wish{X:Cx}(ok:X.Ok)(E:Value->aJ->Prop):(X.wish E).Ok :=
 ⟨ok.mod,ok.kind,ok.glob,ok.blt,ok.above,ok.inj,ok.has,ok.cab,ok.hd,ok.frames,ok.stk,ok.exf,ok.bs,ok.bsz,ok.noex,ok.exfs,ok.funs,ok.frf⟩
theorem Cx.Ok.unwish{X:Cx}{E:Value->aJ->Prop}(ok:(X.wish E).Ok):X.Ok :=
 ⟨ok.mod,ok.kind,ok.glob,ok.blt,ok.above,ok.inj,ok.has,ok.cab,ok.hd,ok.frames,ok.stk,ok.exf,ok.bs,ok.bsz,ok.noex,ok.exfs,ok.funs,ok.frf⟩
section
variable{X:Cx}{zv:List (Addr×Obj)}{σ:St}{H:Hp}{s:aJ}{E:Value->aJ->Prop}
theorem Inv.wish(I:Inv X zv σ H s)(E:Value->aJ->Prop):Inv (X.wish E) zv σ H s:=⟨I.ok.wish E,I.os,I.bare,I.base,I.loc,I.cell,I.free,I.freeC,I.pin,I.hok,I.len⟩
theorem Inv.unwish(I:Inv (X.wish E) zv σ H s):Inv X zv σ H s:=⟨I.ok.unwish,I.os,I.bare,I.base,I.loc,I.cell,I.free,I.freeC,I.pin,I.hok,I.len⟩
theorem SP.unwish{D:Ends}{f:Flow}{s':aJ}(h:SP (X.wish E) zv D f s'):SP X zv D f s':=by
 cases f with
 | next=>obtain⟨σ',H',I,q⟩:=h;exact⟨σ',H',I.unwish,q⟩
 | brk=>obtain⟨σ',H',I,q⟩:=h;exact⟨σ',H',I.unwish,q⟩
 | cont=>obtain⟨σ',H',I,q⟩:=h;exact⟨σ',H',I.unwish,q⟩
 | ret u=>obtain⟨v,σ',H',I,r,q⟩:=h;exact⟨v,σ',H',I.unwish,r,q⟩
theorem PE.nox{e:Expr}{t:TE}(h:PE X.nox e t):PE X e t:=fun zv s σ H Q I hw =>
 dC (h zv s σ H Q (I.wish _) hw) (fun _ _ ⟨v,H',I',r,q⟩=>⟨v,H',I'.unwish,r,q⟩) fun _ _ z=>gG z
theorem PT.nox{e:Expr}{t:TT}(h:PT X.nox e t):PT X e t:=fun zv s σ H Q I hw =>
 dC (h zv s σ H Q (I.wish _) hw) (fun _ _ ⟨H',I',q⟩=>⟨H',I'.unwish,q⟩) fun _ _ z=>gG z
theorem PSs.nox{st:List Stmt}{t:TS}(h:PSs X.nox st t):PSs X st t:=fun zv s σ H D I hw =>
 dC (h zv s σ H D (I.wish _) hw) (fun _ _ q=>q.unwish) fun _ _ z=>gG z
end
section
variable{X:Cx}{st:Stmt}{rest:List Stmt}{t u:TS}{e:Expr}{te:TE}{pos:Pos}
def a4u:TS:=fun D σ H=>D.nx σ H
def tSeq(t u:TS):TS:=fun D σ H=>t { D with nx:=u D } σ H
theorem apu:PSs X [] a4u:=fun _ _ σ H _ I h=>wpAny_execs_nil ⟨σ,H,I,h⟩
theorem ah2(h1:PS X st t)(h2:PSs X rest u):PSs X (st::rest) (tSeq t u):=by
 intro zv s σ H D I h;refine wpAny_execs_cons (thn (h1 zv s σ H { D with nx:=u D } I h) fun f s1 q =>?_)
 cases f with
 | next =>
  obtain⟨σ',H',I',q⟩:=q;exact h2 zv s1 σ' H' D I' q
 | ret v=>exact q
 | brk=>exact q
 | cont=>exact q
theorem awu(h1:PS X st t):PSs X [st] t:=by
 intro zv s σ H D I h;refine wpAny_execs_cons (thn (h1 zv s σ H D I h) fun f s1 q =>?_)
 cases f with
 | next=>exact wpAny_execs_nil q
 | ret v=>exact q
 | brk=>exact q
 | cont=>exact q
theorem Inv.quiet{zv:List (Addr×Obj)}{σ:St}{H:Hp}{s:aJ}(I:Inv X zv σ H s):interactive X.env=false:=by simp[interactive,I.ok.kind]
def a4x(te:TE):TS:=fun D σ H=>te σ H fun _ H1=>D.nx σ H1
theorem aww(he:PE X e te)(hs:lB e none pos.line X.env=pure false:=by rfl):PS X (.Expr e pos) (a4x te):=by
 intro zv s σ H D I h;exact wpAny_Expr_any (thn (he zv s σ H _ I h) fun v s1 ⟨x,H1,I1,r1,q1⟩=>⟨σ,H1,I1,q1⟩) I.quiet hs
def tRet(te:TE):TS:=fun D σ H=>te σ H D.rt
theorem a0b(he:PE X e te):PS X (.Return (some e) pos) (tRet te):=by
 intro zv s σ H D I h;exact wpAny_Return_some (thn (he zv s σ H _ I h) fun v s1 ⟨x,H1,I1,r1,q1⟩=>⟨x,σ,H1,I1,r1,q1⟩)
def tIfS(c:TT)(t u:TS):TS:=fun D σ H=>c σ H fun b H1=>if b=true then t D σ H1 else u D σ H1
theorem a5i{c:Expr}{a b:List Stmt}{tc:TT}(hc:PT X c tc)(ha:PSs X a t)(hb:PSs X b u):PS X (.If c a b pos) (tIfS tc t u):=by
 intro zv s σ H D I h;refine wpAny_If (thn (hc zv s σ H _ I h) fun d s1 ⟨H1,I1,q1⟩ =>?_)
 cases d with
 | true=>exact ha zv s1 σ H1 D I1 q1
 | false=>exact hb zv s1 σ H1 D I1 q1
def azp:TS:=fun _ _ _=>False
theorem ath:PS X st azp:=fun _ _ _ _ _ _ h=>h.elim
end
abbrev TG:=V->St->Hp->(St->Hp->Prop)->Prop
abbrev TGs:=List V->St->Hp->(St->Hp->Prop)->Prop
def PG(X:Cx)(target:Expr)(t:TG):Prop :=
 ∀(zv:List (Addr×Obj)) (s:aJ) (σ:St) (H:Hp) (v:V) (u:Value) (Q:St->Hp->Prop),Inv X zv σ H s->RelV v u->t v σ H Q ->
  wpAny (model X.prog X.w) X.A (kZ target X.env u) (fun _ s'=>∃σ' H',Inv X zv σ' H' s'/\Q σ' H') X.xe s
def PGs(X:Cx)(ts:List Expr)(t:TGs):Prop :=
 ∀(zv:List (Addr×Obj)) (s:aJ) (σ:St) (H:Hp) (vs:List V) (us:List Value) (Q:St->Hp->Prop),Inv X zv σ H s->Vals vs us->t vs σ H Q ->
  wpAny (model X.prog X.w) X.A (assignInOrder ((dY ts X.env).map (·.2)) us) (fun _ s'=>∃σ' H',Inv X zv σ' H' s'/\Q σ' H') X.xe s
abbrev TSet:=V->V->V->Hp->(Hp->Prop)->Prop
def PSet(X:Cx)(t:TSet):Prop :=
 ∀(zv:List (Addr×Obj)) (s:aJ) (σ:St) (H:Hp) (o i v:V) (ov iv u:Value) (Q:Hp->Prop),Inv X zv σ H s->RelV o ov->RelV i iv->RelV v u->t o i v H Q ->
  wpAny (model X.prog X.w) X.A (setItem ov iv u) (fun _ s'=>∃H',Inv X zv σ H' s'/\Q H') X.xe s
abbrev TIp:=V->V->Hp->VK->Prop
def PIp(X:Cx)(op:Operator)(t:TIp):Prop :=
 ∀(zv:List (Addr×Obj)) (s:aJ) (σ:St) (H:Hp) (x y:V) (v u:Value) (Q:VK),Inv X zv σ H s->RelV x v->RelV y u->t x y H Q ->
  wpAny (model X.prog X.w) X.A (inplaceOp op v u) (EP X zv σ Q) X.xe s
section
variable{X:Cx}{pos:Pos}
def ax6(i:Nat):TG:=fun v σ H Q=>Q (σ.set i (some v)) H
theorem ah3{i:Nat}{x:Str}(hN:X.N.Nodup)(hi:X.N[i]? = some x)(hx:Loc X.env.scope x)(hf:X.fn x=true∨X.env.scope.names.lookup x=some .local:=by first | exact .inl rfl | exact .inr rfl | assumption):PG X (.Name x pos) (ax6 i):=by
 intro zv s σ H v u Q I r h;exact wpAny_assign_Name (afa I hN hi hx r (fun s' I'=>⟨_,H,I',h⟩) hf)
def gNil:TGs:=fun vs σ H Q=>vs=[]/\Q σ H
def a7d(t:TG)(u:TGs):TGs:=fun vs σ H Q=>∃v r,vs=v::r/\t v σ H fun σ' H'=>u r σ' H' Q
theorem ap1:PGs X [] gNil:=by
 intro zv s σ H vs us Q I r h;obtain⟨e,h⟩:=h;subst e;cases r;exact assignInOrder_nil ⟨σ,H,I,h⟩
theorem afb{e:Expr}{es:List Expr}{t:TG}{u:TGs}(h1:PG X e t)(h2:PGs X es u)
  (hs:(dY (e::es) X.env).map (·.2)=kZ e X.env::(dY es X.env).map (·.2):=by rfl):PGs X (e::es) (a7d t u):=by
 intro zv s σ H vs us Q I r h;obtain⟨v,vr,e1,h⟩:=h;subst e1;cases r with
 | cons r rr =>
  rw[hs];refine assignInOrder_cons (thn (h1 zv s σ H _ _ _ I r h) fun _ s1 ⟨σ1,H1,I1,q1⟩ =>?_)
  exact h2 zv s1 σ1 H1 _ _ Q I1 rr q1
def gTup(K:Fg9)(n:Nat)(t:TGs):TG:=fun v σ H Q=>∃a xs,v=.ref a/\SqT K H a xs/\xs.length=n/\t xs σ H Q
theorem avf{es:List Expr}{k:Nat}{t:TGs}{n:Nat}(hc:X.calm=true)(h:PGs X es t)
  (hn:(dY es X.env).length=n:=by rfl) (hst:(dY es X.env).findIdx? (·.1)=none:=by rfl):PG X (.Tuple es k pos) (gTup X.K n t):=by
 intro zv s σ H v u Q I r hw;obtain⟨a,xs,e1,hq,hl,hw⟩:=hw;subst e1;cases r;obtain⟨its,rv,ht,hz⟩:=I.tuple hq;refine assign_Tuple_tuple (I.ok.hd hc) ht (by simp[hn,<-hl,rv.length]) hst fun h' hx =>?_
 have I1:Inv X zv σ H { s with heap:=h' }:=I.kept (t':=s.toks) fun b o e=>hx b o (bD (aQ e)) e
 exact h zv _ σ H xs _ Q I1 (by simpa using rv) hw
def gSub(to ti:TE)(t:TSet):TG:=fun v σ H Q=>to σ H fun o H1=>ti σ H1 fun i H2=>t o i v H2 fun H3=>Q σ H3
theorem avh{o i:Expr}{to ti:TE}{t:TSet}(ho:PE X o to)(hi:PE X i ti)(hs:PSet X t)
  (ha:∀v,kZ (.Subscript o i pos) X.env v=(do
   let ov <-jC [v] (eval o X.env)
   let iv <-jC [v,ov] (eval i X.env)
   standAt pos
   jC [v,ov,iv] (setItem ov iv v)
   release [v,ov,iv] []):=by intro _;rfl):PG X (.Subscript o i pos) (gSub to ti t):=by
 intro zv s σ H v u Q I r h;rw[ha];refine aA (fH (thn (ho zv s σ H _ I h) fun ov s1 ⟨x,H1,I1,r1,q1⟩ =>?_))
 refine aA (fH (thn (hi zv s1 σ H1 _ I1 q1) fun iv s2 ⟨y,H2,I2,r2,q2⟩ =>?_))
 refine aA (wpAny_standAt (aA (fH (thn (hs zv s2 σ H2 x y v ov iv u _ I2 r1 r2 r q2) fun _ s3 ⟨H3,I3,q3⟩ =>?_))))
 exact wpAny_release ⟨σ,H3,I3,q3⟩
def tAsg(te:TE)(g:TG):TS:=fun D σ H=>te σ H fun x H1=>g x σ H1 D.nx
theorem amc{tg e:Expr}{te:TE}{g:TG}(he:PE X e te)(hg:PG X tg g)(hs:swapsWithSole [tg] e pos.line X.env=pure false:=by rfl)(hw:swappedStores [tg] e X.env=pure none:=by rfl)
  (h1:(dY [tg] X.env).map (·.2)=[kZ tg X.env]:=by rfl):PS X (.Assign [tg] e pos) (tAsg te g):=by
 intro zv s σ H D I h;refine wpAny_Assign_stores (thn (he zv s σ H _ I h) fun v s1 ⟨x,H1,I1,r1,q1⟩ =>?_) hs hw
 rw[h1];exact thn (hg zv s1 σ H1 x v _ I1 r1 q1) fun _ s2 q=>q
theorem avd{i:Nat}{x:Str}{e:Expr}{te:TE}{pos':Pos}(hN:X.N.Nodup)(hi:X.N[i]? = some x)(hx:Loc X.env.scope x)(he:PE X e te)(hs:lB e (some (.Name x pos')) pos.line X.env=pure false:=by rfl)(hf:X.fn x=true∨X.env.scope.names.lookup x=some .local:=by first | exact .inl rfl | exact .inr rfl | assumption) :
  PS X (.Assign [.Name x pos'] e pos) (tAsg te (ax6 i)):=by
 intro zv s σ H D I h;refine wpAny_Assign_Name (thn (he zv s σ H _ I h) fun v s1 ⟨y,H1,I1,r1,q1⟩ =>?_) hs
 exact afa I1 hN hi hx r1 (fun s2 I2=>⟨_,H1,I2,q1⟩) hf
def tPar(i j:Nat)(ta:TA):TS:=fun D σ H=>ta σ H fun vs H1=>∃v w,vs=[v,w]/\D.nx ((σ.set i (some v)).set j (some w)) H1
theorem a0c{i j:Nat}{x y:Str}{a b:Expr}{ta:TA}{px py pt:Pos}{kt k2 pt2}(hc:X.calm=true)(hN:X.N.Nodup)(hi:X.N[i]? = some x)(hj:X.N[j]? = some y)(hij:i≠j)
  (hx:X.env.scope.names.lookup x=some .local) (hy:X.env.scope.names.lookup y=some .local) (ha:PA X [a,b] ta)
  (hw:swappedStores [.Tuple [.Name x px,.Name y py] kt pt] (.Tuple [a,b] k2 pt2) X.env=pure (some [x,y]))
  (hs:swapsWithSole [.Tuple [.Name x px,.Name y py] kt pt] (.Tuple [a,b] k2 pt2) pos.line X.env=pure false:=by rfl) :
  PS X (.Assign [.Tuple [.Name x px,.Name y py] kt pt] (.Tuple [a,b] k2 pt2) pos) (tPar i j ta):=by
 intro zv s σ H D I h;rw[exec_Assign_arm];refine aA (wpAny_standAt ?_);rw[hs];refine aA (aH ?_);rw[if_neg (by decide)]
 refine aA (Tuple_ (thn (ha _ zv s σ H _ I h) fun us s1 ⟨vs,H1,I1,r1,q1⟩ =>?_))
 obtain⟨v,w,e1,q1⟩:=q1;subst e1;obtain⟨u1,u2,rfl,rv,rw'⟩:∃u1 u2,us=[u1,u2]/\RelV v u1/\RelV w u2:=by
  cases r1 with
  | cons p q =>
   cases q with
   | cons p' q' =>
    cases q';exact⟨_,_,rfl,p,p'⟩
 refine bU ?_ (by show 2<=cD;decide)
 have I2:Inv X zv σ H1 { s1 with heap:=s1.heap.push { cls:=.type "tuple", data:=.seq [u1,u2].toArray } }:=I1.kept (t':=s1.toks) fun b o e=>aB _ e
 rw[hw];refine aA (aH ?_);show wpAny (model X.prog X.w) X.A (do rule "assign.swapped-stores";let items <-unpackItems (.ref s1.heap.objs.size) 2 none;assignInOrder [fun v=>bindName X.env y v,fun v=>bindName X.env x v] items.reverse;pure tY) _ _ _
 refine aA (iH (aA (unpackItems_tuple (items := #[u1,u2]) (I.ok.hd hc) (IsTup.new s1.heap _) fun h' hx' =>?_)))
 have I3:=I2.kept (h':=h') (t':=s1.toks) fun b o e=>hx' b o (bD (aQ e)) e
 show wpAny _ _ (assignInOrder [fun v=>bindName X.env y v,fun v=>bindName X.env x v] [u2,u1] >>= fun _=>pure tY) _ _ _
 refine aA (assignInOrder_cons (wpAny_bindName (afa I3 hN hj (.inl hy) rw' (fun s2 I4 =>?_) (.inr hy))))
 refine assignInOrder_cons (wpAny_bindName (afa I4 hN hi (.inl hx) rv (fun s3 I5=>assignInOrder_nil (aH ?_)) (.inr hx)))
 rw[List.set_comm _ _ (iI hij)] at I5;exact⟨_,H1,I5,q1⟩
def a4z(to ti te:TE)(tget:V->V->Hp->VK->Prop)(tip:TIp)(tset:TSet):TS:=fun D σ H=>to σ H fun o H1=>ti σ H1 fun i H2=>tget o i H2 fun x H3=>te σ H3 fun y H4=>tip x y H4 fun z H5=>tset o i z H5 fun H6=>D.nx σ H6
def PGet(X:Cx)(t:V->V->Hp->VK->Prop):Prop :=
 ∀(zv:List (Addr×Obj)) (s:aJ) (σ:St) (H:Hp) (o i:V) (ov iv:Value) (Q:VK),Inv X zv σ H s->RelV o ov->RelV i iv->t o i H Q ->
  wpAny (model X.prog X.w) X.A (pJ ov iv) (EP X zv σ Q) X.xe s
theorem apv{o i e:Expr}{to ti te:TE}{tget:V->V->Hp->VK->Prop}{tip:TIp}{tset:TSet}{op:Operator}{tpos:Pos}(ho:PE X o to)(hi:PE X i ti)(hg:PGet X tget)(he:PE X e te)(hp:PIp X op tip)(hs:PSet X tset)
  (ha:∀ov iv new,augStore i ov iv new=(do jC [new,ov,iv] (setItem ov iv new);release [new,ov,iv] [];pure .next):=by intros;rfl):PS X (.AugAssign (.Subscript o i tpos) op e pos) (a4z to ti te tget tip tset):=by
 intro zv s σ H D I h;refine wpAny_AugAssign_SubscriptAny (thn (ho zv s σ H _ I h) fun ov s1 ⟨x1,H1,I1,r1,q1⟩ =>?_) ha
 refine thn (hi zv s1 σ H1 _ I1 q1) fun iv s2 ⟨x2,H2,I2,r2,q2⟩ =>?_
 refine thn (hg zv s2 σ H2 x1 x2 ov iv _ I2 r1 r2 q2) fun old s3 ⟨x3,H3,I3,r3,q3⟩ =>?_
 refine thn (he zv s3 σ H3 _ I3 q3) fun v s4 ⟨x4,H4,I4,r4,q4⟩ =>?_
 refine thn (hp zv s4 σ H4 x3 x4 old v _ I4 r3 r4 q4) fun new s5 ⟨x5,H5,I5,r5,q5⟩ =>?_
 exact thn (hs zv s5 σ H5 x1 x2 x5 ov iv new _ I5 r1 r2 r5 q5) fun _ s6 ⟨H6,I6,q6⟩=>⟨σ,H6,I6,q6⟩
def ipI(f:Int->Int->Int):TIp:=fun x y H Q=>∃i j,x=.int i/\y=.int j/\Q (.int (f i j)) H
theorem amw:PIp X .Add (ipI fun i j=>i+j):=by
 intro zv s σ H x y v u Q I r1 r2 h;obtain⟨i,j,e1,e2,q⟩:=h;subst e1;subst e2;obtain⟨t,rfl⟩:=r1;obtain⟨t',rfl⟩:=r2;exact iadd_int ⟨.int _,H,I.tok _,⟨_,rfl⟩,q⟩
theorem a1p:PIp X .Sub (ipI fun i j=>i - j):=by
 intro zv s σ H x y v u Q I r1 r2 h;obtain⟨i,j,e1,e2,q⟩:=h;subst e1;subst e2;obtain⟨t,rfl⟩:=r1;obtain⟨t',rfl⟩:=r2;exact isub_int ⟨.int _,H,I.tok _,⟨_,rfl⟩,q⟩
end
section
variable{X:Cx}{pos:Pos}
def azo(c:TT)(tb:TS):TS:=fun D σ H=>∃W:Nat->St->Hp->Prop,(∃m,W m σ H)/\∀m σ H,W m σ H ->
 c σ H fun b H1=>if b=true then ∃N:St->Hp->Prop,(∀σ' H',N σ' H'->∃m',m' < m/\W m' σ' H')/\tb { D with nx:=N,ct:=N,bk:=D.nx } σ H1 else D.nx σ H1
theorem atg{c:Expr}{body:List Stmt}{tc:TT}{tb:TS}(hp:tO (model X.prog X.w) X.A X.env X.xe)(hc:PT X c tc)(hb:PSs X body tb):PS X (.While c body [] pos) (azo tc tb):=by
 intro zv s σ H D I h;obtain⟨W,⟨m0,w0⟩,turn⟩:=h;refine wpAny_While (codeAny_whileLoop (fun n s'=>∃σ' H',Inv X zv σ' H' s'/\W n σ' H') ?_ m0 ⟨σ,H,I,w0⟩)
 rintro n s1 ⟨σ1,H1,I1,w1⟩
 refine wpAny_passesOwn hp (thn (hc zv s1 σ1 H1 _ I1 (turn n σ1 H1 w1)) fun b s2 ⟨H2,I2,q2⟩ =>?_)
 cases b with
 | true =>
  obtain⟨N,hN,q2⟩:=q2;rw[if_pos rfl];refine wpAny_passesOwn hp (thn (hb zv s2 σ1 H2 _ I2 q2) fun f s3 q3 =>?_)
  cases f with
  | next =>
   obtain⟨σ3,H3,I3,n3⟩:=q3;obtain⟨m',hm,w3⟩:=hN σ3 H3 n3;exact⟨m',hm,σ3,H3,I3,w3⟩
  | cont =>
   obtain⟨σ3,H3,I3,n3⟩:=q3;obtain⟨m',hm,w3⟩:=hN σ3 H3 n3;exact⟨m',hm,σ3,H3,I3,w3⟩
  | brk=>exact q3
  | ret v=>exact q3
 | false =>
  rw[if_neg dX];exact wpAny_execs_nil ⟨σ1,H2,I2,q2⟩
end
structure It where
 go:Nat->Hp->Prop
 yld:Nat->Hp->V->Hp->Prop
 stop:Nat->Hp->Prop
def FpOk(X:Cx)(zv:List (Addr×Obj))(H:Hp)(b:Addr):Prop :=
 H b=none/\b≠X.env.locals/\b∉X.fs/\(b∈X.ex∨X.s₀.heap.objs.size<=b)/\(∀x c,X.env.cells.lookup x=some c->c≠b)/\∀p∈X.pn++zv,p.1≠b
theorem Inv.fpOk{X:Cx}{zv:List (Addr×Obj)}{σ:St}{H H':Hp}{s:aJ}{b:Addr}(I:Inv X zv σ H s)(hb:s.heap.objs.size<=b)(hn:H' b=none):FpOk X zv H' b:=by
 refine⟨hn,gP (cA I.lt hb),I.nofs hb,.inr (cF I.sz hb),fun x c e z =>?_,fun p hp z =>?_⟩
 ·obtain⟨v,q⟩:=I.cell x c e;exact absurd (cA q.lt (by rw[z];exact hb)) (iW _)
 ·exact absurd (cA (aQ (I.pin p hp).1) (by rw[z];exact hb)) (iW _)
structure Turn (P:aZ) (w:World) (K:Fg9) (tg:Expr) (J:It) (fp:List Addr) (it:Addr) (tn:Nat->Heap->Prop):Prop where
 mem:it∈fp
 obj:∀i h,tn i h->∀b∈fp,∃o,h.get? b=some o/\∀v,o.data≠.cell v
 keep:∀i h h',tn i h->(∀b∈fp,∀o,h.get? b=some o->h'.get? b=some o)->tn i h'
 item:∀(X:Cx),X.prog=P->X.w=w->X.K=K->X.calm=true->∀(i:Nat) (zv:List (Addr×Obj)) (s:aJ) (σ:St) (H:Hp) (E:Value->aJ->Prop),Inv X zv σ H s->(∀b∈fp,FpOk X zv H b)->tn i s.heap->J.go i H ->
  wpAny (model P w) X.A (lY (.ref it)) (fun r s1=>∃u,r=some u /\
   wpAny (model P w) X.A (letOwnedTupleGo tg (.ref it) u) (fun _ s2=>∃x H',Inv X zv σ H' s2/\RelV x u/\J.yld i H x H'/\tn (i+1) s2.heap/\∀b∈fp,H' b=none) E s1) E s
 done:∀(X:Cx),X.prog=P->X.w=w->X.K=K->X.calm=true->∀(i:Nat) (zv:List (Addr×Obj)) (s:aJ) (σ:St) (H:Hp) (E:Value->aJ->Prop),Inv X zv σ H s->(∀b∈fp,FpOk X zv H b)->tn i s.heap->J.stop i H ->
  wpAny (model P w) X.A (lY (.ref it)) (fun r s1=>r=none/\Inv X zv σ H s1) E s
 self:∀(A:cI) (i:Nat) (s:aJ) (Q:Value->aJ->Prop) (E:Value->aJ->Prop),tn i s.heap->Q (.ref it) s->wpAny (model P w) A (pyIter (.ref it)) Q E s
abbrev TI:=St->Hp->(It->Hp->Prop)->Prop
def PIE(X:Cx)(zv:List (Addr×Obj))(σ:St)(tg:Expr)(R:It->Hp->Prop)(itv:Value)(s2:aJ):Prop :=
 ∃(it:Addr) (fp:List Addr) (tn:Nat->Heap->Prop) (J:It) (H':Hp),itv=.ref it/\Inv X zv σ H' s2/\Turn X.prog X.w X.K tg J fp it tn/\tn 0 s2.heap/\(∀b∈fp,FpOk X zv H' b)/\R J H'
def PI(X:Cx)(tg iter:Expr)(wi:TI):Prop :=
 ∀(zv:List (Addr×Obj)) (s:aJ) (σ:St) (H:Hp) (R:It->Hp->Prop),Inv X zv σ H s->wi σ H R ->
  wpAny (model X.prog X.w) X.A (eval iter X.env) (fun v s1=>wpAny (model X.prog X.w) X.A (pyIter v) (PIE X zv σ tg R) X.xe s1) X.xe s
theorem ax1{M:Model}{A:cI}{E:Value->aJ->Prop}{s:aJ}{tg:Expr}{it:Addr}{u:Value}{o:Obj}{n:String}{vs:Array Value}{Q:Unit->aJ->Prop}(ho:s.heap.get? it=some o)(hc:o.cls=.type n)(hd:o.data=.fields vs)
  (hn:["enumerate","zip","dict_itemiterator","dict_reverseitemiterator","odict_iterator","itertools.zip_longest","itertools.pairwise"].contains n=false) (hQ:Q () s):wpAny M A (letOwnedTupleGo tg (.ref it) u) Q E s:=by
 unfold letOwnedTupleGo;cases tg <;> first
  | exact aH hQ
  | (cases u <;> first
    | exact aH hQ
    | (refine aA (wpAny_load ho ?_)
       rw[hc,hd];show wpAny M A (if (["enumerate","zip","dict_itemiterator","dict_reverseitemiterator","odict_iterator","itertools.zip_longest","itertools.pairwise"].contains n&&vs[0]? == some (lC _))=true then _ else _) Q E s
       rw[if_neg (by intro h;rw[hn,rW] at h;cases h)]
       exact aH hQ))
def Itl(K:Fg9)(a:Addr):It :=
 ⟨fun i H=>∃xs x,SqL K H a xs/\xs[i]? = some x,fun i H x H'=>H'=H/\∀xs,SqL K H a xs->xs[i]? = some x,fun i H=>∃xs,SqL K H a xs/\xs.length<=i⟩
def Itt(K:Fg9)(a:Addr):It :=
 ⟨fun i H=>∃xs x,SqT K H a xs/\xs[i]? = some x,fun i H x H'=>H'=H/\∀xs,SqT K H a xs->xs[i]? = some x,fun i H=>∃xs,SqT K H a xs/\xs.length<=i⟩
def Itr(lo:Int)(n:Nat):It:=⟨fun i _=>i < n,fun i H x H'=>H'=H/\x=.int (lo+i),fun i _=>n<=i⟩
theorem apa{P:aZ}{w:World}{K:Fg9}{tg:Expr}(a it:Addr):Turn P w K tg (Itl K a) [it] it (fun i h=>h.IsListIter it a i) where
 mem:=by simp
 obj:=fun i h st b hb=>by
  have e:b=it:=by simpa using hb
  subst e;obtain⟨o,e,c,d⟩:=st;exact⟨o,e,fun v z=>by rw[d] at z;cases z⟩
 keep:=fun i h h' st k=>st.at fun o e=>k it (by simp) o e
 item:=by
  intro X hP hw hK hc i zv s σ H E I hf st hg;subst hP hw hK;obtain⟨xs,x,hq,hx⟩:=hg;obtain⟨its,rv,p,hz⟩:=I.list hq;obtain⟨u,hu,ru⟩:=rv.get hx;obtain⟨f0,f1,f2,f3,f4,f5⟩:=hf it (by simp)
  refine wpAny_pyNext_list_item st p.isList (x:=u) (by simpa using hu) fun h' st' sb =>?_
  have I1:Inv X zv σ H { s with heap:=h' }:=I.turned (t':=s.toks) (fun b o hb e=>(sb.2 b hb).trans e) f0 f1 f3 f4 f5
  obtain⟨o,e,c,d⟩:=id st';exact⟨u,rfl,ax1 (s:={ s with heap:=h' }) e c d (by decide) ⟨x,H,I1,ru,⟨rfl,fun ys hy=>by rw[I.list_inj hy hq];exact hx⟩,st',fun b hb=>(hf b hb).1⟩⟩
 done:=by
  intro X hP hw hK hc i zv s σ H E I hf st hg;subst hP hw hK;obtain⟨xs,hq,hx⟩:=hg;obtain⟨its,rv,p,hz⟩:=I.list hq;obtain⟨f0,f1,f2,f3,f4,f5⟩:=hf it (by simp)
  have hl:=rv.length;exact wpAny_pyNext_list_end (I.ok.hd hc) st p.isList (by simp;omega) fun h' eb=>⟨rfl,I.turned (t':=s.toks) (fun b o hb e=>eb b o hb e) f0 f1 f3 f4 f5⟩
 self:=fun _ _ _ _ _ st h=>wpAny_pyIter_listiter st h
theorem ang{P:aZ}{w:World}{K:Fg9}{tg:Expr}(a it:Addr):Turn P w K tg (Itt K a) [it] it (fun i h=>h.IsTupleIter it a i) where
 mem:=by simp
 obj:=fun i h st b hb=>by
  have e:b=it:=by simpa using hb
  subst e;obtain⟨o,e,c,d⟩:=st;exact⟨o,e,fun v z=>by rw[d] at z;cases z⟩
 keep:=fun i h h' st k=>st.at fun o e=>k it (by simp) o e
 item:=by
  intro X hP hw hK hc i zv s σ H E I hf st hg;subst hP hw hK;obtain⟨xs,x,hq,hx⟩:=hg;obtain⟨its,rv,p,hz⟩:=I.tuple hq;obtain⟨u,hu,ru⟩:=rv.get hx;obtain⟨f0,f1,f2,f3,f4,f5⟩:=hf it (by simp)
  refine wpAny_pyNext_tuple_item st (show s.heap.IsTuple a its.toArray from p) (x:=u) (by simpa using hu) fun h' st' sb =>?_
  have I1:Inv X zv σ H { s with heap:=h' }:=I.turned (t':=s.toks) (fun b o hb e=>(sb.2 b hb).trans e) f0 f1 f3 f4 f5
  obtain⟨o,e,c,d⟩:=id st';exact⟨u,rfl,ax1 (s:={ s with heap:=h' }) e c d (by decide) ⟨x,H,I1,ru,⟨rfl,fun ys hy=>by rw[I.tuple_inj hy hq];exact hx⟩,st',fun b hb=>(hf b hb).1⟩⟩
 done:=by
  intro X hP hw hK hc i zv s σ H E I hf st hg;subst hP hw hK;obtain⟨xs,hq,hx⟩:=hg;obtain⟨its,rv,p,hz⟩:=I.tuple hq;obtain⟨f0,f1,f2,f3,f4,f5⟩:=hf it (by simp)
  have hl:=rv.length;exact wpAny_pyNext_tuple_end (I.ok.hd hc) st (show s.heap.IsTuple a its.toArray from p) (by simp;omega) fun h' eb=>⟨rfl,I.turned (t':=s.toks) (fun b o hb e=>eb b o hb e) f0 f1 f3 f4 f5⟩
 self:=fun _ _ _ _ _ st h=>wpAny_pyIter_tupleiter st h
theorem anh{P:aZ}{w:World}{K:Fg9}{tg:Expr}(it:Addr)(lo:Int)(n:Nat):Turn P w K tg (Itr lo n) [it] it (fun i h=>IsRangeIter h it (lo+(i:Nat)*1) ((n:Int) - (i:Nat)) 1) where
 mem:=by simp
 obj:=fun i h st b hb=>by
  have e:b=it:=by simpa using hb
  subst e;exact⟨_,st,fun v z=>by
   have z':Data.fields _=Data.cell v:=z;cases z'⟩
 keep:=fun i h h' st k=>k it (by simp) _ st
 item:=by
  intro X hP hw hK hc i zv s σ H E I hf st hg;subst hP hw hK;obtain⟨f0,f1,f2,f3,f4,f5⟩:=hf it (by simp)
  have W:=Walks.range (prog:=X.prog) (w:=X.w) (I.ok.hd hc) it lo 1 n;refine W.item i s _ _ hg st fun v h' tk hv st' kk =>?_
  obtain⟨t,rfl⟩:=hv;have I1:Inv X zv σ H { s with heap:=h',toks:=tk }:=I.turned (fun b o hb e=>kk b o (by simpa using hb) e) f0 f1 f3 f4 f5
  refine⟨_,rfl,ax1 (s:={ s with heap:=h',toks:=tk }) (n := "range_iterator") st' rfl rfl (by decide) ⟨.int (lo+i),H,I1,⟨t,?_⟩,⟨rfl,rfl⟩,st',fun b hb=>(hf b hb).1⟩⟩
  rw[qY]
 done:=by
  intro X hP hw hK hc i zv s σ H E I hf st hg;subst hP hw hK;obtain⟨f0,f1,f2,f3,f4,f5⟩:=hf it (by simp)
  exact wpAny_pyNext_range_end (I.ok.hd hc) st (by have:n<=i:=hg;omega) fun h' eb=>⟨rfl,I.turned (t':=s.toks) (fun b o hb e=>eb b o hb e) f0 f1 f3 f4 f5⟩
 self:=fun _ _ _ _ _ st h=>wpAny_pyIter_rangeiter st h
section
variable{X:Cx}{tg:Expr}
def a65(K:Fg9)(tl:TE):TI:=fun σ H R=>tl σ H fun x H1=>∃a,x=.ref a/\(∃xs,SqL K H1 a xs)/\R (Itl K a) H1
def iTup(K:Fg9)(tl:TE):TI:=fun σ H R=>tl σ H fun x H1=>∃a,x=.ref a/\(∃xs,SqT K H1 a xs)/\R (Itt K a) H1
theorem ap0{l:Expr}{tl:TE}(hl:PE X l tl):PI X tg l (a65 X.K tl):=by
 intro zv s σ H R I h;refine thn (hl zv s σ H _ I h) fun v s1 ⟨x,H1,I1,r1,q1⟩ =>?_
 obtain⟨a,e,⟨xs,hq⟩,q⟩:=q1;subst e;cases r1;obtain⟨its,rv,p,hz⟩:=I1.list hq;refine wpAny_pyIter_list p.isList ?_;refine⟨s1.heap.objs.size,[s1.heap.objs.size],_,_,H1,rfl,I1.kept (t':=s1.toks) fun b o e=>aB _ e,apa a _,⟨_,aK _ rfl,rfl,rfl⟩,fun b hb =>?_,q⟩
 have e:b=s1.heap.objs.size:=by simpa using hb
 subst e;exact I1.fpOk (aM _) (I1.hok.fresh (aM _))
theorem a0f{l:Expr}{tl:TE}(hl:PE X l tl):PI X tg l (iTup X.K tl):=by
 intro zv s σ H R I h;refine thn (hl zv s σ H _ I h) fun v s1 ⟨x,H1,I1,r1,q1⟩ =>?_
 obtain⟨a,e,⟨xs,hq⟩,q⟩:=q1;subst e;cases r1;obtain⟨its,rv,p,hz⟩:=I1.tuple hq;refine wpAny_pyIter_tuple (show s1.heap.IsTuple a its.toArray from p) ?_
 refine⟨s1.heap.objs.size,[s1.heap.objs.size],_,_,H1,rfl,I1.kept (t':=s1.toks) fun b o e=>aB _ e,ang a _,⟨_,aK _ rfl,rfl,rfl⟩,fun b hb =>?_,q⟩
 have e:b=s1.heap.objs.size:=by simpa using hb
 subst e;exact I1.fpOk (aM _) (I1.hok.fresh (aM _))
theorem atf{zv:List (Addr×Obj)}{σ:St}{H:Hp}{s:aJ}{R:It->Hp->Prop}{E:Value->aJ->Prop}{lo hi:Int}{t u v:Tok}{tk:Nat}(I:Inv X zv σ H s)(h1 : -(2 ^ 62)<=lo)(h2:lo < 2 ^ 62)(h3 : -(2 ^ 62)<=hi)(h4:hi < 2 ^ 62)
  (q:R (Itr lo (hi - lo).toNat) H):wpAny (model X.prog X.w) X.A (pyIter (.ref s.heap.objs.size)) (PIE X zv σ tg R) E { s with heap:=s.heap.push { cls:=.type "range", data:=.fields #[.int lo t,.int hi u,.int 1 v] },toks:=tk }:=by
 refine wpAny_pyIter_range (IsRange.new ..) (small_one h1 h2 h3 h4) ?_;have I1:Inv X zv σ H { s with heap:=s.heap.push { cls:=.type "range", data:=.fields #[.int lo t,.int hi u,.int 1 v] },toks:=tk }:=I.kept fun b o e=>aB _ e
 refine⟨(s.heap.push { cls:=.type "range", data:=.fields #[.int lo t,.int hi u,.int 1 v] }).objs.size,[(s.heap.push { cls:=.type "range", data:=.fields #[.int lo t,.int hi u,.int 1 v] }).objs.size],_,_,H,rfl,
  I1.kept (t':=tk) fun b o e=>aB _ e,anh _ lo (hi - lo).toNat,?_,fun b hb =>?_,q⟩
 ·have e1:lo+((0:Nat):Int)*1=lo:=by simp
  have e2:(((hi - lo).toNat:Nat):Int) - ((0:Nat):Int)=Builtin.Range.rangeSize lo hi 1:=by rw[rangeSize_one];split <;> omega
  show IsRangeIter _ _ (lo+((0:Nat):Int)*1) ((((hi - lo).toNat:Nat):Int) - ((0:Nat):Int)) 1;rw[e1,e2];exact aK _ rfl
 ·have e:b=(s.heap.push { cls:=.type "range", data:=.fields #[.int lo t,.int hi u,.int 1 v] }).objs.size:=by simpa using hb
  subst e;exact I1.fpOk (aM _) (I1.hok.fresh (aM _))
def a6z(ta:TA):TI:=fun σ H R=>ta σ H fun vs H1=>∃j:Int,vs=[.int j] /\ -(2 ^ 62)<=j/\j < 2 ^ 62/\R (Itr 0 j.toNat) H1
theorem apz{a:Expr}{ta:TA}{p pos:Pos}(hg:Gl X "range")(hm:X.mg "range" = none)(ha:PA X [a] ta)(hs:aW [a] X.env=[(false,eval a X.env)]:=by rfl):PI X tg (.Call (.Name "range" p) [a] [] pos) (a6z ta):=by
 intro zv s σ H R I h;refine Call_ (af3 I hg hm boot_range (gH (thn (ha pos zv s σ H _ I h) fun us s1 ⟨vs,H1,I1,r1,q1⟩ =>?_) hs rfl))
 obtain⟨j,e,q1,q2,q⟩:=q1;subst e;cases r1 with
 | cons r rr =>
  cases rr;obtain⟨t,rfl⟩:=r;exact call_range_1 (atf I1 (by omega) (by omega) q1 q2 (by simpa using q))
def tFor(wi:TI)(g:TG)(tb:TS):TS:=fun D σ H=>wi σ H fun J H1=>∃W:Nat->Nat->St->Hp->Prop,(∃m,W 0 m σ H1)/\∀i m σ H,W i m σ H ->
 (J.stop i H/\D.nx σ H)∨(J.go i H/\∃N:St->Hp->Prop,(∀σ' H',N σ' H'->∃m',m' < m/\W (i+1) m' σ' H')/\∀x H',J.yld i H x H'->g x σ H' fun σ2 H2=>tb { D with nx:=N,ct:=N,bk:=D.nx } σ2 H2)
def ajf(fp:List Addr)(h:Heap):List (Addr×Obj):=fp.filterMap fun b=>(h.get? b).map fun o=>(b,o)
theorem ab7{fp:List Addr}{h:Heap}{b:Addr}{o:Obj}(hb:b∈fp)(e:h.get? b=some o):(b,o)∈ajf fp h:=uP.mpr ⟨b,hb,by rw[e];rfl⟩
theorem ap7{fp:List Addr}{h:Heap}{p:Addr×Obj}(hp:p∈ajf fp h):p.1∈fp/\h.get? p.1=some p.2:=by
 obtain⟨b,hb,e⟩:=uP.mp hp;cases q:h.get? b with
 | none=>rw[q] at e;cases e
 | some o =>
  rw[q] at e;have e':(b,o)=p:=bW e;subst e';exact⟨hb,q⟩
theorem Inv.pinned{zv:List (Addr×Obj)}{σ:St}{H:Hp}{s:aJ}{fp:List Addr}(I:Inv X zv σ H s)(hf:∀b∈fp,FpOk X zv H b)(ho:∀b∈fp,∃o,s.heap.get? b=some o/\∀v,o.data≠.cell v):Inv X (zv++ajf fp s.heap) σ H s :=
 I.pins_of fun p hp=>(cO.mp hp).elim (fun z=>I.pin p (cX _ z)) fun z=>by
  obtain⟨hb,e⟩:=ap7 z;obtain⟨f0,f1,f2,_⟩:=hf p.1 hb;obtain⟨o,e',d⟩:=ho p.1 hb;rw[e] at e';cases e';exact⟨e,f0,f1,f2,d⟩
theorem Inv.unpinned{zv pl:List (Addr×Obj)}{σ:St}{H:Hp}{s:aJ}(I:Inv X (zv++pl) σ H s):Inv X zv σ H s:=I.pins_of fun p hp=>I.pin p (cX _ (gR _ hp))
theorem a0d{iter:Expr}{body:List Stmt}{wi:TI}{g:TG}{tb:TS}{pos:Pos}(hp:tO (model X.prog X.w) X.A X.env X.xe)(hc:X.calm=true)(hi:PI X tg iter wi)(hg:PG X tg g)(hb:PSs X body tb)
  (hs:∀x,foldedSetIterable iter X.env x=pure x:=by intro _;rfl):PS X (.For tg iter body [] pos) (tFor wi g tb):=by
 intro zv s σ H D I h;refine wpAny_For (thn (hi zv s σ H _ I h) fun v s1 h1=>thn h1 fun itv s2 h2 =>?_) hs
 obtain⟨it,fp,tn,J,H2,e,I2,T,st2,f2,W,⟨m0,w0⟩,turn⟩:=h2;subst e;have stat:∀{H':Hp},(∀b∈fp,H' b=none)->∀b∈fp,FpOk X zv H' b:=fun hn b hb=>⟨hn b hb,(f2 b hb).2⟩
 refine codeAny_forLoop_any (fun n s'=>∃i σ' H',Inv X zv σ' H' s'/\tn i s'.heap/\(∀b∈fp,H' b=none)/\W i n σ' H') ?_ m0 ⟨0,σ,H2,I2,st2,fun b hb=>(f2 b hb).1,w0⟩
 rintro n s3 ⟨i,σ3,H3,I3,st3,fr3,w3⟩
 rcases turn i n σ3 H3 w3 with⟨stop,qn⟩ | ⟨go,N,hN,step⟩
 ·refine wpAny_passesOwn hp (thn (T.done X rfl rfl rfl hc i zv s3 σ3 H3 X.xe I3 (stat fr3) st3 stop) fun r s4 ⟨hr,I4⟩ =>?_)
  subst hr;exact wpAny_execs_nil ⟨σ3,H3,I4,qn⟩
 ·refine wpAny_passesOwn hp (thn (T.item X rfl rfl rfl hc i zv s3 σ3 H3 X.xe I3 (stat fr3) st3 go) fun r s4 ⟨u,hr,h4⟩ =>?_)
  subst hr;refine wpAny_passesOwn hp (thn h4 fun _ s5 ⟨x,H5,I5,r5,y5,st5,fr5⟩ =>?_)
  have I5':=I5.pinned (stat fr5) (T.obj _ _ st5);refine wpAny_passesOwn hp (thn (hg _ s5 σ3 H5 x u _ I5' r5 (step x H5 y5)) fun _ s6 ⟨σ6,H6,I6,q6⟩ =>?_)
  refine wpAny_passesOwn hp (thn (hb _ s6 σ6 H6 _ I6 q6) fun f s7 q7 =>?_)
  have again:∀{σ7:St} {H7:Hp},Inv X (zv++ajf fp s5.heap) σ7 H7 s7->N σ7 H7->∃m,m < n/\∃i σ' H',Inv X zv σ' H' s7/\tn i s7.heap/\(∀b∈fp,H' b=none)/\W i m σ' H':=fun{σ7 H7} I7 n7=>by
   obtain⟨m',hm,w7⟩:=hN σ7 H7 n7;refine⟨m',hm,i+1,σ7,H7,I7.unpinned,T.keep _ _ _ st5 fun b hb o e=>(I7.pin (b,o) (cX _ (cX _ (ab7 hb e)))).1,fun b hb =>?_,w7⟩
   obtain⟨o,e,d⟩:=T.obj _ _ st5 b hb;exact(I7.pin (b,o) (cX _ (cX _ (ab7 hb e)))).2.1
  cases f with
  | next=>obtain⟨σ7,H7,I7,n7⟩:=q7;exact again I7 n7
  | cont=>obtain⟨σ7,H7,I7,n7⟩:=q7;exact again I7 n7
  | brk=>obtain⟨σ7,H7,I7,q7⟩:=q7;exact⟨σ7,H7,I7.unpinned,q7⟩
  | ret v=>obtain⟨x7,σ7,H7,I7,r7,q7⟩:=q7;exact⟨x7,σ7,H7,I7.unpinned,r7,q7⟩
end
abbrev R2:=V->V->Hp->VK->Prop
def OpR(X:Cx)(f:Value->Value->Sem Value)(r:R2):Prop :=
 ∀(zv:List (Addr×Obj)) (s:aJ) (σ:St) (H:Hp) (x y:V) (v u:Value) (Q:VK),Inv X zv σ H s->RelV x v->RelV y u->r x y H Q ->
  wpAny (model X.prog X.w) X.A (f v u) (EP X zv σ Q) X.xe s
def UnR(X:Cx)(f:Value->Sem Value)(r:V->Hp->VK->Prop):Prop :=
 ∀(zv:List (Addr×Obj)) (s:aJ) (σ:St) (H:Hp) (x:V) (v:Value) (Q:VK),Inv X zv σ H s->RelV x v->r x H Q ->
  wpAny (model X.prog X.w) X.A (f v) (EP X zv σ Q) X.xe s
def zj(X:Cx)(f:Value)(r:List V->Hp->VK->Prop):Prop :=
 ∀(zv:List (Addr×Obj)) (s:aJ) (σ:St) (H:Hp) (xs:List V) (us:List Value) (Q:VK),Inv X zv σ H s->Vals xs us->r xs H Q ->
  wpAny (model X.prog X.w) X.A (call f us) (EP X zv σ Q) X.xe s
def tOp(r:R2)(ta tb:TE):TE:=fun σ H Q=>ta σ H fun x H1=>tb σ H1 fun y H2=>r x y H2 Q
def tUn(r:V->Hp->VK->Prop)(ta:TE):TE:=fun σ H Q=>ta σ H fun x H1=>r x H1 Q
def rI(C:Int->Int->Prop)(g:Int->Int->V):R2:=fun x y H Q=>∃i j,x=.int i/\y=.int j/\C i j/\Q (g i j) H
def rI0(g:Int->Int->V):R2:=fun x y H Q=>∃i j,x=.int i/\y=.int j/\Q (g i j) H
def rU(g:Int->V):V->Hp->VK->Prop:=fun x H Q=>∃i,x=.int i/\Q (g i) H
section
variable{X:Cx}{a b c:Expr}{ta tb tc:TE}{pos:Pos}
theorem binT(ha:PE X a ta)(hb:PE X b tb){zv:List (Addr×Obj)}{s:aJ}{σ:St}{H:Hp}{R:V->V->Hp->Prop}(I:Inv X zv σ H s)
  (h:ta σ H fun x H1=>tb σ H1 fun y H2=>R x y H2) {Q:Value->aJ->Prop} {f:Value->Value->Sem Value}
  (hf:∀v u s2 x y H2,Inv X zv σ H2 s2->RelV x v->RelV y u->R x y H2->wpAny (model X.prog X.w) X.A (f v u) Q X.xe s2) :
  wpAny (model X.prog X.w) X.A (eval a X.env) (fun v s₁=>wpAny (model X.prog X.w) X.A (eval b X.env) (fun u s₂=>wpAny (model X.prog X.w) X.A (f v u) Q X.xe s₂) X.xe s₁) X.xe s:=by
 refine thn (ha zv s σ H _ I h) fun v s1 ⟨x,H1,I1,r1,q1⟩ =>?_
 refine thn (hb zv s1 σ H1 _ I1 q1) fun u s2 ⟨y,H2,I2,r2,q2⟩ =>?_
 exact hf v u s2 x y H2 I2 r1 r2 q2
theorem a5k{op:Operator}{r:R2}(ho:OpR X (fQ op) r)(ha:PE X a ta)(hb:PE X b tb):PE X (.BinOp a op b pos) (tOp r ta tb):=by
 intro zv s σ H Q I h;exact wpAny_BinOp (binT ha hb I h fun v u s2 x y H2 I2 rx ry q=>ho zv s2 σ H2 x y v u Q I2 rx ry q)
theorem a5j{op:UnaryOp}{r:V->Hp->VK->Prop}(ho:UnR X (unaryOp op) r)(ha:PE X a ta):PE X (.UnaryOp op a pos) (tUn r ta):=by
 intro zv s σ H Q I h;exact UnaryOp_ (thn (ha zv s σ H _ I h) fun v s1 ⟨x,H1,I1,r1,q1⟩=>ho zv s1 σ H1 x v Q I1 r1 q1)
theorem opI{f:Value->Value->Sem Value}{C:Int->Int->Prop}{g:Int->Int->Int}
  (rule:∀(i j:Int) (t u:Tok) (s:aJ) (Q:Value->aJ->Prop) (E:Value->aJ->Prop),C i j->Q (.int (g i j) s.toks) { s with toks:=s.toks+1 }->wpAny (model X.prog X.w) X.A (f (.int i t) (.int j u)) Q E s) :
  OpR X f (rI C fun i j=>.int (g i j)):=by
 intro zv s σ H x y v u Q I rx ry h;obtain⟨i,j,rfl,rfl,hc,q⟩:=h;obtain⟨t,rfl⟩:=rx;obtain⟨t',rfl⟩:=ry;exact rule i j t t' s _ _ hc ⟨.int (g i j),H,I.tok _,⟨_,rfl⟩,q⟩
theorem opI0{f:Value->Value->Sem Value}{g:Int->Int->Int}
  (rule:∀(i j:Int) (t u:Tok) (s:aJ) (Q:Value->aJ->Prop) (E:Value->aJ->Prop),Q (.int (g i j) s.toks) { s with toks:=s.toks+1 }->wpAny (model X.prog X.w) X.A (f (.int i t) (.int j u)) Q E s) :
  OpR X f (rI0 fun i j=>.int (g i j)):=by
 intro zv s σ H x y v u Q I rx ry h;obtain⟨i,j,rfl,rfl,q⟩:=h;obtain⟨t,rfl⟩:=rx;obtain⟨t',rfl⟩:=ry;exact rule i j t t' s _ _ ⟨.int (g i j),H,I.tok _,⟨_,rfl⟩,q⟩
theorem opB0{f:Value->Value->Sem Value}{g:Int->Int->Bool}
  (rule:∀(i j:Int) (t u:Tok) (s:aJ) (Q:Value->aJ->Prop) (E:Value->aJ->Prop),Q (.bool (g i j)) s->wpAny (model X.prog X.w) X.A (f (.int i t) (.int j u)) Q E s) :
  OpR X f (rI0 fun i j=>.bl (g i j)):=by
 intro zv s σ H x y v u Q I rx ry h;obtain⟨i,j,rfl,rfl,q⟩:=h;obtain⟨t,rfl⟩:=rx;obtain⟨t',rfl⟩:=ry;exact rule i j t t' s _ _ ⟨.bl (g i j),H,I,rfl,q⟩
def CPow(i j:Int):Prop:=0<=j/\j<=1000000/\i.natAbs < 2 ^ 64
def CMul(i j:Int):Prop:=(-(2 ^ 64) < i/\i < 2 ^ 64)∨(-(2 ^ 64) < j/\j < 2 ^ 64)
theorem CMul.ok{i j:Int}(h:CMul i j):IntMulOk i j:=by
 rcases h with⟨h1,h2⟩ | ⟨h1,h2⟩
 ·exact .of_left (intBits_le_64 h1 h2)
 ·exact .of_right (intBits_le_64 h1 h2)
theorem a0u:OpR X (fQ .Add) (rI0 fun i j=>.int (i+j)):=opI0 fun _ _ _ _ _ _ _ q=>add_int q
theorem a0o:OpR X (fQ .Sub) (rI0 fun i j=>.int (i - j)):=opI0 fun _ _ _ _ _ _ _ q=>sub_int q
theorem a0r:OpR X (fQ .Mult) (rI CMul fun i j=>.int (i*j)):=opI fun _ _ _ _ _ _ _ hc q=>mul_int q hc.ok
theorem a0s:OpR X (fQ .Mod) (rI (fun _ j=>0 < j) fun i j=>.int (i % j)):=opI fun i j _ _ _ _ _ hc q=>by
 have h1:(0:Int) < j:=hc;exact mod_int' (by omega) (by rw[rF i (by omega)];exact q)
theorem a0q:OpR X (fQ .Pow) (rI CPow fun i j=>.int (i ^ j.toNat)):=opI fun _ _ _ _ _ _ _ hc q=>pow_int_small hc.1 hc.2.1 hc.2.2 q
theorem unI{f:Value->Sem Value}{g:Int->Int}
  (rule:∀(i:Int) (t:Tok) (s:aJ) (Q:Value->aJ->Prop) (E:Value->aJ->Prop),Q (.int (g i) s.toks) { s with toks:=s.toks+1 }->wpAny (model X.prog X.w) X.A (f (.int i t)) Q E s) :
  UnR X f (rU fun i=>.int (g i)):=by
 intro zv s σ H x v Q I rx h;obtain⟨i,rfl,q⟩:=h;obtain⟨t,rfl⟩:=rx;exact rule i t s _ _ ⟨.int (g i),H,I.tok _,⟨_,rfl⟩,q⟩
theorem azl:UnR X (unaryOp .USub) (rU fun i=>.int (-i)):=unI fun _ _ _ _ _ q=>neg_int q
end
section
variable{X:Cx}{a b c:Expr}{ta tb tc:TE}{pos:Pos}
theorem a5o:OpR X (fJ .Lt) (rI0 fun i j=>.bl (decide (i < j))):=opB0 fun _ _ _ _ _ _ _ q=>lt_int q
theorem atr:OpR X (fJ .LtE) (rI0 fun i j=>.bl (decide (i<=j))):=opB0 fun _ _ _ _ _ _ _ q=>le_int q
theorem a5p:OpR X (fJ .Gt) (rI0 fun i j=>.bl (decide (j < i))):=opB0 fun _ _ _ _ _ _ _ q=>gt_int q
theorem a5q:OpR X (fJ .GtE) (rI0 fun i j=>.bl (decide (j<=i))):=opB0 fun _ _ _ _ _ _ _ q=>ge_int q
theorem OpR.or{f:Value->Value->Sem Value}{r r':R2}(h:OpR X f r)(h':OpR X f r'):OpR X f (fun x y H Q=>r x y H Q∨r' x y H Q):=by
 intro zv s σ H x y v u Q I rx ry q;rcases q with q | q
 ·exact h zv s σ H x y v u Q I rx ry q
 ·exact h' zv s σ H x y v u Q I rx ry q
theorem my(b:Expr){op:CmpOp}(h:op≠.In:=by decide)(h2:op≠.NotIn:=by decide):behindInMarks op b=false:=by
 have e1:(op==CmpOp.In)=false:=by cases op <;> first | rfl | exact absurd rfl h
 have e2:(op==CmpOp.NotIn)=false:=by cases op <;> first | rfl | exact absurd rfl h2
 cases b <;> simp[behindInMarks,e1,e2]
theorem axa{op:CmpOp}{r:R2}(ho:OpR X (fJ op) r)(ha:PE X a ta)(hb:PE X b tb)(hm:behindInMarks op b=false):PE X (.Compare a [op] [b] pos) (tOp r ta tb):=by
 intro zv s σ H Q I h;exact wpAny_Compare1 (binT ha hb I h fun v u s2 x y H2 I2 rx ry q=>ho zv s2 σ H2 x y v u Q I2 rx ry q) hm
def a4r(t:TE):TT:=fun σ H Q=>t σ H fun x H'=>∃k,x=.bl k/\Q k H'
theorem awt{op:CmpOp}{r:R2}(ho:OpR X (fJ op) r)(ha:PE X a ta)(hb:PE X b tb)(hm:behindInMarks op b=false):PT X (.Compare a [op] [b] pos) (a4r (tOp r ta tb)):=by
 intro zv s σ H Q I h;refine wpAny_isTrue_Compare1 (thn (ha zv s σ H _ I h) fun v s1 ⟨x,H1,I1,r1,q1⟩=>thn (hb zv s1 σ H1 _ I1 q1) fun u s2 ⟨y,H2,I2,r2,q2⟩ =>
  thn (ho zv s2 σ H2 x y v u _ I2 r1 r2 q2) fun c s3 ⟨z,H3,I3,r3,k,e,q3⟩ =>?_) hm
 subst e;cases r3;exact wpAny_truthy_bool ⟨H3,I3,q3⟩
def au7(r r':R2)(ta tb tc:TE):TE:=fun σ H Q=>ta σ H fun x H1=>tb σ H1 fun y H2=>r x y H2 fun z H3=>∃k,z=.bl k /\
 (if k=true then tc σ H3 fun w' H4=>r' y w' H4 Q else Q (.bl false) H3)
theorem atn{op op':CmpOp}{r r':R2}(ho:OpR X (fJ op) r)(ho':OpR X (fJ op') r')(ha:PE X a ta)(hb:PE X b tb)(hc:PE X c tc)
  (hm:lastMarks [op,op'] [b,c]=false:=by with_unfolding_all rfl):PE X (.Compare a [op,op'] [b,c] pos) (au7 r r' ta tb tc):=by
 intro zv s σ H Q I h;refine Compare_chain (thn (ha zv s σ H _ I h) fun v s1 ⟨x,H1,I1,r1,q1⟩=>chain_link (thn (hb zv s1 σ H1 _ I1 q1) fun u s2 ⟨y,H2,I2,r2,q2⟩ =>
  thn (ho zv s2 σ H2 x y v u _ I2 r1 r2 q2) fun d s3 ⟨z,H3,I3,r3,k,e,q3⟩ =>?_)) hm
 subst e;cases r3;refine wpAny_truthy_bool ?_;cases k with
 | false=>exact ite_ff ⟨.bl false,H3,I3,rfl,q3⟩
 | true=>exact ite_tt (chain_last (thn (hc zv s3 σ H3 _ I3 q3) fun w' s4 ⟨z',H4,I4,r4,q4⟩=>ho' zv s4 σ H4 y z' u w' Q I4 r2 r4 q4))
theorem aju:(cD:Nat) < 2 ^ 63:=by rw[gQ];decide
theorem anw:OpR X (fQ .Add) (fun x y H Q=>∃i j,x=.str i/\y=.str j/\i.length+j.length<=cD/\Q (.str (i++j)) H):=by
 intro zv s σ H x y v u Q I rx ry h;obtain⟨i,j,rfl,rfl,hz,q⟩:=h;obtain⟨t,rfl⟩:=rx;obtain⟨t',rfl⟩:=ry;exact add_str (fun t' tk=>⟨.str (i++j),H,I.tok _,⟨_,rfl⟩,q⟩) hz
theorem vals1{x:V}{us:List Value}(r:Vals [x] us):∃u,us=[u]/\RelV x u:=by
 cases r with
 | cons r1 r2=>cases r2;exact⟨_,rfl,r1⟩
theorem vals2{x y:V}{us:List Value}(r:Vals [x,y] us):∃u w',us=[u,w']/\RelV x u/\RelV y w':=by
 cases r with
 | cons r1 r2 =>
  cases r2 with
  | cons r3 r4=>cases r4;exact⟨_,_,rfl,r1,r3⟩
theorem ar3(hc:X.calm=true):zj X (.builtin "max") (fun xs H Q=>∃i j,xs=[.int i,.int j]/\Q (.int (if j > i then j else i)) H):=by
 intro zv s σ H xs us Q I r h;obtain⟨i,j,rfl,q⟩:=h;obtain⟨u,w',rfl,⟨t,rfl⟩,⟨t',rfl⟩⟩:=vals2 r;refine max_two_ints (I.ok.hd hc) fun h' tk k=>⟨_,H,I.kept k,?_,q⟩
 by_cases hj:j > i
 ·rw[if_pos hj,if_pos hj];exact⟨_,rfl⟩
 ·rw[if_neg hj,if_neg hj];exact⟨_,rfl⟩
theorem akg:zj X (.type "int") (fun xs H Q=>(∃i,xs=[.int i]/\Q (.int i) H)∨∃k,xs=[.bl k]/\Q (.int (if k then 1 else 0)) H):=by
 intro zv s σ H xs us Q I r h;rcases h with⟨i,rfl,q⟩ | ⟨k,rfl,q⟩
 ·obtain⟨u,rfl,t,rfl⟩:=vals1 r;exact call_int_int ⟨.int i,H,I,⟨_,rfl⟩,q⟩
 ·obtain⟨u,rfl,r1⟩:=vals1 r;cases r1;exact call_int_bool ⟨.int (if k then 1 else 0),H,I.tok _,⟨_,rfl⟩,q⟩
end
structure ObjM (h:Heap) (x dx C:Addr) (mA:Str->Option Value):Prop where
 obj:h.get? x=some (gU C dx)
 ns:h.Ns1 dx mA
 ne:dx≠x
theorem aqg{h:Heap}{dx:Addr}{mA:Str->Option Value}(n:h.Ns1 dx mA):∃od,h.get? dx=some od/\∀name,oK name od=some (mA name):=by
 obtain⟨o,es,ep,ho,hd,hk,_,hm⟩:=n;refine⟨o,ho,fun name =>?_⟩
 have e:=hm name;unfold nsFind findBy at e;rw[<-Array.find?_toList] at e;unfold oK;rw[hd];dsimp only;split
 ·rename_i y q;rw[q] at e;exact congrArg some e
 ·rename_i q;rw[q] at e;have a:es.toList.any (·.refKey)=false:=by
   rw[List.any_eq_false];intro y hy;obtain⟨z,t,hkey⟩:=hk y (Array.mem_toList_iff.mp hy);simp[DictEntry.refKey,hkey]
  have a':¬es.toList.any (·.refKey)=true:=by rw[a];exact dX
  rw[if_neg a'];exact congrArg some e
theorem ObjM.look{h:Heap}{x dx C:Addr}{mA:Str->Option Value}(I:ObjM h x dx C mA):∃od,lR h x (gU C dx) C (some od)/\∀name,oK name od=some (mA name) :=
 let ⟨od,ho,hl⟩:=aqg I.ns
 ⟨od,⟨I.obj,rfl,rfl,ho⟩,hl⟩
section
variable{prog:aZ}{w:World}{A:cI}{E:Value->aJ->Prop}{s:aJ}{K:Fg9}{x dx C f:Addr}{mA:Str->Option Value}{name:Str}{v:Value}
theorem ax2{expr:Bool}{Q:Value->aJ->Prop}(X:K.In s.heap)(I:ObjM s.heap x dx C mA)(hg:kJ K C name=true)(hh:jV K C=true)
  (ha:jJ K (.ref C) name=some none) (hv:mA name=some v) (hv':vU v=true) (h:Q v { s with toks:=s.toks+1 }) :
  wpAny (model prog w) A (getAttr (.ref x) name expr) Q E s:=by
 obtain⟨od,J,hl⟩:=I.look;exact PySem.W.get_value X J (oU hg).1 (PySem.W.findObj_own hh ha rfl (by rw[hl,hv])) hv' h
theorem auk{pl:Sem Bool}{Q:Value×List Value->aJ->Prop}(X:K.In s.heap)(I:ObjM s.heap x dx C mA)(hg:kJ K C name=true)
  (hf:jJ K (.ref C) name=some (some (.ref f))) (ht:jZ K (.ref f)=true) (hv:mA name=none) (h:Q (.ref f,[.ref x]) s) :
  wpAny (model prog w) A (getMethod (.ref x) name pl) Q E s:=by
 obtain⟨od,J,hl⟩:=I.look;exact PySem.W.method_fn X J (oU hg).1 (oU hg).2 hf (beq_iff_eq.mp ht) (by show(oK name od).map (·.isSome)=some false;rw[hl,hv];rfl) h
theorem awo{ns:List Str}{Q:Unit->aJ->Prop}(X:K.In s.heap)(I:ObjM s.heap x dx C mA)
  (hs:jJ K (.ref C) "__setattr__" = some (some (.builtin "object.__setattr__"))) (hp:pM K C=true) (ht:nJ K C name=some none) (hh:jV K C=true)
  (hw:tM mA ns) (hsz:ns.length<=cD)
  (h:∀h',ObjM h' x dx C (fun y=>if y=name then some v else mA y)->cH dx s.heap h'->Q () { s with heap:=h',toks:=s.toks+2 }) :
  wpAny (model prog w) A (setAttr (.ref x) name v) Q E s:=by
 obtain⟨od,J,hl⟩:=I.look;refine PySem.W.set_plain X J hs (PySem.W.osa_open (s:={ s with toks:=s.toks+1 }) (r:=none) X J hp ht fun b =>?_)
 obtain⟨cd,hc,hd'⟩:=mX hh;have hx:s.heap.get? x=some ⟨.ref C,some dx,.plain,#[]⟩:=I.obj;refine aA (aH (aA (aA (wpAny_loadPart hx (aA (PySem.W.Looks.here (s:={ s with toks:=s.toks+1 }) (PySem.W.looks_clsIn X hc) ?_))))))
 rw[hd'];refine aH (a:=some dx) (aA (aH (aA ?_)));refine wpAny_nsSet1 (s:={ s with toks:=s.toks+1 }) I.ns fun h' hn2 hs2 =>?_
 obtain⟨oD,esD,epD,hoD,hdD,hcD⟩:=hn2.count (PySem.Within.cons name v hw);refine aA (wpAny_lookBehind hoD (by rw[hdD];exact pastItsLine_dict (cF hcD (by rw[bO];omega))) ?_)
 exact aH (h _ ⟨(hs2.2 _ (iI I.ne)).trans I.obj,hn2,I.ne⟩ hs2)
theorem at3{R:Result->aJ->Prop}{vs:List Value}{kw:List (Str×Value)}(X:K.In s.heap)(hm:nM K C=true)
  (hi:jJ K (.ref C) "__init__" = some (some (.ref f))) (hf:rN K (.ref f)=some (.type "function"))
  (h:mK (model prog w) (A.under (.builtin "type.__call__" ⟨.ref C::vs,kw⟩)) (.call (.ref f) ⟨.ref (s.heap.objs.size+1)::vs,kw⟩) (PySem.W.InitBack (s.heap.objs.size+1) R)
   { s with heap:=(s.heap.push gF).push (gU C s.heap.objs.size) }) :
  mK (model prog w) A (.call (.ref C) ⟨vs,kw⟩) R s:=by
 obtain⟨hh,g,d,t,os⟩:=s;exact PySem.W.make_core (PySem.W.makes_of X hm) (oF X hi) (fun self=>PySem.W.bind_fn X self hf) (.inl rfl) h
end
def putF(f:Str)(v:V):List (Str×V)->List (Str×V)
 | []=>[(f,v)]
 | (g,x)::r=>if g=f then (g,v)::r else (g,x)::putF f v r
theorem af0(f g:Str)(v:V):∀fs:List (Str×V),(putF f v fs).lookup g=if g=f then some v else fs.lookup g
 | []=>by
  show bK g [(f,v)]=_
  by_cases h:g=f
  ·have hb:(g==f)=true:=beq_iff_eq.mpr h;simp only[bK,hb,if_pos h]
  ·have hb:(g==f)=false:=beq_eq_false_iff_ne.mpr h;simp only[bK,hb,if_neg h]
 | (k,x)::r=>by
  have ih:=af0 f g v r;rw[show putF f v ((k,x)::r)=(if k=f then (k,v)::r else (k,x)::putF f v r) from rfl]
  by_cases hk:k=f
  ·rw[if_pos hk]
   by_cases h:g=k
   ·have hb:(g==k)=true:=beq_iff_eq.mpr h;simp only[bK,hb,if_pos (h.trans hk)]
   ·have hb:(g==k)=false:=beq_eq_false_iff_ne.mpr h;simp only[bK,hb,if_neg (fun e:g=f=>h (e.trans hk.symm))]
  ·rw[if_neg hk]
   by_cases h:g=k
   ·have hb:(g==k)=true:=beq_iff_eq.mpr h;simp only[bK,hb,if_neg (fun e:g=f=>hk (h.symm.trans e))]
   ·have hb:(g==k)=false:=beq_eq_false_iff_ne.mpr h;simp only[bK,hb];exact ih
theorem af4(f:Str)(v:V):∀fs:List (Str×V),f∈(putF f v fs).map (·.1)/\∀g,g∈fs.map (·.1)->g∈(putF f v fs).map (·.1)
 | []=>⟨by simp[putF],fun g h=>by simp at h⟩
 | (k,x)::r=>by
  obtain⟨i1,i2⟩:=af4 f v r;rw[show putF f v ((k,x)::r)=(if k=f then (k,v)::r else (k,x)::putF f v r) from rfl]
  by_cases hk:k=f
  ·rw[if_pos hk];subst hk;exact⟨by simp,fun g h=>by simpa using h⟩
  ·rw[if_neg hk];refine⟨?_,fun g h =>?_⟩
   ·rw[aU];exact aL _ i1
   ·rw[aU] at h ⊢
    rcases aY.mp h with e | e
    ·exact aY.mpr (.inl e)
    ·exact aL _ (i2 g e)
theorem af1(f:Str)(v:V):∀fs:List (Str×V),(putF f v fs).length<=fs.length+1
 | []=>by simp[putF]
 | (k,x)::r=>by
  have ih:=af1 f v r;rw[show putF f v ((k,x)::r)=(if k=f then (k,v)::r else (k,x)::putF f v r) from rfl]
  by_cases hk:k=f
  ·rw[if_pos hk,bO,bO];omega
  ·rw[if_neg hk,bO,bO];omega
theorem RelO.some_of{v:V}{o:Option Value}(r:RelO (some v) o):∃u,o=some u/\RelV v u:=by
 cases o with
 | none=>exact(show False from r).elim
 | some u=>exact⟨u,rfl,r⟩
theorem RelO.none_of{o:Option Value}(r:RelO none o):o=none:=by
 cases o with
 | none=>rfl
 | some u=>exact(show False from r).elim
theorem aqr{v:V}{u:Value}(r:RelV v u):vU u=true:=by
 cases v with
 | non=>cases(show u=gA from r);rfl
 | bl b=>cases(show u=pL b from r);rfl
 | int i=>obtain⟨t,e⟩:=(show ∃t,u=lZ i t from r);cases e;rfl
 | str x=>obtain⟨t,e⟩:=(show ∃t,u=tL x t from r);cases e;rfl
 | byt b=>obtain⟨t,e⟩:=(show ∃t,u=Value.bytes b t from r);cases e;rfl
 | flt b=>obtain⟨t,e⟩:=(show ∃t,u=uG b t from r);cases e;rfl
 | ref a=>cases(show u=dN a from r);rfl
 | ty n=>cases(show u=iV n from r);rfl
section
variable{P:aZ}{w:World}{H H':Hp}{h h':Heap}{a C dx:Addr}{fs fs':List (Str×V)}
theorem aih(hok:HOk P w H h)(e:H a=some (.ins C dx fs)):∃mA,ObjM h a dx C mA/\(∀f,RelO (fs.lookup f) (mA f))/\tM mA (fs.map (·.1))/\fs.length<=1000/\H dx=some (.own a):=by
 obtain⟨d,z,ne,ob,mA,n,r,q⟩:=(show ym P w H h a (.ins C dx fs) from hok a _ e)
 exact⟨mA,⟨ob,n,ne⟩,r,q,z,d⟩
end
structure Cls (K:Fg9) (C:Addr):Prop where
 pg:kJ K C Str.empty=true
 hd:jV K C=true
 po:pM K C=true
 sa:jJ K (.ref C) "__setattr__" = some (some (.builtin "object.__setattr__"))
theorem Cls.get{K:Fg9}{C:Addr}(c:Cls K C)(f:Str):kJ K C f=true:=c.pg
def acu(K:Fg9)(C:Addr)(f:Str):Prop:=jJ K (.ref C) f=some none
theorem acu.taker{K:Fg9}{C:Addr}{f:Str}(n:acu K C f):nJ K C f=some none:=by
 unfold nJ;rw[show jJ K (.ref C) f=some none from n]
 rfl
structure Con (K:Fg9) (C:Addr) (f:Str) (v:V) (u:Value):Prop where
 at_:jJ K (.ref C) f=some (some u)
 rel:RelV v u
 get:mD K u "__get__" = some none
 cp:PySem.W.copiedNames.contains f=false
structure Meth (K:Fg9) (C:Addr) (m:Str) (f:Addr):Prop where
 at_:jJ K (.ref C) m=some (some (.ref f))
 fn:jZ K (.ref f)=true
 kp:eQ K (.ref f)=true
section
variable{X:Cx}{zv:List (Addr×Obj)}{σ:St}{H:Hp}{s:aJ}{a C dx:Addr}{fs:List (Str×V)}{f:Str}{v:V}{A:cI}{E:Value->aJ->Prop}
theorem aop{b:Bool}{Q:Value->aJ->Prop}(I:Inv X zv σ H s)(e:H a=some (.ins C dx fs))(c:Cls X.K C)(n:acu X.K C f)(l:fs.lookup f=some v)
  (h:∀u s',Inv X zv σ H s'->RelV v u->Q u s'):wpAny (model X.prog X.w) A (getAttr (.ref a) f b) Q E s:=by
 obtain⟨mA,O,r,_,_,_⟩:=aih I.hok e;obtain⟨u,hu,ru⟩:=RelO.some_of (v:=v) (o:=mA f) (by rw[<-l];exact r f)
 exact ax2 I.kIn O (c.get f) c.hd n hu (aqr ru) (h u _ (I.tok _) ru)
theorem aoo{m:Str}{g:Addr}{pl:Sem Bool}{Q:Value×List Value->aJ->Prop}(I:Inv X zv σ H s)(e:H a=some (.ins C dx fs))(c:Cls X.K C)(k:Meth X.K C m g)(l:fs.lookup m=none)
  (h:Q (.ref g,[.ref a]) s):wpAny (model X.prog X.w) A (getMethod (.ref a) m pl) Q E s:=by
 obtain⟨mA,O,r,_,_,_⟩:=aih I.hok e;have hn:mA m=none:=RelO.none_of (by rw[<-l];exact r m)
 exact auk I.kIn O (c.get m) k.at_ k.fn hn h
theorem anm{y:V}{u:Value}{Q:Unit->aJ->Prop}(I:Inv X zv σ H s)(e:H a=some (.ins C dx fs))(c:Cls X.K C)(n:acu X.K C f)(hl:fs.length < 1000)(ry:RelV y u)
  (h:∀s',Inv X zv σ (upd H a (.ins C dx (putF f y fs))) s'->Q () s'):wpAny (model X.prog X.w) A (setAttr (.ref a) f u) Q E s:=by
 obtain⟨mA,O,r,wi,_,ho⟩:=aih I.hok e;have hz:(fs.map (·.1)).length<=cD:=by rw[aF,gQ];omega
 refine awo I.kIn O c.sa c.po n.taker c.hd wi hz fun h' O' sb=>h _ ?_
 have hd:∃o,h'.get? dx=some o:=let ⟨o,_,_,e',_⟩:=O'.ns;⟨o,e'⟩
 refine I.write (x:=a) (e:=dx) (by rw[e];exact mC) (.inr ho) (fun b q hb z=>(sb.2 b hb).trans z) hd ?_
 refine⟨by rw[di O.ne];exact ho,?_,O.ne,O'.obj,_,O'.ns,fun g =>?_,fun g hg =>?_⟩
 ·have:=af1 f y fs;omega
 ·show RelO ((putF f y fs).lookup g) (if g=f then some u else mA g)
  rw[af0]
  by_cases q:g=f
  ·rw[if_pos q,if_pos q];exact ry
  ·rw[if_neg q,if_neg q];exact r g
 ·by_cases q:g=f
  ·rw[q];exact(af4 f y fs).1
  ·refine(af4 f y fs).2 g (wi g fun z=>hg ?_)
   show(if g=f then some u else mA g)=none
   rw[if_neg q];exact z
theorem Inv.made(I:Inv X zv σ H s):Inv X zv σ (upd (upd H s.heap.objs.size (.own (s.heap.objs.size+1))) (s.heap.objs.size+1) (.ins C s.heap.objs.size []))
  { s with heap:=(s.heap.push gF).push (gU C s.heap.objs.size) }:=by
 have e1:(s.heap.push gF).get? s.heap.objs.size=some gF:=aK s.heap rfl;have e2:((s.heap.push gF).push (gU C s.heap.objs.size)).get? (s.heap.objs.size+1)=some (gU C s.heap.objs.size):=by
  have:=aK (s.heap.push gF) (o:=gU C s.heap.objs.size) rfl;rwa[bJ] at this
 have e3:(s.heap.push gF).Ns s.heap.objs.size (fun _=>none):=⟨PySem.W.emptyDict,#[],_,e1,rfl,(fun e he=>absurd he (by simp)),fun _=>rfl⟩
 have I1:=I.laid (a:=s.heap.objs.size) (o:=.own (s.heap.objs.size+1)) (h':=s.heap.push gF) (t':=s.toks) (fun b u q=>aB _ q) (aM _) ⟨_,e1⟩
 refine I1.laid (a:=s.heap.objs.size+1) (o:=.ins C s.heap.objs.size []) (t':=s.toks) (fun b u q=>aB _ q) (lK (bJ _ _)) ?_
 have ne:s.heap.objs.size≠s.heap.objs.size+1:=bD (gM _);refine⟨by rw[di ne,je],dI _,ne,e2,fun _=>none,(Heap.Ns1.of_empty e3).at fun o q=>aB _ q,fun _=>mC,fun y hy=>absurd rfl hy⟩
theorem ay5{prog:aZ}{w:World}{env:Env}{e:Expr}{f:Str}{pos:Pos}{s:aJ}{Q:Value->aJ->Prop}(hb:gC e f env (eval e env)=eval e env)
  (h:wpAny (model prog w) A (eval e env) (fun o s₁=>wpAny (model prog w) A (getAttr o f true) Q E s₁) E s):wpAny (model prog w) A (eval (.Attribute e f pos) env) Q E s :=
 Attribute_any_ h (by rw[arm_eval_Attribute,hb])
end
def tFld(K:Fg9)(ta:TE)(f:Str):TE:=fun σ H Q=>ta σ H fun x H1=>∃a C dx fs v,x=.ref a/\H1 a=some (.ins C dx fs)/\Cls K C/\acu K C f/\fs.lookup f=some v/\Q v H1
def sFld(K:Fg9)(ta tv:TE)(f:Str):TS:=fun D σ H=>tv σ H fun y H1=>ta σ H1 fun x H2=>∃a C dx fs,x=.ref a/\H2 a=some (.ins C dx fs)/\Cls K C/\acu K C f/\fs.length < 1000 /\
 D.nx σ (upd H2 a (.ins C dx (putF f y fs)))
section
variable{X:Cx}{o e value:Expr}{f:Str}{pos pos' tpos:Pos}{ta tv:TE}
theorem a0m(he:PE X e ta)(hb:gC e f X.env (eval e X.env)=eval e X.env):PE X (.Attribute e f pos) (tFld X.K ta f):=by
 intro zv s σ H Q I h;refine ay5 hb (thn (he zv s σ H _ I h) fun u s1 ⟨x,H1,I1,rx,a,C,dx,fs,v,ex,ea,c,n,l,q⟩ =>?_)
 subst ex;obtain rfl:u=dN a:=rx;exact aop I1 ea c n l fun u' s2 I2 ru=>⟨v,H1,I2,ru,q⟩
theorem a0e(ha:PE X o ta)(hv:PE X value tv)(hs:lB value (some (.Attribute o f pos')) pos.line X.env=pure false):PS X (.Assign [.Attribute o f pos'] value pos) (sFld X.K ta tv f):=by
 intro zv s σ H D I h;refine plainObj_wpAny_Assign_Attribute (thn (hv zv s σ H _ I h) fun u s1 ⟨y,H1,I1,ry,q⟩=>thn (ha zv s1 σ H1 _ I1 q) fun ov s2 ⟨x,H2,I2,rx,a,C,dx,fs,ex,ea,c,n,l,q2⟩ =>?_) hs
 subst ex;obtain rfl:ov=dN a:=rx;exact anm I2 ea c n l ry fun s3 I3=>⟨σ,_,I3,q2⟩
end
section
variable{X:Cx}{zv:List (Addr×Obj)}{σ:St}{H:Hp}{s:aJ}{A:cI}{E:Value->aJ->Prop}{Q:Value->aJ->Prop}{c:Value}{b:Bool}
inductive TyOf (K:Fg9) (H:Hp):V->Value->Prop where
 | non:TyOf K H .non (.type "NoneType")
 | bl (x:Bool):TyOf K H (.bl x) (.type "bool")
 | int (i:Int):TyOf K H (.int i) (.type "int")
 | str (x:Str):TyOf K H (.str x) (.type "str")
 | flt (x:UInt64):TyOf K H (.flt x) (.type "float")
 | lst {a:Addr} {xs:List V} (e:H a=some (.lst xs)):TyOf K H (.ref a) (.type "list")
 | frz {a:Addr} {o:Obj} {xs:List V} (e:H a=some (.frz o (.lst xs))):TyOf K H (.ref a) (.type "list")
 | tup {a:Addr} {xs:List V} (e:H a=some (.tup xs)):TyOf K H (.ref a) (.type "tuple")
 | dK {a:Addr} {kvs:List (Key×V)} (e:H a=some (.dK kvs)):TyOf K H (.ref a) (.type "dict")
 | dT {a:Addr} {kvs:List (List Key×V)} (e:H a=some (.dT kvs)):TyOf K H (.ref a) (.type "dict")
 | ins {a C dx:Addr} {fs:List (Str×V)} (e:H a=some (.ins C dx fs)) (cl:Cls K C) (ha:jJ K (.ref C) "__class__" = some (some (.builtin "object.__class__")))
   (hn:mD K (.builtin "object.__class__") "__get__" = some (some (.builtin "getset_descriptor.__get__"))) (htk:qR K (.builtin "object.__class__")=some true)
   (hm:sJ K C (.type "object")=some true):TyOf K H (.ref a) (.ref C)
theorem aqo{x:V}{u t:Value}(I:Inv X zv σ H s)(rx:RelV x u)(ty:TyOf X.K H x t)(e:oM X.K t c=some b)(h:∀tk,Q (.bool b) { s with toks:=tk }) :
  wpAny (model X.prog X.w) A (call (.builtin "isinstance") [u,c]) Q E s:=by
 cases ty with
 | non=>cases(show u=gA from rx);exact dZ PySem.W.kitx_none I.kIn mC e (fun z=>nomatch z) h
 | bl y=>cases(show u=pL y from rx);exact dZ PySem.W.kitx_bool I.kIn mC e (fun z=>nomatch z) h
 | int i=>obtain⟨t,q⟩:=(show ∃t,u=lZ i t from rx);cases q;exact dZ PySem.W.kitx_int I.kIn mC e (fun z=>nomatch z) h
 | str y=>obtain⟨t,q⟩:=(show ∃t,u=tL y t from rx);cases q;exact dZ PySem.W.kitx_str I.kIn mC e (fun z=>nomatch z) h
 | flt y=>obtain⟨t,q⟩:=(show ∃t,u=uG y t from rx);cases q;exact dZ PySem.W.kitx_float I.kIn mC e (fun z=>nomatch z) h
 | @lst a xs ea =>
  cases(show u=dN a from rx)
  obtain⟨_,_,n,_,h1⟩:=(show ym X.prog X.w H s.heap a (.lst xs) from I.hok a _ ea)
  exact dZ pO I.kIn ⟨_,h1,rfl⟩ e (fun z=>nomatch z) h
 | @frz a ob xs ea =>
  cases(show u=dN a from rx)
  obtain⟨_,_,_,n,_,h1⟩:=(show ym X.prog X.w H s.heap a (.frz ob (.lst xs)) from I.hok a _ ea)
  exact dZ pO I.kIn ⟨_,h1,rfl⟩ e (fun z=>nomatch z) h
 | @tup a xs ea =>
  cases(show u=dN a from rx)
  obtain⟨_,_,_,p⟩:=(show ym X.prog X.w H s.heap a (.tup xs) from I.hok a _ ea)
  obtain⟨o,h1,h2,_⟩:=p;exact dZ PySem.W.kitx_tuple I.kIn ⟨o,h1,h2⟩ e (fun z=>nomatch z) h
 | @dK a kvs ea =>
  cases(show u=dN a from rx)
  obtain⟨_,_,vs,_,p⟩:=(show ym X.prog X.w H s.heap a (.dK kvs) from I.hok a _ ea)
  obtain⟨o,es,ep,h1,h2,_⟩:=p;exact dZ uX I.kIn ⟨o,h1,h2.1⟩ e (fun z=>nomatch z) h
 | @dT a kvs ea =>
  cases(show u=dN a from rx)
  obtain⟨_,_,xs,_,o,es,ep,h1,h2,_⟩:=(show ym X.prog X.w H s.heap a (.dT kvs) from I.hok a _ ea)
  exact dZ uX I.kIn ⟨o,h1,h2.1⟩ e (fun z=>nomatch z) h
 | @ins a C dx fs ea cl ha hn htk hm =>
  cases(show u=dN a from rx)
  obtain⟨mA,O,_⟩:=aih I.hok ea;obtain⟨od,J,_⟩:=O.look;exact dZ (PySem.W.kitx_own (cl.get _) cl.hd ha hn htk hm) I.kIn J e (fun z=>nomatch z) h
end
structure Room (k:Nat) (A:cI):Prop where
 hd:A.handled=none
 dp:A.depth+3*k+5 < recursionLimit
 un:A.units+16*k+200 < cLine
 gd:A.guards=some []
theorem Room.mono{j k:Nat}{A:cI}(r:Room k A)(h:j<=k):Room j A:=⟨r.hd,by have:=r.dp;omega,by have:=r.un;omega,r.gd⟩
theorem Room.deeper{k:Nat}{A:cI}(r:Room (k+1) A)(env:Env):Room k (A.deeper env) :=
 ⟨r.hd,by have:=r.dp;show A.depth+1+3*k+5 < _;omega,by have:=r.un;show A.units+3+16*k+200 < _;omega,r.gd⟩
theorem Room.in1{k:Nat}{A:cI}(r:Room (k+1) A):Room k A.in1 :=
 ⟨r.hd,by have:=r.dp;show A.depth+3*k+5 < _;omega,by have:=r.un;show A.units+1+16*k+200 < _;omega,r.gd⟩
theorem aoi{A:cI}{C:Addr}{us:List Value}{kw:List (Str×Value)}:(A.under (.builtin "type.__call__" ⟨.ref C::us,kw⟩)).depth=A.depth+1:=by
 first | rfl | simp[pZ,Code.weight,wI,Code.isGuard,wY,uM,pY,guardIds]
theorem aoh{A:cI}{C:Addr}{us:List Value}{kw:List (Str×Value)}:(A.under (.builtin "type.__call__" ⟨.ref C::us,kw⟩)).units=A.units+1:=by
 first | rfl | simp[pZ,Code.cUnits,uM,pY]
theorem alc{A:cI}{C:Addr}{us:List Value}{kw:List (Str×Value)}:(A.under (.builtin "type.__call__" ⟨.ref C::us,kw⟩)).guards=A.guards:=by first | rfl | simp[pZ,Code.weight,wI,Code.isGuard,wY,uM,pY,guardIds]
theorem Room.make{k:Nat}{A:cI}(r:Room (k+1) A)(C:Addr)(us:List Value)(kw:List (Str×Value)):Room k (A.under (.builtin "type.__call__" ⟨.ref C::us,kw⟩)) :=
 ⟨r.hd,by have:=r.dp;rw[aoi];omega,by have:=r.un;rw[aoh];omega,by rw[alc];exact r.gd⟩
theorem Room.depth{k:Nat}{A:cI}(r:Room k A):A.depth < recursionLimit:=by have:=r.dp;omega
theorem Room.units{k:Nat}{A:cI}(r:Room k A):A.units+64 < cLine:=by have:=r.un;omega
def tNil:TA:=fun _ H Q=>Q [] H
def a4y(ta:TE)(tr:TA):TA:=fun σ H Q=>ta σ H fun x H1=>tr σ H1 fun xs H2=>Q (x::xs) H2
section
variable{X:Cx}{e:Expr}{es:List Expr}{te:TE}{t:TA}{pos:Pos}
theorem afu:PA X [] tNil:=fun _ _ _ _ H Q I h=>Calls.spliced_nil ⟨[],H,I,.nil,h⟩
theorem ut(ha:PE X e te)(hr:PA X es t)(hs:aW (e::es) X.env=(false,eval e X.env)::aW es X.env:=by rfl):PA X (e::es) (a4y te t):=by
 intro pos zv s σ H Q I h;rw[hs];show wpAny _ _ (spliced ((false,eval e X.env)::jA pos (aW es X.env))) _ _ s;refine Calls.spliced_cons (thn (ha zv s σ H _ I h) fun u s1 ⟨x,H1,I1,r1,q1⟩ =>?_)
 exact thn (hr pos zv s1 σ H1 _ I1 q1) fun us s2 ⟨xs,H2,I2,r2,q2⟩=>⟨x::xs,H2,I2,.cons r1 r2,q2⟩
def tTup(t:TA):TE:=fun σ H Q=>t σ H fun xs H1=>xs.length<=cD/\∀p,H1 p=none->Q (.ref p) (upd H1 p (.tup xs))
def tLst(t:TA):TE:=fun σ H Q=>t σ H fun xs H1=>xs.length<=cD/\∀p,H1 p=none->Q (.ref p) (upd H1 p (.lst xs))
theorem avi{x1}(h:PA X es t):PE X (.Tuple es x1 pos) (tTup t):=by
 intro zv s σ H Q I hq;refine wpAny_Tuple_spliced (thn (h pos zv s σ H _ I hq) fun us s1 ⟨xs,H1,I1,r,z,q⟩=>⟨by rw[<-r.length];exact z,?_⟩)
 have hf:H1 s1.heap.objs.size=none:=I1.hok.fresh (aM _);refine⟨.ref s1.heap.objs.size,upd H1 s1.heap.objs.size (.tup xs),I1.laid (t':=s1.toks) (fun b u e=>aB _ e) (aM _) ?_,rfl,q _ hf⟩
 exact⟨z,us,r,⟨_,aK _ rfl,rfl,rfl,_,rfl⟩⟩
theorem a0j(h:PA X es t):PE X (.List es pos) (tLst t):=by
 intro zv s σ H Q I hq;refine wpAny_List_spliced (thn (h pos zv s σ H _ I hq) fun us s1 ⟨xs,H1,I1,r,z,q⟩=>⟨by rw[<-r.length];exact z,?_⟩)
 have hf:H1 s1.heap.objs.size=none:=I1.hok.fresh (aM _);refine⟨.ref s1.heap.objs.size,upd H1 s1.heap.objs.size (.lst xs),I1.laid (t':=s1.toks) (fun b u e=>aB _ e) (aM _) ?_,rfl,q _ hf⟩
 exact⟨z,us,0,r,aK _ rfl⟩
end
abbrev Sp:=List V->Hp->VK->XK->Prop
abbrev CXT:=List Env->Hp->aJ->XK->Value->aJ->Prop
structure Env0 (P:aZ) (w:World) (K:Fg9) (mg:Str->Option Value) (base:Heap) (A:cI) (outer:List Env) (s:aJ) (H:Hp):Prop where
 frames:A.frames=some outer
 mod:Mod K mg base
 bs:∀b o,base.get? b=some o->s.heap.get? b=some o/\H b=none
 bsz:base.objs.size<=s.heap.objs.size
 funs:s.heap.FunFrames base outer
 frf:∀b∈frs outer,H b=none
 hok:HOk P w H s.heap
 bare:oX s.gens
def CE(outer:List Env)(P:aZ)(w:World)(H:Hp)(s:aJ)(Q:VK)(u:Value)(s':aJ):Prop :=
 ∃v H',s'.os=s.os/\oX s'.gens/\Un (frs outer) [] H H' s.heap s'.heap/\HOk P w H' s'.heap/\RelV v u/\Q v H'
def CR(CX:CXT)(outer:List Env)(P:aZ)(w:World)(H:Hp)(s:aJ)(Q:VK)(E:XK)(r:Result)(s':aJ):Prop :=
 match r with
 | .ok (.ret u)=>CE outer P w H s Q u s'
 | .ok _=>False
 | .error e=>CX outer H s E e s'
structure FnOk (P:aZ) (w:World) (K:Fg9) (mg:Str->Option Value) (base:Heap) (CX:CXT) (k:Nat) (f:Addr) (fd:fM) (ps:List Str) (sp:Sp):Prop where
 len:∀vs H Q E,sp vs H Q E->vs.length=ps.length
 run:∀(A:cI) (outer:List Env) (s:aJ) (H:Hp) (args:Args) (us:List Value) (vs:List V) (Q:VK) (E:XK),Room k A->Env0 P w K mg base A outer s H->pU s fd args (ps.zip us)->Vals vs us->sp vs H Q E ->
  mK (model P w) A (.call (.ref f) args) (CR CX outer P w H s Q E) s
theorem FnOk.mono{P:aZ}{w:World}{K:Fg9}{mg:Str->Option Value}{base:Heap}{CX:CXT}{j k:Nat}{f:Addr}{fd:fM}{ps:List Str}{sp:Sp}(F:FnOk P w K mg base CX j f fd ps sp)(h:j<=k) :
  FnOk P w K mg base CX k f fd ps sp:=⟨F.len,fun A outer s H args us vs Q E hr=>F.run A outer s H args us vs Q E (hr.mono h)⟩
theorem FnOk.imp{P:aZ}{w:World}{K:Fg9}{mg:Str->Option Value}{base:Heap}{CX:CXT}{k:Nat}{f:Addr}{fd:fM}{ps:List Str}{sp sp':Sp}(F:FnOk P w K mg base CX k f fd ps sp)
  (h:∀vs H Q E,sp' vs H Q E->sp vs H Q E):FnOk P w K mg base CX k f fd ps sp' :=
 ⟨fun vs H Q E q=>F.len vs H Q E (h _ _ _ _ q),fun A outer s H args us vs Q E hr he hb hv hs=>F.run A outer s H args us vs Q E hr he hb hv (h _ _ _ _ hs)⟩
theorem Env0.make{P:aZ}{w:World}{K:Fg9}{mg:Str->Option Value}{base:Heap}{A:cI}{outer:List Env}{s:aJ}{H:Hp}(e:Env0 P w K mg base A outer s H)(C:Addr)(us:List Value)(kw:List (Str×Value)) :
  Env0 P w K mg base (A.under (.builtin "type.__call__" ⟨.ref C::us,kw⟩)) outer s H:=⟨by first | exact e.frames | (simpa[pZ,Code.envs,pY,pushEnvs] using e.frames),e.mod,e.bs,e.bsz,e.funs,e.frf,e.hok,e.bare⟩
theorem Env0.in1{P:aZ}{w:World}{K:Fg9}{mg:Str->Option Value}{base:Heap}{A:cI}{outer:List Env}{s:aJ}{H:Hp}(e:Env0 P w K mg base A outer s H) :
  Env0 P w K mg base A.in1 outer s H:=⟨e.frames,e.mod,e.bs,e.bsz,e.funs,e.frf,e.hok,e.bare⟩
section
variable{X:Cx}{zv:List (Addr×Obj)}{σ:St}{H:Hp}{s s':aJ}
theorem Inv.env0(I:Inv X zv σ H s):Env0 X.prog X.w X.K X.mg X.base X.A X.stack s H :=
 ⟨I.ok.frames,I.ok.mod,I.bs,cF I.ok.bsz I.sz,I.stack,I.stkFree,I.hok,I.bare⟩
theorem Inv.after{Q:VK}{u:Value}(I:Inv X zv σ H s)(h:CE X.stack X.prog X.w H s Q u s'):EP X zv σ Q u s':=by
 obtain⟨v,H',os,bare,un,hok,r,q⟩:=h;obtain⟨hh,g,d,t,os'⟩:=s';obtain rfl:os'=s.os:=os;exact⟨v,H',I.call (h':=hh) (g':=g) (d':=d) (t':=t) (ch:=[]) un hok bare (fun b z=>absurd z (by simp)),r,q⟩
end
def azq(sp:Sp)(dvs:List V)(E:XK)(t:TA):TE:=fun σ H Q=>t σ H fun vs H1=>sp (vs++dvs) H1 Q E
def a4v(C:Addr)(m:Str)(sp:Sp)(dvs:List V)(E:XK)(ta:TE)(t:TA):TE:=fun σ H Q=>ta σ H fun x H1=>∃a dx fs,x=.ref a/\H1 a=some (.ins C dx fs)/\fs.lookup m=none /\
 t σ H1 fun vs H2=>sp (x::(vs++dvs)) H2 Q E
def a4w(C:Addr)(sp:Sp)(dvs:List V)(E:XK)(t:TA):TE:=fun σ H Q=>t σ H fun vs H1=>∀x dx,H1 x=none->H1 dx=none->dx≠x ->
 sp (.ref x::(vs++dvs)) (upd (upd H1 dx (.own x)) x (.ins C dx [])) (fun v H2=>v=.non/\Q (.ref x) H2) E
def Binds(K:Fg9)(fd:fM)(ps:List Str)(ds:List Value):Prop :=
 ∀(s:aJ) (us:List Value),K.In s.heap->(us++ds).length=ps.length->pU s fd ⟨us,[]⟩ (ps.zip (us++ds))
theorem Binds.all{K:Fg9}{fd:fM}{ps:List Str}(h:∀us:List Value,us.length=ps.length->bindArgs fd ⟨us,[]⟩=pure (ps.zip us)):Binds K fd ps []:=fun s us _ hl=>by
 rw[cZ] at hl ⊢
 exact .of_eq (h us hl)
def ahn(CX:CXT)(X:Cx)(E:XK):Prop:=∀(zv:List (Addr×Obj)) (σ:St) (H:Hp) (s:aJ) (e:Value) (s':aJ),Inv X zv σ H s->CX X.stack H s E e s'->X.xe e s'
section
variable{X:Cx}{CX:CXT}{k:Nat}{f C:Addr}{fd:fM}{ps:List Str}{sp:Sp}{dvs:List V}{ds:List Value}{E:XK}{x m:Str}{p pos apos:Pos}{e o:Expr}{es:List Expr}{ta:TE}{t:TA}
theorem ava{zv:List (Addr×Obj)}{σ:St}{H:Hp}{s:aJ}{Q:VK}{us:List Value}{vs:List V}(F:FnOk X.prog X.w X.K X.mg X.base CX k f fd ps sp)(hr:Room k X.A)(hb:Binds X.K fd ps ds)(hd:Vals dvs ds)(hx:ahn CX X E)
  (I:Inv X zv σ H s) (r:Vals vs us) (h:sp (vs++dvs) H Q E):wpAny (model X.prog X.w) X.A (call (.ref f) us) (EP X zv σ Q) X.xe s:=by
 have r2:Vals (vs++dvs) (us++ds):=r.append hd;have hl:(us++ds).length=ps.length:=by rw[<-r2.length];exact F.len _ _ _ _ h
 refine wpAny_call (codeAny_mono (F.run X.A X.stack s H ⟨us,[]⟩ (us++ds) (vs++dvs) Q E hr I.env0 (hb s us I.kIn hl) r2 h) fun r s' hq =>?_)
 cases r with
 | error e=>exact hx zv σ H s e s' I hq
 | ok fl =>
  cases fl with
  | ret u=>exact I.after hq
  | next=>exact gG hq
  | brk=>exact gG hq
  | cont=>exact gG hq
theorem axb(F:FnOk X.prog X.w X.K X.mg X.base CX k f fd ps sp)(hr:Room k X.A)(hg:Gl X x)(hm:X.mg x=some (.ref f))(hk:eQ X.K (.ref f)=true)(hb:Binds X.K fd ps ds)(hd:Vals dvs ds)(hx:ahn CX X E)
  (ha:PA X (e::es) t) (hdb:(x==("__debug__" : Str))=false:=by decide) (he:aW (e::es) X.env=(false,eval e X.env)::aW es X.env:=by rfl) (hpl:(jA pos (aW es X.env)).any (·.1)=false:=by rfl) :
  PE X (.Call (.Name x p) (e::es) [] pos) (azq sp dvs E t):=by
 intro zv s σ H Q I h;refine wpAny_Call_Name_kw (alg I hg hm ?_ hdb);refine oY (h₀:=X.base) I.ok.mod.kin hk (thn (ha pos zv s σ H _ I h) fun us s1 ⟨vs,H1,I1,r,q⟩=>⟨I1.kIn,?_⟩) he hpl
 exact ava F hr hb hd hx I1 r q
theorem aw6{pl:Sem Bool}(he:PE X o ta)(c:Cls X.K C)(hm:Meth X.K C m f)(F:FnOk X.prog X.w X.K X.mg X.base CX k f fd ps sp)(hr:Room k X.A)(hb:Binds X.K fd ps ds)(hd:Vals dvs ds)(hx:ahn CX X E)(ha:PA X (e::es) t)
  (hst:aW (e::es) X.env=(false,eval e X.env)::aW es X.env:=by rfl) (hpl:(jA pos (aW es X.env)).any (·.1)=false:=by rfl)
  (ht:eval (.Call (.Attribute o m apos) (e::es) [] pos) X.env=(do
   let ov <-eval o X.env
   standAt apos.atName
   let (f,first) <-jC [ov] (getMethod ov m pl)
   callWith pos f first (jA pos (aW (e::es) X.env)) (backToKw pos (keywordEach [] X.env))):=by rfl) :
  PE X (.Call (.Attribute o m apos) (e::es) [] pos) (a4v C m sp dvs E ta t):=by
 intro zv s σ H Q I h;refine PySem.W.methodCall_KW (pl:=pl) (thn (he zv s σ H _ I h) fun u s1 ⟨x,H1,I1,rx,a,dx,fs,ex,ea,l,q⟩ =>?_) ht
 subst ex;obtain rfl:u=dN a:=rx;refine aoo I1 ea c hm l ?_;refine oY (first:=[.ref a]) (h₀:=X.base) I.ok.mod.kin hm.kp (thn (ha pos zv s1 σ H1 _ I1 q) fun us s2 ⟨vs,H2,I2,r,q2⟩=>⟨I2.kIn,?_⟩) hst hpl
 exact ava (us:=.ref a::us) (vs:=.ref a::vs) F hr hb hd hx I2 (.cons rfl r) q2
structure Mk (K:Fg9) (C f:Addr):Prop where
 makes:nM K C=true
 init:jJ K (.ref C) "__init__" = some (some (.ref f))
 fn:jZ K (.ref f)=true
 kp:eQ K (.ref C)=true
theorem atc{zv:List (Addr×Obj)}{σ:St}{H:Hp}{s:aJ}{Q:VK}{us:List Value}{vs:List V}(M:Mk X.K C f)(F:FnOk X.prog X.w X.K X.mg X.base CX k f fd ps sp)(hr:Room (k+1) X.A)(hb:Binds X.K fd ps ds)(hd:Vals dvs ds)
  (hx:ahn CX X E) (I:Inv X zv σ H s) (r:Vals vs us)
  (h:∀x dx,H x=none->H dx=none->dx≠x->sp (.ref x::(vs++dvs)) (upd (upd H dx (.own x)) x (.ins C dx [])) (fun v H2=>v=.non/\Q (.ref x) H2) E) :
  wpAny (model X.prog X.w) X.A (call (.ref C) us) (EP X zv σ Q) X.xe s:=by
 have hq:=h (s.heap.objs.size+1) s.heap.objs.size (I.hok.fresh (jW _)) (I.hok.fresh (aM _)) (bD (gM _));have I2:=Inv.made (C:=C) I;have r2:Vals (V.ref (s.heap.objs.size+1)::(vs++dvs)) (dN (s.heap.objs.size+1)::(us++ds)):=.cons rfl (r.append hd);have hl:(dN (s.heap.objs.size+1)::us++ds).length=ps.length:=by
  have e:=r2.length;rw[F.len _ _ _ _ hq] at e;exact e.symm
 refine wpAny_call (at3 (f:=f) I.kIn M.makes M.init (beq_iff_eq.mp M.fn) (codeAny_mono (F.run _ X.stack _ _ ⟨Value.ref (s.heap.objs.size+1)::us,[]⟩ (dN (s.heap.objs.size+1)::(us++ds)) _ _ E (hr.make C us [])
  (I2.env0.make C us []) (hb _ (dN (s.heap.objs.size+1)::us) I2.kIn hl) r2 hq) fun r s' hq' =>?_))
 cases r with
 | error e=>exact hx zv σ _ _ e s' I2 hq'
 | ok fl =>
  cases fl with
  | ret u =>
   obtain⟨v,H',I3,rv,ev,q3⟩:=I2.after hq';subst ev;exact⟨rv,⟨V.ref (s.heap.objs.size+1),H',I3,rfl,q3⟩⟩
  | next=>exact gG hq'
  | brk=>exact gG hq'
  | cont=>exact gG hq'
theorem aw7(M:Mk X.K C f)(F:FnOk X.prog X.w X.K X.mg X.base CX k f fd ps sp)(hr:Room (k+1) X.A)(hg:Gl X x)(hm:X.mg x=some (.ref C))(hb:Binds X.K fd ps ds)(hd:Vals dvs ds)(hx:ahn CX X E)
  (ha:PA X (e::es) t) (hdb:(x==("__debug__" : Str))=false:=by decide) (he:aW (e::es) X.env=(false,eval e X.env)::aW es X.env:=by rfl) (hpl:(jA pos (aW es X.env)).any (·.1)=false:=by rfl) :
  PE X (.Call (.Name x p) (e::es) [] pos) (a4w C sp dvs E t):=by
 intro zv s σ H Q I h;refine wpAny_Call_Name_kw (alg I hg hm ?_ hdb);refine oY (h₀:=X.base) I.ok.mod.kin M.kp (thn (ha pos zv s σ H _ I h) fun us s1 ⟨vs,H1,I1,r,q⟩=>⟨I1.kIn,?_⟩) he hpl
 exact atc M F hr hb hd hx I1 r q
end
section
variable{X:Cx}{CX:CXT}{k:Nat}{f C:Addr}{fd:fM}{ps ks:List Str}{sp:Sp}{E:XK}{x m:Str}{p pos apos kpos:Pos}{e o:Expr}{es:List Expr}{kws:List Keyword}{te ta:TE}{t tk:TA}{nm:Option Str}
structure KBinds (K:Fg9) (fd:fM) (ps ks:List Str) (g:List Value->List Value->List Value) (gV:List V->List V->List V):Prop where
 to:∀(s:aJ) (us ws:List Value),K.In s.heap->(g us ws).length=ps.length->pU s fd ⟨us,ks.zip ws⟩ (ps.zip (g us ws))
 rel:∀{vs:List V} {us:List Value} {zs:List V} {ws:List Value},Vals vs us->Vals zs ws->Vals (gV vs zs) (g us ws)
variable{g:List Value->List Value->List Value}{gV:List V->List V->List V}
end
structure FnScope (N P:List Str) (sc:Scope):Prop where
 kind:sc.kind=.function
 co:sc.isCoroutine=false
 gen:sc.isGenerator=false
 nd:N.Nodup
 pre:N.take P.length=P
 par:∀x∈P,sc.names.lookup x=some .local∨sc.names.lookup x=some .cell
 nofree:∀y∈sc.names,y.2≠.free
theorem akm{kindOf:Str->Option sW}{x:Str}:∀{binds:List (Str×Value)} {m:Str->Option Value},(∀v,(x,v)∉binds)->bindL kindOf binds m x=m x
 | [],_,_=>rfl
 | (n,v)::r,m,h=>by
  unfold bindL;rw[akm fun w hw=>h w (aL _ hw)]
  split
  ·have:x≠n:=by rintro rfl;exact h v aR
   simp[this]
  ·rfl
theorem ako{kindOf:Str->Option sW}{x:Str}:∀{binds:List (Str×Value)} {m:Str->Option Value},(∀v,(x,v)∉binds)->bindC kindOf binds m x=m x
 | [],_,_=>rfl
 | (n,v)::r,m,h=>by
  unfold bindC;rw[ako fun w hw=>h w (aL _ hw)]
  split
  ·rfl
  ·have:x≠n:=by rintro rfl;exact h v aR
   simp[this]
theorem akn{kindOf:Str->Option sW}{x:Str}{v:Value}:∀{P:List Str} {vs:List Value} {i:Nat} {m:Str->Option Value},P.Nodup->P[i]? = some x->vs[i]? = some v->kindOf x=some .local ->
  bindL kindOf (P.zip vs) m x=some v
 | [],_,_,_,_,h,_,_=>by simp at h
 | _::_,[],_,_,_,_,h,_=>by simp at h
 | p::P,w::vs,0,m,nd,h1,h2,hk=>by
  simp at h1 h2;subst h1;subst h2;show bindL kindOf ((p,w)::P.zip vs) m p=_;unfold bindL;rw[akm fun v hv=>(lD.mp nd).1 (qU hv).1,if_pos hk]
  simp
 | p::P,w::vs,i+1,m,nd,h1,h2,hk=>by
  show bindL kindOf ((p,w)::P.zip vs) m x=_;unfold bindL;exact akn (i:=i) (lD.mp nd).2 (by simpa using h1) (by simpa using h2) hk
theorem akp{kindOf:Str->Option sW}{x:Str}{v:Value}:∀{P:List Str} {vs:List Value} {i:Nat} {m:Str->Option Value},P.Nodup->P[i]? = some x->vs[i]? = some v->kindOf x≠some .local ->
  bindC kindOf (P.zip vs) m x=some v
 | [],_,_,_,_,h,_,_=>by simp at h
 | _::_,[],_,_,_,_,h,_=>by simp at h
 | p::P,w::vs,0,m,nd,h1,h2,hk=>by
  simp at h1 h2;subst h1;subst h2;show bindC kindOf ((p,w)::P.zip vs) m p=_;unfold bindC;rw[ako fun v hv=>(lD.mp nd).1 (qU hv).1,if_neg hk]
  simp
 | p::P,w::vs,i+1,m,nd,h1,h2,hk=>by
  show bindC kindOf ((p,w)::P.zip vs) m x=_;unfold bindC;exact akp (i:=i) (lD.mp nd).2 (by simpa using h1) (by simpa using h2) hk
def start(N:List Str)(vs:List V):St:=vs.map some++aD (N.length - vs.length) none
noncomputable def cxOf(CX:CXT)(P:aZ)(w:World)(K:Fg9)(mg:Str->Option Value)(base:Heap)(N:List Str)(qual:Str)(scope:Scope)(f:Addr)(cd:Value)(A:cI)(outer:List Env)(s:aJ)(H:Hp)(E:XK):Cx where
 prog:=P
 w:=w
 K:=K
 mg:=mg
 base:=base
 A:=A.deeper (nG qual scope s.heap.objs.size f cd)
 N:=N
 s₀:=s
 H₀:=H
 env:=nG qual scope s.heap.objs.size f cd
 outer:=outer
 stack:=nG qual scope s.heap.objs.size f cd::outer
 ex:=[]
 calm:=true
 fn:=fun _=>true
 pn:=[]
 xe:=fun e s'=>wpAny (model P w) (A.deeper (nG qual scope s.heap.objs.size f cd)) (leaving (nG qual scope s.heap.objs.size f cd) e) (fun _ s''=>CX outer H s E e s'') (fun e' s''=>CX outer H s E e' s'') s'
theorem am9{sc:Scope}{n:Nat}{x:Str}(h:sc.names.lookup x=some .cell):∃c,(cellsFrom n sc.names []).lookup x=some c:=by
 have q:=tD sc.names n [] (.inl h);exact sG.mp q
theorem aqp{CX:CXT}{P:aZ}{w:World}{K:Fg9}{mg:Str->Option Value}{base:Heap}{N ps:List Str}{qual:Str}{scope:Scope}{f:Addr}{cd:Value}{A:cI}{outer:List Env}{s s1:aJ}{H:Hp}{E:XK}{us:List Value}{vs:List V}
  (S:FnScope N ps scope) (hd:A.handled=none) (e0:Env0 P w K mg base A outer s H) (hl:vs.length=ps.length) (r:Vals vs us)
  (x:InCallC s s.heap.objs.size (bindL (nG qual scope s.heap.objs.size f cd).kindOf (ps.zip us) fun _=>none) (cellsFrom (s.heap.objs.size+1) scope.names []) (bindC (nG qual scope s.heap.objs.size f cd).kindOf (ps.zip us) fun _=>none) s1) :
  Inv (cxOf CX P w K mg base N qual scope f cd A outer s H E) [] (start N vs) H s1:=by
 have hpl:ps.length<=N.length:=by have:=congrArg List.length S.pre;rw[gB] at this;omega
 obtain⟨h1,tk,rfl,hk⟩:=x.done;have noA:∀b:Addr,b∉(cxOf CX P w K mg base N qual scope f cd A outer s H E).ex:=fun b z=>absurd (show b∈([]:List Addr) from z) (by simp)
 refine⟨⟨e0.mod,S.kind,rfl,rfl,aM _,fun y z c h1 h2 =>?_,fun y hy =>?_,fun y c _ h =>?_,fun _=>hd,Around.frames_deeper e0.frames,.inr ⟨rfl,rfl⟩,fun b z=>absurd z (noA b),e0.bs,e0.bsz,fun b _ _=>noA b,fun b z=>absurd z (noA b),e0.funs,e0.frf⟩,
  rfl,e0.bare,Un.kept hk,⟨_,x.toInCall.ns,fun i y v h1 h2 h3 =>?_⟩,fun y c h=>⟨_,x.cell y c h⟩,e0.hok.fresh (aM _),fun y c h =>?_,fun p hp=>absurd (show p∈([]:List (Addr×Obj)) from hp) (by simp),e0.hok.kept hk,?_⟩
 ·exact name_of_addr x.apart (iC h1) (iC h2)
 ·have hy:scope.names.lookup y=some .cell∨scope.names.lookup y=some .free:=hy;rcases hy with hy | hy
  ·exact am9 hy
  ·exact absurd rfl (S.nofree _ (iC hy))
 ·exact lJ (x.above y c (iC h))
 ·have hi:i < vs.length:=by
   unfold start at h2
   by_cases hi:i < vs.length
   ·exact hi
   ·rw[cJ (by simpa using hi)] at h2
    rw[eH] at h2;split at h2 <;> cases h2
  have ha:vs[i]? = some v:=by
   unfold start at h2;rw[bB (by simpa using hi),aO] at h2
   cases e:vs[i]? with
   | none=>rw[e] at h2;cases h2
   | some a=>rw[e] at h2;cases h2;rfl
  obtain⟨u,hu,rv⟩:=r.get ha;have hp:ps[i]? = some y:=by
   rw[<-S.pre,gW (by omega)];exact h1
  have ndP:ps.Nodup:=by rw[<-S.pre];exact S.nd.sublist (vA _ _)
  refine⟨u,rv,?_⟩;rcases S.par y (cC hp) with k | k
  ·exact .inl ⟨k,akn ndP hp hu k⟩
  ·obtain⟨c,e⟩:=am9 (n:=s.heap.objs.size+1) k;refine .inr ⟨.inl k,c,e,?_⟩;have q:=x.cell y c e;rw[akp ndP hp hu (by show scope.names.lookup y≠_;rw[k];decide)] at q
   exact q
 ·exact e0.hok.fresh (lJ (x.above y c (iC h)))
 ·unfold start;show _=N.length;rw[bM,aF,bY];omega
theorem a7j{CX:CXT}{P:aZ}{w:World}{K:Fg9}{mg:Str->Option Value}{base:Heap}{k:Nat}{f:Addr}{name qual:Str}{params:Arguments}{body:List Stmt}{scope:Scope}{dV kV doc pm cdv ct oc:Value}{an od:Option Addr}
  {osl:Array (Option Value)} {N ps:List Str} {sp:Sp} (lk:K.lookup f=some ⟨oc,od,.func (fnOf name qual params body scope dV kV doc pm an cdv ct),osl⟩) (hcd:fK K cdv qual=true) (S:FnScope N ps scope)
  (len:∀vs H Q E,sp vs H Q E->vs.length=ps.length)
  (hbody:∀(A:cI) (outer:List Env) (s:aJ) (H:Hp) (vs:List V) (Q:VK) (E:XK),Room k (A.deeper (nG qual scope s.heap.objs.size f cdv))->sp vs H Q E ->
   ∃t,PSs (cxOf CX P w K mg base N qual scope f cdv A outer s H E) body t/\t { nx:=fun _ H'=>Q .non H',rt:=Q } (start N vs) H) :
  FnOk P w K mg base CX (k+1) f (fnOf name qual params body scope dV kV doc pm an cdv ct) ps sp:=by
 refine⟨len,fun A outer s H args us vs Q E hr e0 hb r hsp =>?_⟩
 have hl:=len _ _ _ _ hsp;have KX:K.In s.heap:=e0.mod.kin.keeps fun b o e=>(e0.bs b o e).1
 have lim:s.heap.NoLimit:=e0.mod.nolimit.keeps fun b o e=>(e0.bs b o e).1
 have hkind:∀y∈ps.zip us,scope.names.lookup y.1=some .local∨(scope.names.lookup y.1=some .cell/\((cellsFrom (s.heap.objs.size+1) scope.names []).lookup y.1).isSome=true):=fun⟨n,v⟩ hy=>by
  rcases S.par n (qU hy).1 with q | q
  ·exact .inl q
  ·exact .inr ⟨q,tD _ _ _ (.inl q)⟩
 refine codeAny_call_function hr.depth (KX _ _ lk) rfl S.co S.gen rfl (PySem.W.codeRec_of KX hcd) (hb _ _ _ _ ?_);refine wpAny_newFunctionEnv_cells S.kind hkind fun env he s1 x =>?_
 subst he;refine⟨lim.keeps x.toInCall.keep,codeAny_func ?_⟩;obtain⟨t,ht,hq⟩:=hbody A outer s H vs Q E (hr.deeper _) hsp;have I:Inv (cxOf CX P w K mg base N qual scope f cdv A outer s H E) [] (start N vs) H s1:=aqp S hr.hd e0 hl r x;refine dC (ht [] s1 (start N vs) H _ I hq) (fun fl s' hs =>?_) fun e s' hs=>hs
 have fin:∀{σ':St} {H':Hp} {v:V} {u:Value},Inv (cxOf CX P w K mg base N qual scope f cdv A outer s H E) [] σ' H' s'->RelV v u->Q v H'->CE outer P w H s Q u s' :=
  fun{σ' H' v u} J rv q=>⟨v,H',J.os,J.bare,J.base,J.hok,rv,q⟩
 cases fl with
 | ret u =>
  obtain⟨v,σ',H',J,rv,q⟩:=hs;exact fin J rv q
 | next =>
  obtain⟨σ',H',J,q⟩:=hs;exact fin (v:=V.non) (u:=gA) J rfl q
 | brk =>
  obtain⟨_,_,_,q⟩:=hs;exact gG q
 | cont =>
  obtain⟨_,_,_,q⟩:=hs;exact gG q
section
variable{X:Cx}{x:Str}{p pos:Pos}{e:Expr}{es:List Expr}{t:TA}{id T:String}{r:List V->Hp->VK->Prop}
def tCB(r:List V->Hp->VK->Prop)(t:TA):TE:=fun σ H Q=>t σ H fun vs H1=>r vs H1 Q
theorem ah4(hc:zj X (.builtin id) r)(hg:Gl X x)(hm:X.mg x=none)(hv:bV x=some (.builtin id))(ha:PA X (e::es) t)(hn:x ≠ "__name__" := by decide)(hdb:(x==("__debug__" : Str))=false:=by decide)
  (he:aW (e::es) X.env=(false,eval e X.env)::aW es X.env:=by rfl) (hpl:(jA pos (aW es X.env)).any (·.1)=false:=by rfl):PE X (.Call (.Name x p) (e::es) [] pos) (tCB r t):=by
 intro zv s σ H Q I h;refine wpAny_Call_Name_kw (af3 I hg hm hv ?_ hn hdb);exact PyProof.Rows.callWith_builtin1 (thn (ha pos zv s σ H _ I h) fun us s1 ⟨vs,H1,I1,r1,q1⟩=>hc zv s1 σ H1 vs us Q I1 r1 q1) he hpl
theorem adf(hc:zj X (.type T) r)(hg:Gl X x)(hm:X.mg x=none)(hv:bV x=some (.type T))(ha:PA X (e::es) t)(hn:x ≠ "__name__" := by decide)(hdb:(x==("__debug__" : Str))=false:=by decide)
  (he:aW (e::es) X.env=(false,eval e X.env)::aW es X.env:=by rfl) (hpl:(jA pos (aW es X.env)).any (·.1)=false:=by rfl):PE X (.Call (.Name x p) (e::es) [] pos) (tCB r t):=by
 intro zv s σ H Q I h;refine wpAny_Call_Name_kw (af3 I hg hm hv ?_ hn hdb);exact gH (thn (ha pos zv s σ H _ I h) fun us s1 ⟨vs,H1,I1,r1,q1⟩=>hc zv s1 σ H1 vs us Q I1 r1 q1) he hpl
end
end L2
namespace HT
open PySem PyProof.Rows
section
open PySem.SeqAt
open PySem.AutoSeq1 (wpAny_loadPart')
open PySem.MeetsSeq PySem.MeetsSeq2 PySem.MeetsSeq3
end
section
variable{prog:aZ}{w:World}{A:cI}{E:Value->aJ->Prop}{s:aJ}
theorem ay2{t b:Addr}{vs ws:List Value}{Q:Value->aJ->Prop}(ht:IsTup s.heap t vs.toArray)(hb:IsTup s.heap b ws.toArray)(hv:vs≠[])
  (h1:ws=[]->Q (.ref t) s) (h2:ws≠[]->Q (.ref s.heap.objs.size) { s with heap:=s.heap.push { cls:=.type "tuple", data:=.seq (vs++ws).toArray } })
  (hsz:vs.length+ws.length<=cD):wpAny (model prog w) A (fQ .Add (.ref t) (.ref b)) Q E s:=by
 obtain⟨⟨cls,dd,data,sl⟩,ho,hc,n,hd⟩:=id ht;obtain⟨⟨cls2,dd2,data2,sl2⟩,ho2,hc2,n2,hd2⟩:=id hb;simp only at hc hd hc2 hd2;subst hc hd hc2 hd2;have e:vs.toArray++ws.toArray=(vs++ws).toArray:=by simp
 by_cases hw:ws=[]
 ·exact concat_meets ⟨_,ho,rfl⟩ ⟨_,ho2,rfl⟩ noFill_tuple_add seq_tuple_add nD mU (mF _ _)
   (tuple_addW1 t b vs.toArray ws.toArray n n2 dd dd2 sl sl2 (by simpa using hv) (by simp[hw])) ⟨ho,ho2,h1 hw⟩
 ·refine concat_meets ⟨_,ho,rfl⟩ ⟨_,ho2,rfl⟩ noFill_tuple_add seq_tuple_add nD mU (mF _ _)
   (tuple_addW2 t b vs.toArray ws.toArray n n2 dd dd2 sl sl2 (by simpa using hv) (by simpa using hw) (by rw[aV,aV];exact hsz)) ⟨ho,ho2,?_⟩
  rw[e];exact h2 hw
def sIx(n d:Nat):Option Int->Nat
 | none=>d
 | some v=>if v < 0 then (v+(n:Int)).toNat else min v.toNat n
theorem azz(n d:Nat)(hd:d<=n)(o:Option Int):sIx n d o<=n:=by
 cases o with
 | none=>exact hd
 | some v =>
  show(if v < 0 then (v+(n:Int)).toNat else min v.toNat n)<=n
  by_cases hv:v < 0
  ·rw[if_pos hv];omega
  ·rw[if_neg hv];exact Nat.min_le_right _ _
theorem ars(v:Int)(n d:Nat):(if v < 0 then max (v+(n:Int)) 0 else min v (n:Int))=((sIx n d (some v):Nat):Int):=by
 show(if v < 0 then max (v+(n:Int)) 0 else min v (n:Int))=(((if v < 0 then (v+(n:Int)).toNat else min v.toNat n):Nat):Int)
 by_cases hv:v < 0
 ·simp only[if_pos hv];omega
 ·simp only[if_neg hv];omega
theorem aov(lo hi:Option Int)(n:Nat):lW lo hi 1 (n:Int)=(((sIx n 0 lo:Nat):Int),((sIx n n hi:Nat):Int)):=by
 have h1:¬((1:Int) < 0):=by omega
 unfold lW;simp only[h1,if_false];refine wV ?_ ?_
 ·cases lo with
  | none=>rfl
  | some v=>exact ars v n 0
 ·cases hi with
  | none=>rfl
  | some v=>exact ars v n n
theorem anu(i j:Nat):jF (i:Int) (j:Int) 1=j - i:=by
 unfold jF;have h1:(1:Int) > 0:=by omega
 simp only[h1,if_true,Int.ediv_one];split <;> omega
theorem ag8{v:Value}{o:Option Int}{Q:Option Int->aJ->Prop}(p:pX v o)(h:Q o s):wpAny (model prog w) A (Builtin.Slice.slicePartIndex v) Q E s:=by
 cases p with
 | none=>exact slicePart_none h
 | int i t=>exact slicePart_int h
theorem abb{sl:Addr}{vl vu:Value}{lo hi:Option Int}{n:Nat}{Q:Int×Int×Nat->aJ->Prop}(hs:s.heap.IsSliceOf sl vl vu .none)(pl:pX vl lo)(pu:pX vu hi)
  (h:Q (((sIx n 0 lo:Nat):Int),1,sIx n n hi - sIx n 0 lo) s):wpAny (model prog w) A (rM (.ref sl) (pure (n:Int))) Q E s:=by
 obtain⟨os,hos,hcs,hds⟩:=id hs;unfold rM Builtin.Slice.sliceFields;refine aA (aA (dB hos hds (x:=vl) rfl (aA (dB hos hds (x:=vu) rfl (aA (dB hos hds (x:=.none) rfl (aH ?_)))))));refine aA (slicePart_none ?_);show wpAny _ _ (if ((1:Int)==0)=true then _ else _) _ _ s
 rw[if_neg (by decide)]
 refine aA (ag8 pl (aA (ag8 pu (aA (aH ?_)))));show wpAny _ _ (match lW lo hi 1 (n:Int) with | (lo,hi)=>pure (lo,(1:Int),jF lo hi 1)) _ _ s
 rw[aov lo hi n];show wpAny _ _ (pure (((sIx n 0 lo:Nat):Int),(1:Int),jF ((sIx n 0 lo:Nat):Int) ((sIx n n hi:Nat):Int) 1)) _ _ s;rw[anu];exact aH h
theorem atl(xs:Array Value)(i k:Nat):((bG k).filterMap fun(m:Nat)=>xs[((i:Int)+(m:Int)*1).toNat]?).toArray=((xs.toList.drop i).take k).toArray:=by
 have e:(fun(m:Nat)=>xs[((i:Int)+(m:Int)*1).toNat]?)=fun m=>xs[i+m]? := by
  funext m
  have:((i:Int)+(m:Int)*1).toNat=i+m:=by omega
  rw[this]
 rw[e];have:=pick_run xs i k;rw[List.filterMap_map] at this;have e2:((fun x=>xs[x]?)∘fun x=>i+x)=fun m=>xs[i+m]? := rfl
 rw[e2] at this;rw[this]
theorem aej{t sl:Addr}{items:Array Value}{vl vu:Value}{lo hi:Option Int}{Q:Value->aJ->Prop}(ht:IsTup s.heap t items)(hs:s.heap.IsSliceOf sl vl vu .none)(pl:pX vl lo)(pu:pX vu hi)
  (hw:¬(sIx items.size 0 lo=0/\sIx items.size items.size hi=items.size))
  (h:Q (.ref s.heap.objs.size) { s with heap:=s.heap.push { cls:=.type "tuple", data:=.seq ((items.toList.drop (sIx items.size 0 lo)).take (sIx items.size items.size hi - sIx items.size 0 lo)).toArray } })
  (hsz:items.size<=cD):wpAny (model prog w) A (pJ (.ref t) (.ref sl)) Q E s:=by
 have htake:sizeOk (.seq ((items.toList.drop (sIx items.size 0 lo)).take (sIx items.size items.size hi - sIx items.size 0 lo)).toArray):=by
  show((items.toList.drop (sIx items.size 0 lo)).take (sIx items.size items.size hi - sIx items.size 0 lo)).toArray.size<=cD;rw[aV,gB,jG,bI];omega
 have hj:sIx items.size items.size hi<=items.size:=azz _ _ (aM _) hi;obtain⟨os,hos,hcs,hds⟩:=id hs;have hTs:s.TypeIs (.ref sl) "slice" := ⟨os,hos,hcs⟩;unfold pJ
 try with_reducible refine fH ?_
 first | refine aA (aH ?_) | skip
 refine aA (wpAny_sequenceKey ht.typeIs (by decide) ?_)
 refine aA (dH (name:=iM "__getitem__") ht.typeIs eG
  (eF eG ht.typeIs entry_tuple_getitem ?_ (args_tuple_getitem _ _)))
 show wpAny _ _ (rK (.ref t) >>= _) _ _ s;refine aA (tupleItemsOf_ ht ?_);refine aA (wpAny_typeOf hTs ?_);rw[if_pos (by decide)]
 refine aA (abb hs pl pu ?_);have hno:¬((((sIx items.size 0 lo:Nat):Int)==0&&(1:Int)==1&&(sIx items.size items.size hi - sIx items.size 0 lo)==items.size)=true):=by
  intro q;rw[bF,bF] at q;have q1:((sIx items.size 0 lo:Nat):Int)=0:=eq_of_beq q.1.1;have q2:sIx items.size items.size hi - sIx items.size 0 lo=items.size:=eq_of_beq q.2;exact hw ⟨by omega,by omega⟩
 show wpAny _ _ (if (((sIx items.size 0 lo:Nat):Int)==0&&(1:Int)==1&&(sIx items.size items.size hi - sIx items.size 0 lo)==items.size)=true then _ else _) _ _ s
 rw[if_neg hno,atl]
 first
  | exact aA (m:=iB _) (bU (aH ⟨_,rfl,aH h⟩) htake)
  | exact aA (m:=iB _) (bU (aA (aH (aH ⟨_,rfl,aH h⟩))) htake)
  | exact aA (aA (m:=iB _) (bU (aH (aH ⟨_,rfl,aH h⟩)) htake))
  | exact aA (aA (m:=iB _) (bU (aH ⟨_,rfl,aH h⟩) htake))
end
end HT
namespace L2
abbrev TO:=St->Hp->(Option Int->Hp->Prop)->Prop
def PO(X:Cx)(e:Option Expr)(t:TO):Prop :=
 ∀(zv:List (Addr×Obj)) (s:aJ) (σ:St) (H:Hp) (Q:Option Int->Hp->Prop),Inv X zv σ H s->t σ H Q ->
  wpAny (model X.prog X.w) X.A (evalPart e X.env) (fun u s'=>∃o H',Inv X zv σ H' s'/\pX u o/\Q o H') X.xe s
def awh:TO:=fun _ H Q=>Q none H
def a4s(t:TE):TO:=fun σ H Q=>t σ H fun x H1=>∃i,x=.int i/\Q (some i) H1
theorem intsAre_of{ns:List Int}:∀{us:List Value},Vals (ns.map V.int) us->mV us ns:=by
 induction ns with
 | nil=>intro us r;rw[pW] at r;cases r;exact .nil
 | cons n ns ih =>
  intro us r;rw[aU] at r;cases r with
  | cons r1 r2 =>
   obtain⟨t,e⟩:=r1;subst e;exact .cons n t (ih r2)
section
variable{X:Cx}{e:Expr}{te:TE}{lo hi:Option Expr}{tl th:TO}{pos p2:Pos}
theorem awz:PO X none awh:=by
 intro zv s σ H Q I h;rw[evalPart_none];exact aH ⟨none,H,I,.none,h⟩
theorem awy(h:PE X e te):PO X (some e) (a4s te):=by
 intro zv s σ H Q I hw;rw[evalPart_some];refine thn (h zv s σ H _ I hw) fun u s1 ⟨x,H1,I1,r1,q1⟩ =>?_
 obtain⟨i,rfl,q⟩:=q1;obtain⟨t,rfl⟩:=r1;exact⟨some i,H1,I1,.int i t,q⟩
def SlR(X:Cx)(r:V->Option Int->Option Int->Hp->VK->Prop):Prop :=
 ∀(zv:List (Addr×Obj)) (s:aJ) (σ:St) (H:Hp) (x:V) (v vl vu:Value) (lo hi:Option Int) (sl:Addr) (Q:VK),Inv X zv σ H s->RelV x v->s.heap.IsSliceOf sl vl vu .none->pX vl lo->pX vu hi->r x lo hi H Q ->
  ∃T id,typeLookup (.type T) "__getitem__" = pure (some (.builtin id))/\s.TypeIs v T/\wpAny (model X.prog X.w) X.A (pJ v (.ref sl)) (EP X zv σ Q) X.xe s
theorem SlR.or{r r':V->Option Int->Option Int->Hp->VK->Prop}(h:SlR X r)(h':SlR X r'):SlR X (fun x lo hi H Q=>r x lo hi H Q∨r' x lo hi H Q):=by
 intro zv s σ H x v vl vu lo hi sl Q I rx hs pl pu q;rcases q with q | q
 ·exact h zv s σ H x v vl vu lo hi sl Q I rx hs pl pu q
 ·exact h' zv s σ H x v vl vu lo hi sl Q I rx hs pl pu q
def tSl(r:V->Option Int->Option Int->Hp->VK->Prop)(te:TE)(tl th:TO):TE:=fun σ H Q=>te σ H fun x H1=>tl σ H1 fun l H2=>th σ H2 fun u H3=>r x l u H3 Q
theorem amd{r:V->Option Int->Option Int->Hp->VK->Prop}(hr:SlR X r)(he:PE X e te)(hl:PO X lo tl)(hu:PO X hi th):PE X (.Subscript e (.Slice lo hi none p2) pos) (tSl r te tl th):=by
 intro zv s σ H Q I h;refine Subscript_ (thn (he zv s σ H _ I h) fun v s1 ⟨x,H1,I1,r1,q1⟩ =>?_)
 refine wpAny_Slice (thn (hl zv s1 σ H1 _ I1 q1) fun vl s2 ⟨l,H2,I2,pl,q2⟩=>thn (hu zv s2 σ H2 _ I2 q2) fun vu s3 ⟨u,H3,I3,pu,q3⟩ =>?_)
 rw[evalPart_none];refine aH ?_;have I4:Inv X zv σ H3 { s3 with heap:=s3.heap.push { cls:=.type "slice", data:=.fields #[vl,vu,.none] } }:=I3.kept (t':=s3.toks) fun b ob q=>aB _ q
 obtain⟨T,id,hT,ht,hg⟩:=hr zv { s3 with heap:=s3.heap.push { cls:=.type "slice", data:=.fields #[vl,vu,.none] } } σ H3 x v vl vu l u s3.heap.objs.size Q I4 r1 (Heap.IsSliceOf.new ..) pl pu q3
 show wpAny (model X.prog X.w) X.A (subscriptTail e (.Slice lo hi none p2) v (.ref s3.heap.objs.size)) (EP X zv σ Q) X.xe { s3 with heap:=s3.heap.push { cls:=.type "slice", data:=.fields #[vl,vu,.none] } }
 exact tail_any (ops:=[.ref s3.heap.objs.size,v]) ht hT hg (by with_unfolding_all rfl)
def cutV(xs:List V)(lo hi:Option Int):List V:=(xs.drop (HT.sIx xs.length 0 lo)).take (HT.sIx xs.length xs.length hi - HT.sIx xs.length 0 lo)
theorem agn(xs:List V)(lo hi:Option Int):(cutV xs lo hi).length<=xs.length:=by
 unfold cutV;rw[gB,jG];omega
def rSlT(K:Fg9):V->Option Int->Option Int->Hp->VK->Prop:=fun x lo hi H Q=>∃a xs,x=.ref a/\SqT K H a xs /\
 ¬(HT.sIx xs.length 0 lo=0/\HT.sIx xs.length xs.length hi=xs.length)/\∀p,H p=none->Q (.ref p) (upd H p (.tup (cutV xs lo hi)))
theorem azv:SlR X (rSlT X.K):=by
 intro zv s σ H x v vl vu lo hi sl Q I rx hs pl pu h;obtain⟨a,xs,rfl,hx,hw,q⟩:=h;cases rx;obtain⟨its,r,ht,hz⟩:=I.tuple hx;have hlen:its.toArray.size=xs.length:=by rw[aV];exact r.length.symm
 refine⟨"tuple", _,eG.lookup,ht.typeIs,?_⟩;refine HT.aej ht hs pl pu (by rw[hlen];exact hw) ?_ (by rw[hlen];exact hz)
 rw[hlen];refine⟨.ref s.heap.objs.size,_,I.laid (t':=s.toks) (o:=.tup (cutV xs lo hi)) (fun b ob q=>aB _ q) (aM _) ?_,rfl,q _ (I.hok.fresh (aM _))⟩
 exact⟨Nat.le_trans (agn xs lo hi) hz,_,(r.drop (HT.sIx xs.length 0 lo)).take (HT.sIx xs.length xs.length hi - HT.sIx xs.length 0 lo),IsTp.new _ _⟩
def a5e(K:Fg9):R2:=fun x y H Q=>∃a b xs ys,x=.ref a/\y=.ref b/\SqT K H a xs/\SqT K H b ys/\xs≠[]/\xs.length+ys.length<=cD /\
 (ys=[]->Q (.ref a) H)/\(ys≠[]->∀p,H p=none->Q (.ref p) (upd H p (.tup (xs++ys))))
theorem Vals.nil_iff{xs:List V}{us:List Value}(r:Vals xs us):us=[]↔xs=[]:=by
 cases r with
 | nil=>simp
 | cons _ _=>simp
theorem axi:OpR X (fQ .Add) (a5e X.K):=by
 intro zv s σ H x y v u Q I rx ry h;obtain⟨a,b,xs,ys,rfl,rfl,ha,hb,hx,hz,q1,q2⟩:=h;cases rx;cases ry;obtain⟨its,r1,p1,_⟩:=I.tuple ha;obtain⟨its2,r2,p2,_⟩:=I.tuple hb;refine HT.ay2 p1 p2 (fun z=>hx (r1.nil_iff.mp z)) (fun z=>⟨.ref a,H,I,rfl,q1 (r2.nil_iff.mp z)⟩) (fun z =>?_) (by rw[<-r1.length,<-r2.length];exact hz)
 refine⟨.ref s.heap.objs.size,_,I.laid (t':=s.toks) (o:=.tup (xs++ys)) (fun b ob q=>aB _ q) (aM _) ?_,rfl,q2 (fun w=>z (r2.nil_iff.mpr w)) _ (I.hok.fresh (aM _))⟩
 exact⟨by rw[bM];exact hz,_,r1.append r2,IsTp.new _ _⟩
end
noncomputable def ixN(n:Nat)(i:Int):Option Nat:=if 0<=i then (if i < n then some i.toNat else none) else if -(n:Int)<=i then some (i+n).toNat else none
def atI{α:Type}(xs:List α)(i:Int):Option α:=(ixN xs.length i).bind fun j=>xs[j]?
theorem aql{n:Nat}{i:Int}{j:Nat}(h:ixN n i=some j):seqIndex? i n=some j/\j < n /\ -(n:Int)<=i/\i < n:=by
 unfold ixN at h
 by_cases h0:0<=i
 ·rw[if_pos h0] at h
  by_cases h1:i < n
  ·rw[if_pos h1] at h;have e:i.toNat=j:=bW h;exact⟨by rw[seqIndex_of h0 h1,e],by omega,by omega,h1⟩
  ·rw[if_neg h1] at h;cases h
 ·rw[if_neg h0] at h
  by_cases h1 : -(n:Int)<=i
  ·rw[if_pos h1] at h;have e:(i+n).toNat=j:=bW h;exact⟨by rw[seqIndex_neg (by omega) h1,e],by omega,h1,by omega⟩
  ·rw[if_neg h1] at h;cases h
theorem al1{α:Type}{xs:List α}{i:Int}{v:α}(h:atI xs i=some v):∃j,seqIndex? i xs.length=some j/\xs[j]? = some v/\j < xs.length /\ -(xs.length:Int)<=i/\i < xs.length:=by
 unfold atI at h;cases e:ixN xs.length i with
 | none=>rw[e] at h;cases h
 | some j =>
  rw[e] at h;obtain⟨h1,h2,h3,h4⟩:=aql e;exact⟨j,h1,h,h2,h3,h4⟩
theorem ais{α:Type}{xs:List α}{j:Nat}{v:α}(h:xs[j]? = some v):atI xs (j:Int)=some v:=by
 have hj:j < xs.length:=(aN.mp h).1;have e:ixN xs.length (j:Int)=some j:=by
  unfold ixN;rw[if_pos (by omega),if_pos (by omega)];simp
 unfold atI;rw[e];exact h
theorem au6{α:Type}(xs:List α)(v:α):atI (xs++[v]) (-1)=some v:=by
 have hl:(xs++[v]).length=xs.length+1:=by simp
 have e:ixN (xs++[v]).length (-1)=some xs.length:=by
  unfold ixN;rw[hl,if_neg (by decide),if_pos (by omega)]
  congr 1
  omega
 unfold atI;rw[e];show(xs++[v])[xs.length]? = some v;simp
def asf(b:Expr):Prop:=∀o i,subscripted b false o i=operate [o,i] (pJ o i)
def IxR(X:Cx)(r:R2):Prop :=
 ∀(value slice:Expr) (zv:List (Addr×Obj)) (s:aJ) (σ:St) (H:Hp) (x y:V) (v u:Value) (Q:VK),Inv X zv σ H s->RelV x v->RelV y u->r x y H Q ->
  subscripted slice false v u=operate [v,u] (pJ v u)->wpAny (model X.prog X.w) X.A (subscriptTail value slice v u) (EP X zv σ Q) X.xe s
def MtR(X:Cx)(id:String)(r:V->List V->Hp->VK->Prop):Prop :=
 ∀(zv:List (Addr×Obj)) (s:aJ) (σ:St) (H:Hp) (x:V) (xs:List V) (v:Value) (us:List Value) (Q:VK),Inv X zv σ H s->RelV x v->Vals xs us->r x xs H Q ->
  wpAny (model X.prog X.w) X.A (call (.builtin id) (v::us)) (EP X zv σ Q) X.xe s
section
variable{X:Cx}{a b:Expr}{ta tb:TE}{pos:Pos}
theorem IxR.or{r r':R2}(h:IxR X r)(h':IxR X r'):IxR X (fun x y H Q=>r x y H Q∨r' x y H Q):=by
 intro value slice zv s σ H x y v u Q I rx ry q hs;rcases q with q | q
 ·exact h value slice zv s σ H x y v u Q I rx ry q hs
 ·exact h' value slice zv s σ H x y v u Q I rx ry q hs
theorem MtR.or{id:String}{r r':V->List V->Hp->VK->Prop}(h:MtR X id r)(h':MtR X id r'):MtR X id (fun x xs H Q=>r x xs H Q∨r' x xs H Q):=by
 intro zv s σ H x xs v us Q I rx rs q;rcases q with q | q
 ·exact h zv s σ H x xs v us Q I rx rs q
 ·exact h' zv s σ H x xs v us Q I rx rs q
theorem a5l{r:R2}(hr:IxR X r)(ha:PE X a ta)(hb:PE X b tb)(hs:asf b):PE X (.Subscript a b pos) (tOp r ta tb):=by
 intro zv s σ H Q I h;exact Subscript_ (binT ha hb I h fun v u s2 x y H2 I2 rx ry q=>hr a b zv s2 σ H2 x y v u Q I2 rx ry q (hs _ _))
def rIxL(K:Fg9):R2:=fun x y H Q=>∃p xs i v,x=.ref p/\y=.int i/\SqL K H p xs/\atI xs i=some v/\Q v H
def rIxT(K:Fg9):R2:=fun x y H Q=>∃p xs i v,x=.ref p/\y=.int i/\SqT K H p xs/\atI xs i=some v/\Q v H
theorem axy:IxR X (rIxL X.K):=by
 intro value slice zv s σ H x y v u Q I rx ry h hs;obtain⟨p,xs,i,z,rfl,rfl,hq,he,q⟩:=h;cases rx;obtain⟨t,rfl⟩:=ry;obtain⟨its,r,pl,hz⟩:=I.list hq;obtain⟨j,h1,h2,h3,h4,h5⟩:=al1 he;obtain⟨w,ew,rw'⟩:=r.get h2;have hl:=r.length;have hn:=aju;have fin:EP X zv σ Q w s:=⟨z,H,I,rw',q⟩
 by_cases h0:0<=i
 ·have hj:i.toNat=j:=by
   rw[seqIndex_of h0 h5] at h1;exact bW h1
  exact item_listR pl.isList h0 (by omega) (by rw[hj];simpa using ew) fin hs
 ·have hj:(i+(its.toArray.size:Int)).toNat=j:=by
   rw[seqIndex_neg (by omega) h4] at h1
   rw[aV,<-hl];exact bW h1
  exact subscriptTail_builtinR (x:=w) pl.isList.typeIs slot_list_getitem.lookup
   (wpAny_getItem_list_neg (Q:=fun r s'=>r=w/\EP X zv σ Q r s') pl.isList (by omega) (by rw[aV] <;> omega) (by omega) (by rw[hj];simpa using ew) ⟨rfl,fin⟩) hs
theorem a1k:IxR X (rIxT X.K):=by
 intro value slice zv s σ H x y v u Q I rx ry h hs;obtain⟨p,xs,i,z,rfl,rfl,hq,he,q⟩:=h;cases rx;obtain⟨t,rfl⟩:=ry;obtain⟨its,r,pl,hz⟩:=I.tuple hq;obtain⟨j,h1,h2,h3,h4,h5⟩:=al1 he;obtain⟨w,ew,rw'⟩:=r.get h2;have hl:=r.length;have hn:=aju;have fin:EP X zv σ Q w s:=⟨z,H,I,rw',q⟩;exact subscriptTail_builtinR (x:=w) pl.typeIs slot_tuple_getitem.lookup
  (getItem_tuple (j:=j) (Q:=fun r s'=>r=w/\EP X zv σ Q r s') pl (by omega) (by omega) (by rw[aV,<-hl];exact h1) (by simpa using ew) ⟨rfl,fin⟩) hs
theorem aog(its:List Value)(n j:Nat)(u:Value):gK (·.setIfInBounds j u) { cls:=.type "list", data:=.seq its.toArray n }={ cls:=.type "list", data:=.seq (its.set j u).toArray n }:=by
 simp[gK]
theorem Inv.lst{zv:List (Addr×Obj)}{σ:St}{H:Hp}{s:aJ}{p:Addr}{xs:List V}(I:Inv X zv σ H s)(h:H p=some (.lst xs)) :
  ∃(its:List Value) (n:Nat),Vals xs its/\s.heap.get? p=some { cls:=.type "list", data:=.seq its.toArray n }/\xs.length<=cD:=by
 obtain⟨z,its,n,r,e⟩:=I.hok p _ h;exact⟨its,n,r,e,z⟩
theorem Inv.lstUpd{zv:List (Addr×Obj)}{σ:St}{H:Hp}{s:aJ}{p:Addr}{xs ys:List V}{its its':List Value}{n n':Nat}{f:Obj->Obj}(I:Inv X zv σ H s)(h:H p=some (.lst xs))
  (ho:s.heap.get? p=some { cls:=.type "list", data:=.seq its.toArray n }) (hf:f { cls:=.type "list", data:=.seq its.toArray n }={ cls:=.type "list", data:=.seq its'.toArray n' }) (r:Vals ys its') (hz:ys.length<=cD) (t:Nat) :
  Inv X zv σ (upd H p (.lst ys)) { s with heap:=s.heap.update p f,toks:=t }:=by
 have e:(s.heap.update p f).get? p=some { cls:=.type "list", data:=.seq its'.toArray n' }:=by
  rw[bZ f ho (by rw[hf] <;> rfl),hf]
 refine I.write (x:=p) (e:=p) (by rw[h];trivial) (.inl rfl) (fun b u hb q=>(eV _ _ (iI hb)).trans q) ⟨_,e⟩ ?_
 exact⟨hz,its',n',r,e⟩
def a5d:V->V->V->Hp->(Hp->Prop)->Prop:=fun o i v H Q=>∃p xs k j,o=.ref p/\i=.int k/\H p=some (.lst xs)/\ixN xs.length k=some j/\Q (upd H p (.lst (xs.set j v)))
theorem set_list:PSet X a5d:=by
 intro zv s σ H o i v ov iv u Q I ro ri rv h;obtain⟨p,xs,k,j,rfl,rfl,hp,hj,q⟩:=h;cases ro;obtain⟨t,rfl⟩:=ri;obtain⟨its,n,r,ho,hz⟩:=I.lst hp;obtain⟨h1,h2,h3,h4⟩:=aql hj;have hl:=r.length;have hn:=aju;have I':Inv X zv σ (upd H p (.lst (xs.set j v))) { s with heap:=s.heap.update p (gK (·.setIfInBounds j u)) } :=
  I.lstUpd hp ho (aog its n j u) (r.set rv j) (by rw[bC];exact hz) s.toks
 by_cases h0:0<=k
 ·have hk:k.toNat=j:=by
   rw[seqIndex_of h0 h4] at h1;exact bW h1
  exact PySem.W.ki_setAt ho h0 (by omega) (by rw[aV,<-hl];exact h4) (by rw[hk];exact⟨_,I',q⟩)
 ·have hk:(k+(its.toArray.size:Int)).toNat=j:=by
   rw[seqIndex_neg (by omega) h3] at h1
   rw[aV,<-hl];exact bW h1
  exact PySem.W.ki_setBack ho (by omega) (by rw[aV,<-hl];exact h3) (by omega) (by rw[hk];exact⟨_,I',q⟩)
theorem ai6(lo hi:Option Int)(n:Nat):(sliceBounds lo hi none n).1=((HT.sIx n 0 lo:Nat):Int)/\(sliceBounds lo hi none n).2.1=((HT.sIx n n hi:Nat):Int)/\(sliceBounds lo hi none n).2.2=1:=by
 refine⟨?_,?_,rfl⟩
 ·cases lo with
  | none=>simp[sliceBounds,HT.sIx]
  | some i =>
   simp only[sliceBounds,HT.sIx,qC,show(1:Int) > 0 by decide,if_true]
   by_cases h:i < 0
   ·simp only[h,if_true] <;> omega
   ·simp only[h,if_false] <;> omega
 ·cases hi with
  | none=>simp[sliceBounds,HT.sIx]
  | some i =>
   simp only[sliceBounds,HT.sIx,qC,show(1:Int) > 0 by decide,if_true]
   by_cases h:i < 0
   ·simp only[h,if_true] <;> omega
   ·simp only[h,if_false] <;> omega
theorem aht(its:List Value)(lo hi:Option Int):slicePick its.toArray lo hi none=((its.drop (HT.sIx its.length 0 lo)).take (HT.sIx its.length its.length hi - HT.sIx its.length 0 lo)).toArray:=by
 obtain⟨h1,h2,h3⟩:=ai6 lo hi its.toArray.size;unfold slicePick;rw[h1,h2,h3];simp only[sliceRange_one,pick_run,aV] <;> rfl
def rSlL(K:Fg9):V->Option Int->Option Int->Hp->VK->Prop:=fun x lo hi H Q=>∃a xs,x=.ref a/\SqL K H a xs/\∀p,H p=none->Q (.ref p) (upd H p (.lst (cutV xs lo hi)))
theorem apl:SlR X (rSlL X.K):=by
 intro zv s σ H x v vl vu lo hi sl Q I rx hs pl pu h;obtain⟨a,xs,rfl,hx,q⟩:=h;cases rx;obtain⟨its,r,ht,hz⟩:=I.list hx;have hlen:=r.length;refine⟨"list", _,slot_list_getitem.lookup,ht.isList.typeIs,?_⟩;refine wpAny_getItem_list_slice ht.isList hs pl pu .none (by simp) ?_ (by rw[aV] <;> omega)
 rw[aht,<-hlen];refine⟨.ref s.heap.objs.size,_,I.laid (t':=s.toks) (o:=.lst (cutV xs lo hi)) (fun b ob q=>aB _ q) (aM _) ?_,rfl,q _ (I.hok.fresh (aM _))⟩
 exact⟨Nat.le_trans (agn xs lo hi) hz,_,0,(r.drop (HT.sIx xs.length 0 lo)).take (HT.sIx xs.length xs.length hi - HT.sIx xs.length 0 lo),aK _ rfl⟩
theorem akf:zj X (.builtin "len") (fun xs H Q=>∃p ys,xs=[.ref p]/\(SqL X.K H p ys∨SqT X.K H p ys)/\Q (.int ys.length) H):=by
 intro zv s σ H xs us Q I r h;obtain⟨p,ys,rfl,hq,q⟩:=h;obtain⟨u,rfl,rx⟩:=vals1 r;cases rx;have hn:=aju;rcases hq with hq | hq
 ·obtain⟨its,r',pl,hz⟩:=I.list hq;have hlen:=r'.length;exact Calls.call_len_list pl.isList (by simp only[aV] <;> omega) ⟨.int ys.length,H,I.tok _,⟨s.toks+1,by rw[aV,hlen]⟩,q⟩
 ·obtain⟨its,r',pl,hz⟩:=I.tuple hq;have hlen:=r'.length;exact len_tuple pl (by simp only[aV] <;> omega) ⟨.int ys.length,H,I.tok _,⟨s.toks+1,by rw[aV,hlen]⟩,q⟩
theorem zj.or{f:Value}{r r':List V->Hp->VK->Prop}(h:zj X f r)(h':zj X f r'):zj X f (fun xs H Q=>r xs H Q∨r' xs H Q):=by
 intro zv s σ H xs us Q I rs q;rcases q with q | q
 ·exact h zv s σ H xs us Q I rs q
 ·exact h' zv s σ H xs us Q I rs q
theorem ake:zj X (.type "list") (fun xs H Q=>∃p ys,xs=[.ref p]/\(SqL X.K H p ys∨SqT X.K H p ys)/\∀l,H l=none->Q (.ref l) (upd H l (.lst ys))):=by
 intro zv s σ H xs us Q I r h;obtain⟨p,ys,rfl,hq,q⟩:=h;obtain⟨u,rfl,rx⟩:=vals1 r;cases rx;have fin:∀(its:List Value),Vals ys its->ys.length<=cD->∀(h':Heap) (c':Nat),(∀b o',s.heap.get? b=some o'->h'.get? b=some o') ->
   h'.get? s.heap.objs.size=some { cls:=.type "list", dict:=none,data:=.seq its.toArray c',slots := #[] }->EP X zv σ Q (.ref s.heap.objs.size) { s with heap:=h' }:=fun its r' hz h' c' kp e =>
  ⟨.ref s.heap.objs.size,_,I.laid (t':=s.toks) kp (aM _) (show ym X.prog X.w _ h' _ (.lst ys) from⟨hz,its,c',r',e⟩),rfl,q _ (I.hok.fresh (aM _))⟩
 rcases hq with hq | hq
 ·obtain⟨its,r',pl,hz⟩:=I.list hq;have hlen:=r'.length;obtain⟨o,ho,hc,n,hd⟩:=pl.isList;exact call_list_seq p (.inl rfl) ho hc hd (fun h' c' kp e=>fin its r' hz h' c' kp e) (by simp only[aV] <;> omega)
 ·obtain⟨its,r',pl,hz⟩:=I.tuple hq;have hlen:=r'.length;obtain⟨o,ho,hc,n,hd⟩:=pl;exact call_list_seq p (.inr rfl) ho hc hd (fun h' c' kp e=>fin its r' hz h' c' kp e) (by simp only[aV] <;> omega)
theorem aa8:zj X (.type "tuple") (fun xs H Q=>∃p ys,xs=[.ref p]/\((SqL X.K H p ys/\∀l,H l=none->Q (.ref l) (upd H l (.tup ys)))∨(SqT X.K H p ys/\Q (.ref p) H))):=by
 intro zv s σ H xs us Q I r h;obtain⟨p,ys,rfl,h⟩:=h;obtain⟨u,rfl,rx⟩:=vals1 r;cases rx;rcases h with⟨hq,q⟩ | ⟨hq,q⟩
 ·obtain⟨its,r',pl,hz⟩:=I.list hq;have hlen:=r'.length;refine call_tuple_list pl.isList (fun h' kp =>?_) (by simp only[aV] <;> omega)
  have I1:Inv X zv σ H { s with heap:=h' }:=I.kept (t':=s.toks) kp
  have I2:Inv X zv σ (upd H h'.objs.size (.tup ys)) { s with heap:=h'.push { cls:=.type "tuple", data:=.seq its.toArray } } :=
   I1.laid (t':=s.toks) (fun b o e=>aB _ e) (aM _) (show ym X.prog X.w _ _ _ (.tup ys) from⟨hz,its,r',IsTp.new _ _⟩)
  exact⟨.ref h'.objs.size,_,I2,rfl,q _ (I1.hok.fresh (aM _))⟩
 ·obtain⟨its,r',pl,hz⟩:=I.tuple hq;exact call_tuple_same pl ⟨.ref p,H,I,rfl,q⟩
def tyV(K:Fg9)(T:String)(x:V)(H:Hp):Prop:=match x with
 | .str _=>T = "str"
 | .int _=>T = "int"
 | .ref p=>(T = "list" /\ ∃xs,SqL K H p xs)∨(T = "tuple" /\ ((∃o,K.lookup p=some o/\o.cls=.type "tuple" /\ o.dict=none)∨∃xs,H p=some (.tup xs))) ∨
   (T = "dict" /\ ((∃kvs,H p=some (.dK kvs))∨∃kvs,H p=some (.dT kvs)))∨(T = "set" /\ ∃S n,H p=some (.set S n))
 | _=>False
theorem azm{zv:List (Addr×Obj)}{σ:St}{H:Hp}{s:aJ}{T:String}{x:V}{v:Value}(I:Inv X zv σ H s)(r:RelV x v)(ty:tyV X.K T x H) :
  s.TypeIs v T/\∀a,v=.ref a->∃ob,s.heap.get? a=some ob/\ob.dict=none:=by
 cases x with
 | str z =>
  obtain⟨t,rfl⟩:=r;cases(show T = "str" from ty)
  exact⟨typeIs_str s z t,fun _ e=>nomatch e⟩
 | int i =>
  obtain⟨t,rfl⟩:=r;cases(show T = "int" from ty)
  exact⟨typeIs_int s i t,fun _ e=>nomatch e⟩
 | ref p =>
  cases r;rcases ty with⟨rfl,xs,hq⟩ | ⟨rfl,⟨o,hk,hc,hd⟩ | ⟨xs,hk⟩⟩ | ⟨rfl,hk⟩ | ⟨rfl,S,n,hk⟩
  ·obtain⟨its,_,pl,_⟩:=I.list hq;refine⟨pl.isList.typeIs,fun a e =>?_⟩
   cases e;obtain⟨o,n,e,c,hd,_⟩:=pl;exact⟨o,e,hd⟩
  ·refine⟨⟨o,I.kIn p o hk,hc⟩,fun a e =>?_⟩
   cases e;exact⟨o,I.kIn _ o hk,hd⟩
  ·obtain⟨_,_,_,o,e,hc,hd,_⟩:=I.hok p _ hk;refine⟨⟨o,e,hc⟩,fun a e2 =>?_⟩
   cases e2;exact⟨o,e,hd⟩
  ·have z:∃o,s.heap.get? p=some o/\o.ExactDict:=by
    rcases hk with⟨kvs,hk⟩ | ⟨kvs,hk⟩
    ·obtain⟨_,_,_,_,o,_,_,e,ex,_⟩:=I.hok p _ hk;exact⟨o,e,ex⟩
    ·obtain⟨_,_,_,_,o,_,_,e,ex,_⟩:=I.hok p _ hk;exact⟨o,e,ex⟩
   obtain⟨o,e,ex⟩:=z;refine⟨⟨o,e,ex.1⟩,fun a e2 =>?_⟩
   cases e2;exact⟨o,e,ex.2.1⟩
  ·obtain⟨o,_,_,_,e,ex,_⟩:=I.hok p _ hk;refine⟨⟨o,e,ex.1⟩,fun a e2 =>?_⟩
   cases e2;exact⟨o,e,ex.2.1⟩
 | _=>exact gG ty
def tBM(K:Fg9)(T:String)(r:V->List V->Hp->VK->Prop)(to:TE)(t:TA):TE:=fun σ H Q=>to σ H fun x H1=>tyV K T x H1/\t σ H1 fun xs H2=>r x xs H2 Q
variable{o e:Expr}{es:List Expr}{to:TE}{t:TA}{name:Str}{apos cpos:Pos}{T id:String}{r:V->List V->Hp->VK->Prop}
theorem axc(pa:PlainAttrs T)(slot:Slot T name id)(hty:typeOf (.builtin id)=pure (.type "method_descriptor"))(hm:MtR X id r)(ho:PE X o to)(ha:PA X (e::es) t)
  (hbase:gC o name X.env (eval o X.env)=eval o X.env:=by rfl)
  (hfew:((jA cpos (aW (e::es) X.env)).all (fun x => !x.1)&&(backToKw cpos (keywordEach [] X.env)).all (fun x=>x.1.isSome)
   && decide ((e::es).length+([]:List Keyword).length+(if ([]:List Keyword).isEmpty then 0 else 1) < 30))=true:=by rfl)
  (hline:(apos.endLine==cpos.line)=true:=by rfl) (hs:aW (e::es) X.env=(false,eval e X.env)::aW es X.env:=by rfl) (hplain:(jA cpos (aW es X.env)).any (·.1)=false:=by rfl) :
  PE X (.Call (.Attribute o name apos) (e::es) [] cpos) (tBM X.K T r to t):=by
 intro zv s σ H Q I h;refine wpAny_Call_method_late hbase hfew hline rfl (thn (ho zv s σ H _ I h) fun v s1 ⟨x,H1,I1,r1,ty,q1⟩ =>?_)
 obtain⟨h1,h2⟩:=azm I1 r1 ty;refine⟨T,id,pa,slot,hty,h1,h2,?_⟩;have hA:=ha cpos zv s1 σ H1 _ I1 q1;rw[hs] at hA ⊢
 refine Calls.callWith_builtin (by show(false||(jA cpos (aW es X.env)).any (·.1))=false;rw[hplain] <;> rfl) (Calls.evalArgs_plain ?_)
 exact thn hA fun us s2 ⟨vs,H2,I2,r2,q2⟩=>hm zv s2 σ H2 x vs v us Q I2 r1 r2 q2
end
def MtM(X:Cx)(id:String)(r:V->List V->Hp->VK->Prop):Prop :=
 ∀(zv:List (Addr×Obj)) (s:aJ) (σ:St) (H:Hp) (x:V) (xs:List V) (v:Value) (us:List Value) (Q:VK),Inv X zv σ H s->RelV x v->Vals xs us->r x xs H Q ->
  wpAny (model X.prog X.w) X.A (call (.builtin id) (v::us)) (EP X zv σ Q) X.xe s
theorem Vals.one:∀{x:V} {us:List Value},Vals [x] us->∃u,us=[u]/\RelV x u
 | _,_,.cons r .nil=>⟨_,rfl,r⟩
theorem Vals.two:∀{x y:V} {us:List Value},Vals [x,y] us->∃u v,us=[u,v]/\RelV x u/\RelV y v
 | _,_,_,.cons r (.cons q .nil)=>⟨_,_,rfl,r,q⟩
theorem Vals.zero:∀{us:List Value},Vals [] us->us=[]
 | _,.nil=>rfl
theorem Vals.eraseIdx:∀{xs:List V} {us:List Value} (i:Nat),Vals xs us->Vals (xs.eraseIdx i) (us.eraseIdx i)
 | _,_,_,.nil=>.nil
 | _,_,0,.cons _ t=>t
 | _,_,i+1,.cons r t=>.cons r (Vals.eraseIdx i t)
theorem Vals.reverse{xs:List V}{us:List Value}(h:Vals xs us):Vals xs.reverse us.reverse:=by
 induction h with
 | nil=>exact .nil
 | cons r t ih=>rw[vC,vC];exact Vals.append ih (.cons r .nil)
theorem Vals.rep{xs:List V}{us:List Value}(h:Vals xs us):∀k:Nat,Vals (aD k xs).flatten (aD k us).flatten
 | 0=>.nil
 | k+1=>by
  rw[eE,eE,gY,gY];exact Vals.append h (Vals.rep h k)
theorem foldl_rep(its:List Value):∀(k:Nat) (acc:List Value),
  jM (fun x1 x2=>x1++x2) acc.toArray (aD k its.toArray)=(acc++(aD k its).flatten).toArray
 | 0,acc=>by simp
 | k+1,acc=>by
  have e:acc.toArray++its.toArray=(acc++its).toArray:=by simp
  have e2:(acc++its)++(aD k its).flatten=acc++(aD (k+1) its).flatten:=by
   rw[eE,gY,fX]
  rw[<-e2,<-foldl_rep its k (acc++its),<-e,eE,fB]
section
variable{X:Cx}{zv:List (Addr×Obj)}{σ:St}{H:Hp}{s:aJ}{l b:Addr}{xs ys zs:List V}
theorem Inv.lset{its its':List Value}{n:Nat}{f:Array Value->Array Value}{t':Nat}(I:Inv X zv σ H s)(hH:H l=some (.lst xs))
  (e:s.heap.get? l=some { cls:=.type "list", data:=.seq its.toArray n }) (hf:f its.toArray=its'.toArray) (hv:Vals ys its') (hz:ys.length<=cD) :
  Inv X zv σ (upd H l (.lst ys)) { s with heap:=s.heap.update l (gK f),toks:=t' }:=by
 have q:=PySem.IsL.update e f;rw[hf] at q;refine I.write (x:=l) (e:=l) (by rw[hH];exact trivial) (.inl rfl) (fun b' u hb hu=>(eV s.heap (gK f) (iI hb)).trans hu) ⟨_,q⟩ ?_
 exact⟨hz,its',_,hv,q⟩
theorem Inv.lnew{its:List Value}{t':Nat}(I:Inv X zv σ H s)(hv:Vals ys its)(hz:ys.length<=cD) :
  Inv X zv σ (upd H s.heap.objs.size (.lst ys)) { s with heap:=s.heap.push { cls:=.type "list", data:=.seq its.toArray },toks:=t' } :=
 I.laid (fun _ _ q=>aB _ q) (aM _) ⟨hz,its,0,hv,aK _ rfl⟩
theorem Inv.fresh(I:Inv X zv σ H s):H s.heap.objs.size=none:=I.hok.fresh (aM _)
theorem Inv.lstM(I:Inv X zv σ H s)(hH:H l=some (.lst xs)):xs.length<=cD/\∃(its:List Value) (n:Nat),Vals xs its/\xs.length=its.length/\s.heap.get? l=some { cls:=.type "list", data:=.seq its.toArray n }:=by
 obtain⟨z,its,n,r,e⟩:=I.hok l _ hH;exact⟨z,its,n,r,r.length,e⟩
theorem atv{n:Nat}(h:n<=cD):sH n=false:=by
 unfold sH;exact decide_eq_false (by omega)
end
section
variable{X:Cx}
def apt:V->List V->Hp->VK->Prop:=fun x vs H Q=>∃l xs y,x=.ref l/\vs=[y]/\H l=some (.lst xs)/\xs.length < cD/\Q .non (upd H l (.lst (xs++[y])))
theorem abl:MtM X "list.append" apt:=by
 intro zv s σ H x vs v us Q I rx rv h;obtain⟨l,xs,y,rfl,rfl,hH,hz,q⟩:=h;cases rx;obtain⟨u,rfl,ru⟩:=rv.one;obtain⟨z,its,n,r,hl,e⟩:=I.lstM hH;refine jU F.slot_list_append ⟨_,e,rfl⟩ F.entry_list_append (F.args_list_append_2 _ _) (PySem.list_append l its.toArray n u (by rw[aV];omega)) ⟨e,?_⟩
 refine⟨.non,_,I.lset (its':=its++[u]) hH e (by simp) (r.append (.cons ru .nil)) ?_,rfl,q⟩
 rw[bM,List.length_singleton];omega
def rReverse:V->List V->Hp->VK->Prop:=fun x vs H Q=>∃l xs,x=.ref l/\vs=[]/\H l=some (.lst xs)/\Q .non (upd H l (.lst xs.reverse))
def rCat:R2:=fun x y H Q=>∃l b xs zs,x=.ref l/\y=.ref b/\H l=some (.lst xs)/\H b=some (.lst zs)/\xs.length+zs.length<=cD/\∀p,H p=none->Q (.ref p) (upd H p (.lst (xs++zs)))
theorem a0t:OpR X (fQ .Add) rCat:=by
 intro zv s σ H x y v u Q I rx ry h;obtain⟨l,b,xs,zs,rfl,rfl,hH,hB,hz,q⟩:=h;cases rx;cases ry;obtain⟨z,its,n,r,hl,e⟩:=I.lstM hH;obtain⟨z2,its2,n2,r2,hl2,e2⟩:=I.lstM hB;refine PySem.P.add_list e e2 ?_ (by rw[aV,aV];omega)
 have ea:its.toArray++its2.toArray=(its++its2).toArray:=by simp
 rw[ea];exact⟨.ref _,_,I.lnew (t':=s.toks) (r.append r2) (by rw[bM];omega),rfl,q _ I.fresh⟩
def rRep:R2:=fun x y H Q=>∃l k xs,x=.ref l/\y=.int k/\H l=some (.lst xs) /\ -(2 ^ 63)<=k/\k < 2 ^ 63/\xs.length*k.toNat<=cD /\
 ∀p,H p=none->Q (.ref p) (upd H p (.lst (aD k.toNat xs).flatten))
theorem len_rep{α:Type}(xs:List α)(k:Nat):(aD k xs).flatten.length=k*xs.length:=by
 induction k with
 | zero=>simp
 | succ k ih=>rw[eE,gY,bM,ih,Nat.succ_mul,Nat.add_comm]
theorem a0p:OpR X (fQ .Mult) rRep:=by
 intro zv s σ H x y v u Q I rx ry h;obtain⟨l,k,xs,rfl,rfl,hH,h1,h2,hz,q⟩:=h;cases rx;obtain⟨t,rfl⟩:=ry;obtain⟨z,its,n,r,hl,e⟩:=I.lstM hH;have hlen:its.toArray.size*k.toNat<=cD:=by rw[aV,<-hl];exact hz
 have hcap:¬its.toArray.size*k.toNat > (2 ^ 63 - 1) / 8:=by
  have:(cD:Nat)<=(2 ^ 63 - 1) / 8:=by decide
  omega
 have hfit:¬(!Builtin.List.listFitsIndex k)=true:=by
  rw[fitsIndex_both h1 h2];exact dX
 have hlong:¬Builtin.List.listTooLong (its.toArray.size*k.toNat)=true:=by
  rw[atv hlen];exact dX
 have hnew:jM (fun x1 x2=>x1++x2) #[] (aD (if its.toArray.isEmpty=true then 0 else k.toNat) its.toArray)=(aD k.toNat its).flatten.toArray:=by
  have f0:∀m:Nat,jM (fun x1 x2=>x1++x2) #[] (aD m its.toArray)=(aD m its).flatten.toArray:=fun m=>by
   have:=foldl_rep its m [];rw[cU] at this;exact this
  rw[f0];cases its with
  | nil=>simp
  | cons a r'=>rw[if_neg (by simp)]
 refine wpAny_binaryOp_repeat_ref (T := "list") (U := "int") (by decide) ⟨_,e,rfl⟩ (fun s'=>typeIs_int s' k t) noFill_list_mul rA jR repeat_list qJ.lookup
  (jU jR (typeIs_int s k t) qK (pR _ _) (int___rmul___int_list k t l its.toArray n)
   ⟨e,rfl,⟨_,e,rfl⟩,jU F.slot_list_mul ⟨_,e,rfl⟩ F.entry_list_mul (F.args_list_mul_2 _ _) (AutoListH.list___mul___list_int_3 l its.toArray n k t hfit hcap hlong) ⟨e,?_⟩⟩)
 rw[hnew];exact⟨.ref _,_,I.lnew (t':=s.toks) (r.rep k.toNat) (by rw[len_rep,tR];exact hz),rfl,q _ I.fresh⟩
end
section
variable{prog:aZ}{w:World}{A:cI}{E:Value->aJ->Prop}{s:aJ}
end
section
variable{X:Cx}
end
end L2
namespace Att
open PySem PySem.W PySem.Calls PyProof.Rows
theorem af6{P:Params}{h:Heap}:∀(ns:List Int) (vs:List Value),WellAll P h vs (ns.map WData.int)->mV vs ns:=by
 intro ns
 induction ns with
 | nil =>
  intro vs w;rw[pW] at w;cases w;exact .nil
 | cons n ns ih =>
  intro vs w;rw[aU] at w;cases w with
  | cons a b =>
   cases a;exact .cons _ _ (ih _ b)
theorem apo{l:OpenLaw}{n:Nat}(hn:l.most=some n){P:Params}{h:Heap}{args:List WData}{vals:List Value}
  (hpre:l.row.toRowW.claim.pre args=true) (hwl:WellAll P h vals args) :
  ∃a vs ns,vals=[dN a]/\args=[WData.list (ns.map WData.int)]/\h.get? a=some { cls:=.type "list", data:=.seq vs.toArray }/\mV vs ns/\ns.length<=n:=by
 have hsh:WShape.hasAll [] args [.list .int]=true:=(pre_splitW hpre).1;have hc:l.pre.holds [] { args:=args }=true:=(pre_splitW hpre).2;obtain⟨d,r,rfl,h1,h2⟩:=hasAllW_cons hsh;obtain rfl:=hasAllW_nil h2;obtain⟨xs,rfl,h3⟩:=hasW_list h1;obtain⟨ns,rfl⟩:=items_int h3;have hlen:ns.length<=n:=by
  unfold OpenLaw.pre at hc;have h4:(WTm.not (.lt (.lit (.int (n:Int))) (.len (.arg 0)))).holds [] { args:=[.list (ns.map .int)] }=true:=by
   have h4:=(holds_andW hc).1;rw[hn] at h4;exact h4
  have h5:=condW_of h4 (w_not (w_lt w_lit (w_len_list (w_arg rfl))));rw[aF] at h5;refine Nat.le_of_not_lt fun q =>?_
  have q':(n:Int) < ((ns.length:Nat):Int):=by omega
  first
   | (rw[decide_eq_true q'] at h5;exact absurd h5 (by decide))
   | (simp at h5;omega)
 cases hwl with
 | cons w1 w2 =>
  cases w2;cases w1 with
  | list ho hall=>exact⟨_,_,ns,rfl,rfl,ho,af6 ns _ hall,hlen⟩
theorem apw(l:OpenLaw)(args:List WData):l.row.toRowW.claim.post args (.bool true) args=true :=
 postW_of (r:=l.row.toRowW) (X:=(true==true))
  (show WShape.has [] (.bool true) .bool=true by first | rfl | decide | simp[WShape.has,WShape.arms,WShape.armsAll])
  (show(WTm.eq .res (.lit (.bool true))).value [] { args:=args,res:=some (.bool true),after:=args }=some (.bool (true==true)) from w_eq_bool (w_res rfl) w_lit) rfl
theorem al0{l:OpenLaw}{n:Nat}{q:aZ}{loose:List Str}{XP:(Str->Option Value)->Heap->Prop}{YP:World->Heap->Prop}{d:DefRec}
  (hn:l.most=some n) (hdf:d.params.defaults=[])
  (call:∀(w:World) (s₀ s₁:aJ) (mg mb:Str->Option Value) (fa:Addr) (o:Obj) (pm cd doc:Value) (a:Addr) (vs:List Value) (ns:List Int),
   Ground q loose [] XP w s₀ mg mb s₁.heap->YP w s₁.heap ->
   s₁.heap.get? fa=some o->o.data=.func (docDef d.name d.params d.body d.scope pm cd doc)->s₁.heap.CodeRec cd d.name->mg d.name=some (.ref fa) ->
   s₁.heap.get? a=some { cls:=.type "list", data:=.seq vs.toArray }->mV vs ns->ns.length<=n->s₁.gens = #[] ->
   mK (model l.prog w) pK (.call (.ref fa) ⟨[.ref a],[]⟩) (fun r s'=>r=.ok (.ret (.bool true))/\OldK s₁.heap s'.heap/\s'.os=s₁.os/\oX s'.gens) s₁) :
  WalkO q loose XP YP l.row.toRowW d [] (fun f vs=>uW f vs):=by
 intro w s₀ s₁ mg mb G Y fa o pm cd doc dV kV ho hd hcd hD hmg hg args vals as hpre hlay hrd hwl hlo;obtain rfl:dV=.none:=Dflts.none hD hdf;obtain rfl:kV=.none:=Dflts.noKw hD;obtain⟨a,vs,ns,rfl,rfl,hobj,hints,hlen⟩:=apo hn hpre hwl;refine enter_call (codeAny_mono (call w s₀ s₁ mg mb fa o pm cd doc a vs ns G Y ho (fd_plain hd) hcd hmg hobj hints hlen hg) fun r s' hq =>?_)
 obtain⟨rfl,h2,h3,h4⟩:=hq;exact⟨.inl ⟨.bool true,.bool true,[],rfl,fun _=>rfl,.bool true,apw l _,fun _=>⟨List.Pairwise.nil,fun _ hm=>(nomatch hm)⟩⟩,h2,h3,h4⟩
section
variable{prog:aZ}{w:World}{A:cI}{E:Value->aJ->Prop}{s:aJ}{K:Frag}
end
end Att
namespace L2
theorem aiz:∀{vs:List Value} {ns:List Int},mV vs ns->Vals (ns.map V.int) vs
 | _,_,.nil=>.nil
 | _,_,.cons n t h=>.cons ⟨t,rfl⟩ (aiz h)
def Only(H:Hp):Prop:=∀b,H b=none∨∃o xs,H b=some (.frz o (.lst xs))
theorem at9{P:aZ}{w:World}{K:Fg9}{mg mb:Str->Option Value}{CX:CXT}{k:Nat}{fa a:Addr}{fd:fM}{x:Str}{sp:Sp}{s₁:aJ}{vs:List Value}{ns:List Int}
  (KX:K.In s₁.heap) (hns:s₁.heap.Ns aP mg) (hb:s₁.heap.Ns builtinsNs mb) (hbb:∀x:Str,x ≠ "__name__" -> mb x=bV x) (hlim:s₁.heap.NoLimit) (hg:s₁.gens = #[])
  (ha:s₁.heap.get? a=some { cls:=.type "list", data:=.seq vs.toArray }) (hi:mV vs ns) (hl:ns.length<=cD) (hr:Room k pK)
  (F:∀base:Heap,K.In base->base.Ns aP mg->FnOk P w K mg base CX k fa fd [x] sp) (hbind:∀(s:aJ) (u:Value),pU s fd ⟨[u],[]⟩ [(x,u)])
  (hsp:∀H:Hp,Only H->SqL K H a (ns.map V.int)->sp [.ref a] H (fun v _=>v=.bl true) fun _ _ _=>False)
  (hCX:∀H e s',CX [] H s₁ (fun _ _ _=>False) e s'->False) :
  mK (model P w) pK (.call (.ref fa) ⟨[.ref a],[]⟩) (fun r s'=>r=.ok (.ret (.bool true))/\OldK s₁.heap s'.heap/\s'.os=s₁.os/\oX s'.gens) s₁:=by
 have rv:=aiz hi;have lenV:=hi.length;have core:∀H:Hp,Only H->SqL K H a (ns.map V.int)->HOk P w H s₁.heap->(∀b,H b≠none->b=a)->(H a≠none->K.lookup a=none) ->
   mK (model P w) pK (.call (.ref fa) ⟨[.ref a],[]⟩) (fun r s'=>r=.ok (.ret (.bool true))/\OldK s₁.heap s'.heap/\s'.os=s₁.os/\oX s'.gens) s₁:=by
  intro H hO hS hok hA hK;have base_of:∀{b:Addr} {o:Obj},s₁.heap.get? b=some o->H b=none->(hidT s₁.heap H).get? b=some o:=fun e n=>auh e n
  have noA:∀{b:Addr} {o:Obj} {es:Array DictEntry} {ep:Nat},s₁.heap.get? b=some o->o.data=.dict es ep->H b=none:=fun{b o es ep} e d=>by
   cases q:H b with
   | none=>rfl
   | some u =>
    have e':b=a:=hA b (by rw[q];simp)
    subst e';rw[ha] at e;cases e;have d':Data.seq vs.toArray _=Data.dict es ep:=d;cases d'
  have nsK:∀{b:Addr} {m:Str->Option Value},s₁.heap.Ns b m->(hidT s₁.heap H).Ns b m:=fun{b m} ⟨o,es,ep,e,d,r⟩=>⟨o,es,ep,base_of e (noA e d),d,r⟩
  have hKb:K.In (hidT s₁.heap H):=fun b o e=>base_of (KX b o e) (by
   cases q:H b with
   | none=>rfl
   | some u =>
    have e':b=a:=hA b (by rw[q];simp)
    subst e';rw[hK (by rw[q];simp)] at e;cases e)
  have hM:Mod K mg (hidT s₁.heap H):=⟨hKb,nsK hns,⟨mb,nsK hb,hbb⟩,let ⟨mc,h1,h2⟩:=hlim;⟨mc,nsK h1,h2⟩⟩
  have e0:Env0 P w K mg (hidT s₁.heap H) pK [] s₁ H:=⟨rfl,hM,fun b o e=>axl e,lK (aqq _ _),trivial,fun b hb=>absurd (show b∈([]:List Addr) from hb) (by simp),hok,.of_eq hg⟩
  refine codeAny_mono ((F _ hKb (nsK hns)).run pK [] s₁ H ⟨[.ref a],[]⟩ [.ref a] [.ref a] _ _ hr e0 (hbind s₁ (.ref a)) (.cons rfl .nil) (hsp H hO hS)) fun r s' h =>?_
  cases r with
  | error e=>exact(hCX H e s' h).elim
  | ok fl =>
   cases fl with
   | next=>exact gG h
   | brk=>exact gG h
   | cont=>exact gG h
   | ret u =>
    obtain⟨v,H',os,bare,un,hok',r',q⟩:=h;have q':v=.bl true:=q;subst q';obtain rfl:u=pL true:=r';refine⟨rfl,OldK.of_keep fun b o e =>?_,os,bare⟩
    cases q:H b with
    | none=>exact un.keep b o e q (by intro z;exact absurd (show b∈([]:List Addr) from z) (by simp)) (by simp)
    | some u =>
     rcases hO b with z | ⟨ob,xs,z⟩
     ·rw[q] at z;cases z
     ·have z2:=un.frzs b ob _ z;obtain⟨e1,_⟩:=hok b _ z;obtain⟨e2,_⟩:=hok' b _ z2;rw[e] at e1;cases e1;exact e2
 cases hk:K.lookup a with
 | some o =>
  have e:=KX a o hk;rw[ha] at e;cases e;refine core (fun _=>none) (fun _=>.inl rfl) (.inr ⟨_,vs.toArray,_,hk,rfl,rfl,rfl,by rw[aV,lenV];exact hl,by simpa using rv⟩) (fun b u z=>by have z':(none:Option HO)=some u:=z;cases z') (fun b z=>absurd rfl z) fun z=>absurd rfl z
 | none =>
  refine core (fun b=>if b=a then some (.frz { cls:=.type "list", data:=.seq vs.toArray } (.lst (ns.map V.int))) else none) (fun b =>?_) (.inl (.inr ⟨{ cls:=.type "list", data:=.seq vs.toArray },if_pos rfl⟩)) (fun b u z =>?_) (fun b z =>?_) fun _=>hk
  ·by_cases hb:b=a
   ·exact .inr ⟨_,_,if_pos hb⟩
   ·exact .inl (if_neg hb)
  ·by_cases hb:b=a
   ·have z':=(if_pos hb).symm.trans z;cases z';subst hb;exact⟨ha,by rw[aF];exact hl,vs,_,rv,ha⟩
   ·have z':=(if_neg hb).symm.trans z;cases z'
  ·by_cases hb:b=a
   ·exact hb
   ·exact absurd (if_neg hb) z
theorem av6{l:qT}{n k:Nat}{q:aZ}{loose:List Str}{XP:(Str->Option Value)->Heap->Prop}{YP:World->Heap->Prop}{d:DefRec}{K:Params->Fg9}{CX:World->CXT}{sp:World->Sp}{x:Str}
  (hn:l.most=some n) (hn2:n<=cD) (hdf:d.params.defaults=[]) (hr:Room k pK)
  (hY:∀(w:World) (h:Heap),YP w h->(K w.params).In h)
  (F:∀(w:World) (mg:Str->Option Value) (fa:Addr) (h:Heap),(K w.params).In h->h.Ns aP mg->mg d.name=some (.ref fa) ->
   ∃fd:fM,(∀(s:aJ) (u:Value),pU s fd ⟨[u],[]⟩ [(x,u)]) /\
    ∀base:Heap,(K w.params).In base->base.Ns aP mg->FnOk l.prog w (K w.params) mg base (CX w) k fa fd [x] (sp w))
  (hsp:∀(w:World) (H:Hp) (a:Addr) (ns:List Int),ns.length<=n->Only H->SqL (K w.params) H a (ns.map V.int)->sp w [.ref a] H (fun v _=>v=.bl true) fun _ _ _=>False)
  (hCX:∀(w:World) (H:Hp) (s:aJ) (e:Value) (s':aJ),CX w [] H s (fun _ _ _=>False) e s'->False) :
  wR q loose XP YP l.row.toRowW d [] (fun f vs=>uW f vs):=by
 refine Att.al0 hn hdf fun w s₀ s₁ mg mb fa o pm cd doc a vs ns G Y ho hd hcd hmg hobj hints hlen hg =>?_
 have KX:=hY w _ Y;obtain⟨fd,hb,hF⟩:=F w mg fa _ KX G.T.g hmg;exact at9 KX G.T.g G.T.b G.T.builtins G.T.nolimit hg hobj hints (cF hlen hn2) hr hF hb (fun H hO hS=>hsp w H a ns hlen hO hS) fun H e s'=>hCX w H s₁ e s'
def fu(s:Stmt):Arguments:=match s with
 | .FunctionDef _ a _ _ _ _ _ _ _ _=>a
 | _=>{ posonlyargs:=[],args:=[],vararg:=none,kwonlyargs:=[],kw_defaults:=[],kwarg:=none,defaults:=[] }
def dh(s:Stmt):List Stmt:=match s with
 | .FunctionDef _ _ b _ _ _ _ _ _ _=>b
 | _=>[]
def aj(s:Stmt):Scope:=match s with
 | .FunctionDef _ _ _ _ _ _ sc _ _ _=>sc
 | _=>{ kind:=.function,names:=[],isGenerator:=false,isCoroutine:=false }
abbrev CX0:CXT:=fun _ _ _ _ _ _=>False
abbrev E0:XK:=fun _ _ _=>False
theorem axe{X:Cx}:ahn CX0 X E0:=fun _ _ _ _ _ _ _ h=>h.elim
structure Fun (K:Fg9) (x qual:Str) (st:Stmt) (f:Addr) (fd:fM):Prop where
 ex:∃(oc:Value) (od:Option Addr) (kV doc pm:Value) (an:Option Addr) (cdv ct:Value) (osl:Array (Option Value)),
  fd=fnOf x qual (fu st) (dh st) (aj st) .none kV doc pm an cdv ct/\K.lookup f=some ⟨oc,od,.func fd,osl⟩/\fK K cdv qual=true
 kp:eQ K (.ref f)=true
section
variable{P:aZ}{w:World}{K:Fg9}{mg:Str->Option Value}{base:Heap}
theorem Fun.ok{x qual:Str}{st:Stmt}{f:Addr}{fd:fM}{N ps:List Str}{k:Nat}{sp:Sp}(F:Fun K x qual st f fd)(S:FnScope N ps (aj st))(len:∀vs H Q E,sp vs H Q E->vs.length=ps.length)
  (hbody:∀(cdv:Value) (A:cI) (outer:List Env) (s:aJ) (H:Hp) (vs:List V) (Q:VK) (E:XK),Room k (A.deeper (nG qual (aj st) s.heap.objs.size f cdv))->sp vs H Q E ->
   ∃t,PSs (cxOf CX0 P w K mg base N qual (aj st) f cdv A outer s H E).nox (dh st) t/\t { nx:=fun _ H'=>Q .non H',rt:=Q } (start N vs) H):FnOk P w K mg base CX0 (k+1) f fd ps sp:=by
 obtain⟨oc,od,kV,doc,pm,an,cdv,ct,osl,rfl,lk,hcd⟩:=F.ex;refine a7j lk hcd S len fun A outer s H vs Q E hr hsp =>?_
 obtain⟨t,h,q⟩:=hbody cdv A outer s H vs Q E hr hsp;exact⟨t,h.nox,q⟩
theorem Fun.binds{x qual:Str}{st:Stmt}{f:Addr}{fd:fM}{ps:List Str}(F:Fun K x qual st f fd)
  (h:∀(kV doc pm:Value) (an:Option Addr) (cdv ct:Value) (us:List Value),us.length=ps.length->bindArgs (fnOf x qual (fu st) (dh st) (aj st) .none kV doc pm an cdv ct) ⟨us,[]⟩=pure (ps.zip us)):Binds K fd ps []:=by
 obtain⟨oc,od,kV,doc,pm,an,cdv,ct,osl,rfl,lk,hcd⟩:=F.ex;exact .all (h kV doc pm an cdv ct)
theorem ji{x qual:Str}{st:Stmt}{f:Addr}{oc:Value}{od an:Option Addr}{osl:Array (Option Value)}{kV doc pm cdv ct:Value}(l:K.lookup f=some ⟨oc,od,.func (fnOf x qual (fu st) (dh st) (aj st) .none kV doc pm an cdv ct),osl⟩)
  (c:fK K cdv qual=true) (k:eQ K (.ref f)=true):Fun K x qual st f (fnOf x qual (fu st) (dh st) (aj st) .none kV doc pm an cdv ct):=⟨⟨oc,od,kV,doc,pm,an,cdv,ct,osl,rfl,l,c⟩,k⟩
end
theorem apk{n:Nat}(h:n<=1000):n < cD:=uN h (by decide)
section
variable{X:Cx}
theorem pv(i:Nat){x:Str}{pos:Pos}(hN:X.N[i]? = some x:=by rfl)(hv:Vis X.env.scope x:=by first | exact bR rfl | exact nP (bR rfl) | exact nP (nP rfl))(hd:(x==("__debug__" : Str))=false:=by decide)
  (hcd:(x==("__classdict__" : Str))=false:=by decide):PE X (.Name x pos) (tVar i):=a0g hN hv hd hcd
end
theorem iteF{A B:Prop}(h:B):if false=true then A else B:=by
 rw[if_neg dX];exact h
theorem iteT{A B:Prop}(h:A):if true=true then A else B:=by
 rw[if_pos rfl];exact h
def Same(H H':Hp):Prop:=∀b o,H b=some o->H' b=some o
theorem Same.refl(H:Hp):Same H H:=fun _ _ h=>h
theorem Same.trans{H H1 H2:Hp}(a:Same H H1)(b:Same H1 H2):Same H H2:=fun c o h=>b c o (a c o h)
theorem Same.free{H H':Hp}(e:Same H H'){l:Addr}(h:H' l=Option.none):H l=Option.none:=by
 cases q:H l with
 | none=>rfl
 | some o =>
  rw[e l o q] at h;cases h
theorem Same.seq{K:Fg9}{H H':Hp}{a:Addr}{xs:List V}(e:Same H H')(h:SqL K H a xs):SqL K H' a xs:=by
 rcases h with(h | ⟨o,h⟩) | h
 ·exact .inl (.inl (e _ _ h))
 ·exact .inl (.inr ⟨o,e _ _ h⟩)
 ·exact .inr h
end L2
namespace Mn
open L2
noncomputable def aaq(env:Env)(fr:List Str):List (Str×Addr):=fr.filterMap fun n=>(env.cells.lookup n).map fun c=>(n,c)
theorem agr{env:Env}{n:Str}{r:List Str}(e:env.cells.lookup n=none):aaq env (n::r)=aaq env r:=by
 unfold aaq;rw[gJ,e];rfl
theorem ac4{env:Env}{n:Str}{r:List Str}{c:Addr}(e:env.cells.lookup n=some c):aaq env (n::r)=(n,c)::aaq env r:=by
 unfold aaq;rw[gJ,e];rfl
theorem look_same{x:Str}{c:Addr}{l:List (Str×Addr)}:bK x ((x,c)::l)=some c:=by
 have hb:(x==x)=true:=beq_iff_eq.mpr rfl;simp only[bK,hb]
theorem ahf{x n:Str}{c:Addr}{l:List (Str×Addr)}(h:x≠n):bK x ((n,c)::l)=l.lookup x:=by
 have hb:(x==n)=false:=beq_eq_false_iff_ne.mpr h;simp only[bK,hb]
theorem uz{env:Env}:∀{fr:List Str} {x:Str} {c:Addr},(aaq env fr).lookup x=some c->env.cells.lookup x=some c
 | [],x,c,h=>by
  have h':(none:Option Addr)=some c:=h;cases h'
 | n::r,x,c,h=>by
  cases e:env.cells.lookup n with
  | none =>
   rw[agr e] at h;exact uz h
  | some d =>
   rw[ac4 e] at h
   by_cases hx:x=n
   ·subst hx;rw[look_same] at h;rw[e];exact h
   ·rw[ahf hx] at h;exact uz h
theorem ach{env:Env}:∀{fr:List Str} {x:Str} {c:Addr},x∈fr->env.cells.lookup x=some c->(aaq env fr).lookup x=some c
 | [],x,c,hm,h=>absurd hm (by simp)
 | n::r,x,c,hm,h=>by
  by_cases hx:x=n
  ·subst hx;rw[ac4 h,look_same]
  ·have hm':x∈r:=(aY.mp hm).elim (fun e=>absurd e hx) id
   cases e:env.cells.lookup n with
   | none =>
    rw[agr e];exact ach hm' h
   | some d =>
    rw[ac4 e,ahf hx];exact ach hm' h
noncomputable def ad5(XN fr:List Str):List Str->List (Option Nat)->Bool
 | [],[]=>true
 | _::N,none::r=>ad5 XN fr N r
 | x::N,some j::r=>XN[j]? == some x&&fr.contains x&&ad5 XN fr N r
 | _,_=>false
theorem afm{XN fr:List Str}:∀{N:List Str} {src:List (Option Nat)} {i j:Nat} {x:Str},ad5 XN fr N src=true->N[i]? = some x->src[i]? = some (some j)->XN[j]? = some x/\x∈fr
 | [],[],i,j,x,_,h,_=>by simp at h
 | [],_::_,i,j,x,_,h,_=>by simp at h
 | _::_,[],i,j,x,_,_,h=>by simp at h
 | y::N,none::r,0,j,x,_,_,h=>by simp at h
 | y::N,none::r,i+1,j,x,hk,h1,h2=>afm (N:=N) (src:=r) (i:=i) hk (by simpa using h1) (by simpa using h2)
 | y::N,some k::r,0,j,x,hk,h1,h2=>by
  simp only[ad5,bF] at hk;obtain⟨⟨a,b⟩,_⟩:=hk;simp at h1 h2;subst h1 h2;exact⟨by simpa using a,by simpa using b⟩
 | y::N,some k::r,i+1,j,x,hk,h1,h2=>by
  simp only[ad5,bF] at hk;exact afm (N:=N) (src:=r) (i:=i) hk.2 (by simpa using h1) (by simpa using h2)
theorem afl{XN fr:List Str}:∀{N:List Str} {src:List (Option Nat)},ad5 XN fr N src=true->src.length=N.length
 | [],[],_=>rfl
 | [],_::_,h=>by simp[ad5] at h
 | _::_,[],h=>by simp[ad5] at h
 | _::N,none::r,h=>by
  have:=afl (N:=N) (src:=r) h;simp[this]
 | _::N,some k::r,h=>by
  simp only[ad5,bF] at h;have:=afl (N:=N) (src:=r) h.2;simp[this]
def pick(src:List (Option Nat))(σ:L2.St):L2.St:=src.map fun o=>o.bind fun j=>(σ[j]?).bind id
theorem atk{src:List (Option Nat)}{σ:L2.St}{i:Nat}{v:V}(h:(pick src σ)[i]? = some (some v)):∃j,src[i]? = some (some j)/\σ[j]? = some (some v):=by
 unfold pick at h;rw[aO] at h;cases e:src[i]? with
 | none=>rw[e] at h;cases h
 | some o =>
  rw[e] at h;have h':(o.bind fun j=>(σ[j]?).bind id)=some v:=bW h
  cases o with
  | none=>cases h'
  | some j =>
   refine⟨j,rfl,?_⟩;have h2:(σ[j]?).bind id=some v:=h';cases q:σ[j]? with
   | none=>rw[q] at h2;cases h2
   | some z =>
    rw[q] at h2;have h3:z=some v:=h2;rw[h3]
def ahm(env:Env)(XN:List Str)(scope:Scope)(fr N:List Str)(src:List (Option Nat)):Bool :=
 scope.names.all (fun y=>y.2 != .cell&&(y.2 != .local||scope.names.lookup y.1==some .local)&&(y.2 != .free||fr.contains y.1)) &&
 fr.all (fun x=>scope.names.lookup x==some .free&&(env.kindOf x==some .cell||env.kindOf x==some .free))&&ad5 XN fr N src
structure CompOk (env:Env) (XN:List Str) (scope:Scope) (fr N:List Str) (src:List (Option Nat)):Prop where
 cell:∀y∈scope.names,y.2≠.cell
 loc:∀y∈scope.names,y.2=.local->scope.names.lookup y.1=some .local
 free:∀y∈scope.names,y.2=.free->y.1∈fr
 frk:∀x∈fr,scope.names.lookup x=some .free
 out:∀x∈fr,env.kindOf x=some .cell∨env.kindOf x=some .free
 src:ad5 XN fr N src=true
theorem CompOk.of{env:Env}{XN:List Str}{scope:Scope}{fr N:List Str}{src:List (Option Nat)}(h:ahm env XN scope fr N src=true):CompOk env XN scope fr N src:=by
 simp only[ahm,bF,fP] at h;obtain⟨⟨h1,h2⟩,h3⟩:=h;refine⟨fun y hy =>?_,fun y hy e =>?_,fun y hy e =>?_,fun x hx =>?_,fun x hx =>?_,h3⟩
 ·have:=(h1 y hy).1.1
  simpa using this
 ·have:=(h1 y hy).1.2;rw[e] at this
  simpa using this
 ·have:=(h1 y hy).2;rw[e] at this
  simpa using this
 ·have:=(h2 x hx).1
  simpa using this
 ·have:=(h2 x hx).2
  simpa using this
theorem aeu{env:Env}:∀{names:List (Str×NameKind)} {x:Str} {k:sW},
  (names.map fun(n,k)=>if (k==dU&&env.scope.kind==.function&&env.kindOf n==some .cell) then (n,iY) else (n,k)).lookup x=some k ->
  ∃k0,names.lookup x=some k0/\(k=k0∨(k0=.free/\k=.cell))
 | [],x,k,h=>by simp at h
 | (n,q)::r,x,k,h=>by
  by_cases hx:x=n
  ·subst hx;have hb:(x==x)=true:=beq_iff_eq.mpr rfl;refine⟨q,by simp only[bK,hb],?_⟩
   by_cases hc:(q==dU&&env.scope.kind==.function&&env.kindOf x==some .cell)=true
   ·rw[aU] at h;simp only[hc,if_true,bK,hb] at h;simp only[bF] at hc;exact .inr ⟨by simpa using hc.1.1,(bW h).symm⟩
   ·rw[aU] at h;simp only[hc,bK,hb] at h;exact .inl (by simpa using h.symm)
  ·have hb:(x==n)=false:=beq_eq_false_iff_ne.mpr hx;have h':(r.map fun(n,k)=>if (k==dU&&env.scope.kind==.function&&env.kindOf n==some .cell) then (n,iY) else (n,k)).lookup x=some k:=by
    rw[aU] at h
    by_cases hc:(q==dU&&env.scope.kind==.function&&env.kindOf n==some .cell)=true
    ·simp only[hc,if_true,bK,hb] at h;exact h
    ·have h2:bK x ((if (q==dU&&env.scope.kind==.function&&env.kindOf n==some .cell)=true then (n,iY) else (n,q))::(r.map fun(n,k)=>if (k==dU&&env.scope.kind==.function&&env.kindOf n==some .cell) then (n,iY) else (n,k)))=some k:=h
     rw[if_neg hc] at h2;simp only[bK,hb] at h2;exact h2
   obtain⟨k0,e,d⟩:=aeu h';exact⟨k0,by simp only[bK,hb];exact e,d⟩
theorem abi{env:Env}:∀{names:List (Str×NameKind)} {x:Str},names.lookup x=some .free ->
  (names.map fun(n,k)=>if (k==dU&&env.scope.kind==.function&&env.kindOf n==some .cell) then (n,iY) else (n,k)).lookup x=some .free ∨
  (names.map fun(n,k)=>if (k==dU&&env.scope.kind==.function&&env.kindOf n==some .cell) then (n,iY) else (n,k)).lookup x=some .cell
 | [],x,h=>by simp at h
 | (n,q)::r,x,h=>by
  by_cases hx:x=n
  ·subst hx;have hb:(x==x)=true:=beq_iff_eq.mpr rfl;simp only[bK,hb] at h;have hq:q=.free:=bW h;subst hq
   by_cases hc:(dU==dU&&env.scope.kind==.function&&env.kindOf x==some .cell)=true
   ·right
    rw[aU];simp only[hc,if_true,bK,hb]
   ·left
    show bK x ((if (dU==dU&&env.scope.kind==.function&&env.kindOf x==some .cell)=true then (x,iY) else (x,dU))::_)=some dU
    rw[if_neg hc];simp only[bK,hb]
  ·have hb:(x==n)=false:=beq_eq_false_iff_ne.mpr hx;simp only[bK,hb] at h;rw[aU]
   by_cases hc:(q==dU&&env.scope.kind==.function&&env.kindOf n==some .cell)=true
   ·simp only[hc,if_true,bK,hb];exact abi h
   ·simp only[hc,bK,hb]
    simpa[bK,hb] using abi (env:=env) h
def cxC(X:Cx)(N:List Str)(scope:Scope)(fr:List Str)(fp:List Addr)(s:aJ)(H:Hp):Cx where
 prog:=X.prog
 w:=X.w
 K:=X.K
 mg:=X.mg
 base:=X.base
 A:=X.A
 N:=N
 s₀:=s
 H₀:=H
 env:=compEnvC scope (aaq X.env fr) s.heap.objs.size X.env
 outer:=X.stack
 stack:=X.stack
 ex:=fp
 fn:=fun _=>false
 calm:=X.calm
 pn:=[]
 xe:=fun _ _=>False
section
variable{X:Cx}{zv:List (Addr×Obj)}{σ:L2.St}{H:Hp}{s:aJ}{scope:Scope}{fr N:List Str}{src:List (Option Nat)}{fp:List Addr}
theorem a2h(I:Inv X zv σ H s)(C:CompOk X.env X.N scope fr N src)(hkind:scope.kind=.function)(hf:∀b∈fp,FpOk X zv H b)(hl:∀b∈fp,b < s.heap.objs.size):(cxC X N scope fr fp s H).Ok where
 mod:=I.ok.mod
 kind:=hkind
 glob:=I.ok.glob
 blt:=I.ok.blt
 above:=aM _
 inj:=fun x y c h1 h2=>I.ok.inj x y c (uz h1) (uz h2)
 has:=fun x hx=>by
  have mem:∀k,(k=iY∨k=dU)->(cxC X N scope fr fp s H).env.kindOf x=some k->x∈fr:=fun k hk e=>by
   obtain⟨k0,e0,d⟩:=aeu (env:=X.env) (names:=scope.names) e;have hm:=iC e0;rcases d with rfl | ⟨rfl,_⟩
   ·rcases hk with rfl | rfl
    ·exact absurd rfl (C.cell _ hm)
    ·exact C.free _ hm rfl
   ·exact C.free _ hm rfl
  have hm:x∈fr:=by
   rcases hx with e | e
   ·exact mem _ (.inl rfl) e
   ·exact mem _ (.inr rfl) e
  obtain⟨c,hc⟩:=I.ok.has x (C.out x hm);exact⟨c,ach hm hc⟩
 cab:=fun _ _ h _=>absurd h dX
 hd:=I.ok.hd
 frames:=I.ok.frames
 stk:=.inl rfl
 exf:=fun b hb=>⟨Nat.ne_of_lt (hl b hb),fun x c e=>(hf b hb).2.2.2.2.1 x c (uz e)⟩
 bs:=I.bs
 bsz:=cF I.ok.bsz I.sz
 noex:=fun b o e hb=>by
  rcases(hf b hb).2.2.2.1 with z | z
  ·exact I.ok.noex b o e z
  ·exact absurd (cA (aQ e) (cF I.ok.bsz z)) (iW _)
 exfs:=fun b hb z=>by
  rcases aY.mp (I.stkSub b z) with e | e
  ·exact(hf b hb).2.1 e
  ·exact(hf b hb).2.2.1 e
 funs:=I.stack
 frf:=I.stkFree
theorem amx(I:Inv X zv σ H s)(C:CompOk X.env X.N scope fr N src)(hkind:scope.kind=.function)(hf:∀b∈fp,FpOk X zv H b)(hl:∀b∈fp,b < s.heap.objs.size){h':Heap}{tk:Nat}{m:Str->Option Value}
  (hns:h'.Ns s.heap.objs.size m) (hk:∀b o,s.heap.get? b=some o->h'.get? b=some o):Inv (cxC X N scope fr fp s H) [] (pick src σ) H { s with heap:=h',toks:=tk } where
 ok:=a2h I C hkind hf hl
 os:=rfl
 bare:=I.bare
 base:=Un.kept hk
 loc:=by
  refine⟨m,hns,fun i x v h1 h2 h3 =>?_⟩
  obtain⟨j,hj,hv⟩:=atk h2;obtain⟨hN,hm⟩:=afm C.src h1 hj;obtain⟨mo,_,hlo⟩:=I.loc;have vis:Vis X.env.scope x:=by
   rcases C.out x hm with e | e
   ·exact .inr (.inl e)
   ·exact .inr (.inr e)
  obtain⟨u,r,l⟩:=hlo j x v hN hv vis;refine⟨u,r,.inr ⟨?_,?_⟩⟩
  ·rcases abi (env:=X.env) (C.frk x hm) with e | e
   ·exact .inr e
   ·exact .inl e
  ·rcases l with⟨e,_⟩ | ⟨_,c,hc,z⟩
   ·rcases C.out x hm with q | q
    ·rw[q] at e;cases e
    ·rw[q] at e;cases e
   ·obtain⟨o,ho,hd⟩:=z;exact⟨c,ach hm hc,o,hk c o ho,hd⟩
 cell:=fun x c e=>by
  obtain⟨v,o,ho,hd⟩:=I.cell x c (uz e);exact⟨v,o,hk c o ho,hd⟩
 free:=I.hok.fresh (aM _)
 freeC:=fun x c e=>I.freeC x c (uz e)
 pin:=fun p hp=>absurd (show p∈([]:List (Addr×Obj)) from hp) (by simp)
 hok:=I.hok.kept hk
 len:=by
  unfold pick;rw[aF];exact afl C.src
theorem amy{pins':List (Addr×Obj)}{σ':L2.St}{H':Hp}{s':aJ}{h'':Heap}(I:Inv X zv σ H s)(hf:∀b∈fp,FpOk X zv H b)(J:Inv (cxC X N scope fr fp s H) pins' σ' H' s')
  (hs:cH s.heap.objs.size s'.heap h''):Inv X zv σ H' { s' with heap:=h'' }:=by
 have k:∀b o,b≠s.heap.objs.size->s'.heap.get? b=some o->h''.get? b=some o:=fun b o hb e=>(hs.2 b hb).trans e
 have old:∀b o,s.heap.get? b=some o->b≠s.heap.objs.size:=fun b o e=>bD (aQ e)
 have un:Un (frs X.stack) fp H H' s.heap h'':=by
  have u:Un (frs X.stack) fp H H' s.heap s'.heap:=J.base;refine⟨fun b o e n hb hx=>k b o (old b o e) (u.keep b o e n hb hx),fun b o e n hb hx =>?_,u.free,fun b o e hx =>?_,u.tups,u.frzs,u.tbls⟩
  ·obtain⟨sl,q⟩:=u.slot b o e n hb hx;exact⟨sl,k b _ (old b o e) q⟩
  ·obtain⟨o',q⟩:=u.there b o e hx;exact⟨o',k b _ (old b o e) q⟩
 have hok:HOk X.prog X.w H' h'':=fun b u e=>by
  have nC:∀c z,H' c=some z->c≠s.heap.objs.size:=fun c z q w=>by
   have f:H' s.heap.objs.size=none:=J.free;rw[w,f] at q;cases q
  refine(J.hok b u e).stay (fun c v hc q=>k c v ?_ q) (fun _ q=>q) fun _ _ q=>q
  rcases hc with z | z
  ·rw[z];exact nC b u e
  ·exact nC c _ z
 have os:s'.os=s.os:=J.os;refine Inv.call' (s':={ s' with heap:=h'' }) I os un hok J.bare fun b hb =>?_
 obtain⟨_,f1,_,f3,f4,f5⟩:=hf b hb;exact⟨f3,f1,f4,f5⟩
end
def aky(ifs:List Expr)(env:Env):Sem Bool:=forIn ifs true fun c r=>if r=true then do let ok <-isTrue c env (eval c env);pure (wC ok) else pure (wC r)
def PIf(X:Cx)(ifs:List Expr)(t:TT):Prop :=
 ∀(zv:List (Addr×Obj)) (s:aJ) (σ:L2.St) (H:Hp) (Q:Bool->Hp->Prop),Inv X zv σ H s->t σ H Q->wpAny (model X.prog X.w) X.A (aky ifs X.env) (TP X zv σ Q) X.xe s
def tYes:TT:=fun _ H Q=>Q true H
theorem aw1{X:Cx}:PIf X [] tYes:=fun zv s σ H Q I h=>by
 show wpAny _ _ (pure true) _ _ s;exact aH ⟨H,I,h⟩
theorem aw0{X:Cx}{c:Expr}{t:TT}(hc:PT X c t):PIf X [c] t:=fun zv s σ H Q I h=>by
 unfold aky;rw[lE];rw[if_pos rfl];refine aA (aA (thn (hc zv s σ H _ I h) fun b s1 q=>aH ?_))
 show wpAny _ _ (forIn [] b _) _ _ s1;exact aH q
section
variable{prog:aZ}{w:World}{A:cI}{R:Result->aJ->Prop}{s:aJ}
theorem compLoop{elt target iter:Expr}{ifs:List Expr}{scope:Scope}{pos:Pos}{it acc:Value}{env:Env}(I:Nat->aJ->Prop)
  (turn:∀n s,I n s->wpAny (model prog w) A (lY it) (fun r s₁=>match r with
   | none=>R (.ok .next) s₁
   | some v=>wpAny (model prog w) A (letOwnedTupleGo target it v) (fun _ s₁'=>wpAny (model prog w) A (kZ target env v) (fun _ s₂ =>
     wpAny (model prog w) A (aky ifs env) (fun ok s₃ =>
      if ok=true then wpAny (model prog w) A (eval elt env) (fun x s₄ =>
       wpAny (model prog w) A (call (.builtin "list.append") [acc,x]) (fun _ s₅=>∃m,m < n/\I m s₅) (fun _ _=>False) s₄) (fun _ _=>False) s₃
      else ∃m,m < n/\I m s₃) (fun _ _=>False) s₂) (fun _ _=>False) s₁') (fun _ _=>False) s₁) (fun _ _=>False) s)
  (n:Nat) (h:I n s) :
  mK (model prog w) A (.compLoop (.ListComp elt [⟨target,iter,ifs,0⟩] scope pos) 0 it acc env) R s:=by
 refine codeAny_loop rfl I (fun n s hI =>?_) n h
 show wpAny _ A ((compTurn (.ListComp elt [⟨target,iter,ifs,0⟩] scope pos) 0 it acc env).onRaise (fun x=>do noteFrame x env;theTreesLotGoes x)) _ _ s
 refine wpAny_noted ?_;rw[compTurn_list];refine aA (wpAny_standAt (aA (dC (turn n s hI) (fun r s₁ h₁ =>?_) fun _ _ h'=>h'.elim)))
 cases r with
 | none=>exact aH h₁
 | some v =>
  refine aA (dC h₁ (fun _ s₁' h₁' =>?_) fun _ _ h'=>h'.elim)
  refine aA (dC h₁' (fun _ s₂ h₂=>aA (dC h₂ (fun ok s₃ h₃ =>?_) fun _ _ h'=>h'.elim)) fun _ _ h'=>h'.elim)
  cases ok with
  | false=>exact aH ⟨rfl,h₃⟩
  | true =>
   exact aA (aA (dC h₃ (fun x s₄ h₄=>aA (dC h₄ (fun _ s₅ h₅=>aH (aH ⟨rfl,h₅⟩)) fun _ _ h'=>h'.elim)) fun _ _ h'=>h'.elim))
end
def a2x(J:It)(g:TG)(ti:TT)(te:TE)(Q:VK)(d:Addr)(σ0:L2.St)(H1:Hp):Prop :=
 ∃W:Nat->Nat->List V->L2.St->Hp->Prop,(∃m,W 0 m [] σ0 (upd H1 d (.lst [])))/\∀i m ys σ H2,W i m ys σ H2->H2 d=some (.lst ys) /\
  ((J.stop i H2/\Q (.ref d) H2)∨(J.go i H2/\∀x H3,J.yld i H2 x H3->g x σ H3 fun σ4 H4=>ti σ4 H4 fun b H5 =>
   if b=true then te σ4 H5 fun y H6=>H6 d=some (.lst ys)/\ys.length < cD/\∃m',m' < m/\W (i+1) m' (ys++[y]) σ4 (upd H6 d (.lst (ys++[y]))) else ∃m',m' < m/\W (i+1) m' ys σ4 H5))
def awi(wi:TI)(g:TG)(ti:TT)(te:TE)(src:List (Option Nat)):TE:=fun σ H Q=>wi σ H fun J H1=>∀d,H1 d=none->a2x J g ti te Q d (pick src σ) H1
theorem akb{X:Cx}{tg iter elt:Expr}{ifs:List Expr}{scope:Scope}{pos:Pos}{J:It}{fp:List Addr}{it d:Addr}{tn:Nat->Heap->Prop}{g:TG}{ti:TT}{te:TE}{Q:VK}{R:Result->aJ->Prop}
  {W:Nat->Nat->List V->L2.St->Hp->Prop} {m0:Nat} {σ0:L2.St} {H0:Hp} {s:aJ} (hc:X.calm=true) (hE:X.xe=fun _ _=>False) (T:Turn X.prog X.w X.K tg J fp it tn)
  (hf:∀H':Hp,(∀b∈fp,H' b=none)->∀b∈fp,FpOk X [] H' b) (hg:PG X tg g) (ht:PIf X ifs ti) (he:PE X elt te)
  (turn:∀i m ys σ H2,W i m ys σ H2->H2 d=some (.lst ys) /\
   ((J.stop i H2/\Q (.ref d) H2)∨(J.go i H2/\∀x H3,J.yld i H2 x H3->g x σ H3 fun σ4 H4=>ti σ4 H4 fun b H5 =>
    if b=true then te σ4 H5 fun y H6=>H6 d=some (.lst ys)/\ys.length < cD/\∃m',m' < m/\W (i+1) m' (ys++[y]) σ4 (upd H6 d (.lst (ys++[y]))) else ∃m',m' < m/\W (i+1) m' ys σ4 H5)))
  (w0:W 0 m0 [] σ0 H0) (I0:Inv X [] σ0 H0 s) (st0:tn 0 s.heap) (fr0:∀b∈fp,H0 b=none)
  (hR:∀σ' H' s',Inv X [] σ' H' s'->Q (.ref d) H'->R (.ok .next) s') :
  mK (model X.prog X.w) X.A (.compLoop (.ListComp elt [⟨tg,iter,ifs,0⟩] scope pos) 0 (.ref it) (.ref d) X.env) R s:=by
 have hE':∀e s',X.xe e s'->False:=fun e s' h=>by rw[hE] at h;exact h
 refine compLoop (fun n s'=>∃i ys σ' H',Inv X [] σ' H' s'/\tn i s'.heap/\(∀b∈fp,H' b=none)/\W i n ys σ' H') ?_ m0 ⟨0,[],σ0,H0,I0,st0,fr0,w0⟩
 rintro n s5 ⟨i,ys,σ5,H5,I5,st5,fr5,w5⟩
 obtain⟨hD,alt⟩:=turn i n ys σ5 H5 w5;rcases alt with⟨stop,qn⟩ | ⟨go,step⟩
 ·refine dC (T.done X rfl rfl rfl hc i [] s5 σ5 H5 (fun _ _=>False) I5 (hf _ fr5) st5 stop) (fun r s6 ⟨hr,I6⟩ =>?_) fun _ _ e=>e
  subst hr;exact hR σ5 H5 s6 I6 qn
 ·refine dC (T.item X rfl rfl rfl hc i [] s5 σ5 H5 (fun _ _=>False) I5 (hf _ fr5) st5 go) (fun r s6 ⟨u,hr,h6⟩ =>?_) fun _ _ e=>e
  subst hr;refine dC h6 (fun _ s7 ⟨x,H7,I7,r7,y7,st7,fr7⟩ =>?_) fun _ _ e=>e
  have I7':=I7.pinned (hf _ fr7) (T.obj _ _ st7);have again:∀{σ':L2.St} {H':Hp} {s':aJ} {ys':List V} {m':Nat},Inv X ([]++ajf fp s7.heap) σ' H' s'->W (i+1) m' ys' σ' H'->∃i ys σ' H',Inv X [] σ' H' s'/\tn i s'.heap/\(∀b∈fp,H' b=none)/\W i m' ys σ' H':=fun{σ' H' s' ys' m'} Ia wa=>by
   refine⟨i+1,ys',σ',H',Ia.unpinned,T.keep _ _ _ st7 fun b hb o e=>(Ia.pin (b,o) (cX _ (cX _ (ab7 hb e)))).1,fun b hb =>?_,wa⟩
   obtain⟨o,e,d⟩:=T.obj _ _ st7 b hb;exact(Ia.pin (b,o) (cX _ (cX _ (ab7 hb e)))).2.1
  refine dC (hg _ s7 σ5 H7 x u _ I7' r7 (step x H7 y7)) (fun _ s8 ⟨σ8,H8,I8,q8⟩ =>?_) hE'
  refine dC (ht _ s8 σ8 H8 _ I8 q8) (fun ok s9 ⟨H9,I9,q9⟩ =>?_) hE'
  cases ok with
  | false =>
   rw[if_neg dX] at q9 ⊢
   obtain⟨m',hm,wa⟩:=q9;exact⟨m',hm,again I9 wa⟩
  | true =>
   rw[if_pos rfl] at q9 ⊢
   refine dC (he _ s9 σ8 H9 _ I9 q9) (fun z s10 ⟨y,H10,I10,r10,hd10,hz,m',hm,wa⟩ =>?_) hE'
   refine dC (abl _ s10 σ8 H10 (.ref d) [y] (.ref d) [z] (fun _ H'=>H'=upd H10 d (.lst (ys++[y]))) I10 rfl (.cons r10 .nil) ⟨d,ys,y,rfl,rfl,hd10,hz,rfl⟩) (fun _ s11 ⟨_,H11,I11,_,e11⟩ =>?_) hE'
   subst e11;exact⟨m',hm,again I11 wa⟩
theorem aw9{X:Cx}{tg iter elt:Expr}{ifs:List Expr}{scope:Scope}{pos:Pos}{wi:TI}{g:TG}{ti:TT}{te:TE}(fr N:List Str)(src:List (Option Nat))(hc:X.calm=true)(hi:PI X tg iter wi)
  (hg:∀fp s H,PG (cxC X N scope fr fp s H) tg g) (ht:∀fp s H,PIf (cxC X N scope fr fp s H) ifs ti) (he:∀fp s H,PE (cxC X N scope fr fp s H) elt te)
  (hok:ahm X.env X.N scope fr N src=true:=by rfl) (hkind:scope.kind=.function:=by rfl) (hclos:closureFor scope X.env=pure (aaq X.env fr):=by rfl)
  (hs:∀x,foldedSetIterable iter X.env x=pure x:=by intro _;rfl):PE X (.ListComp elt [⟨tg,iter,ifs,0⟩] scope pos) (awi wi g ti te src):=by
 have C:=CompOk.of hok;intro zv s σ H Q I h;rw[eval_ListComp];refine wpAny_comprehension_free (use:=none) rfl hs hclos hkind C.loc (dC (hi zv s σ H _ I h) (fun v s1 h1=>dC h1 (fun itv s2 h2 =>?_) fun _ _ e=>e) fun _ _ e=>e)
 obtain⟨it,fp,tn,J,H2,e,I2,T,st2,f2,q2⟩:=h2;subst e;have hd0:H2 s2.heap.objs.size=none:=I2.hok.fresh (aM _);obtain⟨W,⟨m0,w0⟩,turn⟩:=q2 s2.heap.objs.size hd0;refine bU ?_;generalize hs3:({ s2 with heap:=s2.heap.push { cls:=.type "list", dict:=none,data:=.seq ([]:List Value).toArray } }:aJ)=s3
 have keep2:∀b o,s2.heap.get? b=some o->s3.heap.get? b=some o:=fun b o e=>by rw[<-hs3];exact aB _ e
 have I3:Inv X zv σ (upd H2 s2.heap.objs.size (.lst [])) s3:=by
  rw[<-hs3];exact I2.laid (t':=s2.toks) (fun b u q=>aB _ q) (aM _) ⟨Nat.zero_le _,[],0,.nil,aK _ rfl⟩
 have ne0:∀b∈fp,b≠s2.heap.objs.size:=fun b hb=>by
  obtain⟨o,e,_⟩:=T.obj _ _ st2 b hb;exact bD (aQ e)
 have f3:∀b∈fp,FpOk X zv (upd H2 s2.heap.objs.size (.lst [])) b:=fun b hb=>⟨by rw[di (ne0 b hb)];exact(f2 b hb).1,(f2 b hb).2⟩
 have lt3:∀b∈fp,b < s3.heap.objs.size:=fun b hb=>by
  obtain⟨o,e,_⟩:=T.obj _ _ st2 b hb;exact aQ (keep2 b o e)
 refine wpAny_newFunctionEnv C.cell (by intro y hy;simp at hy) (fun h₁ hns₁ hsb₁ =>?_) hkind
 have keep3:∀b o,s3.heap.get? b=some o->h₁.get? b=some o:=fun b o e=>hsb₁.extBut b o (bD (aQ e)) (aB _ e)
 have st4:tn 0 h₁:=T.keep _ _ _ st2 fun b hb o e=>keep3 b o (keep2 b o e)
 have I4:=amx (tk:=s3.toks+([]:List (Str×Value)).length) I3 C hkind f3 lt3 hns₁ keep3;have loop:=akb (X:=cxC X N scope fr fp s3 (upd H2 s2.heap.objs.size (.lst []))) (iter:=iter) (scope:=scope) (pos:=pos) (d:=s2.heap.objs.size)
  (R:=compPost (model X.prog X.w) X.A X.xe none (EP X zv σ Q) (.ref s2.heap.objs.size) s3.heap.objs.size) hc rfl T
  (fun H' hn b hb=>⟨hn b hb,bD (lt3 b hb),I4.ok.exfs b hb,.inl hb,(I4.ok.exf b hb).2,fun p hp=>absurd (show p∈([]:List (Addr×Obj)) from hp) (by simp)⟩)
  (hg fp s3 _) (ht fp s3 _) (he fp s3 _) turn w0 I4 st4 (fun b hb=>(f3 b hb).1) (fun σ' H' s' I6 qn=>by
   obtain⟨m6,hn6,_⟩:=I6.loc;exact⟨m6,hn6,fun h'' hs''=>⟨.ref s2.heap.objs.size,H',amy I3 f3 I6 hs'',rfl,qn⟩⟩)
 exact codeAny_compStart_list loop (T.self _ 0 _ _ _ st4 loop)
def Keep(ws:List Addr)(H H':Hp):Prop:=∀b o,H b=some o->b∉ws->H' b=some o
theorem Keep.of{ws:List Addr}{H H':Hp}(h:Same H H'):Keep ws H H':=fun b o e _=>h b o e
theorem Keep.same{H H':Hp}(h:Keep [] H H'):Same H H':=fun b o e=>h b o e (by simp)
theorem Keep.trans{ws:List Addr}{H H1 H2:Hp}(a:Keep ws H H1)(b:Keep ws H1 H2):Keep ws H H2:=fun c o e n=>b c o (a c o e n) n
theorem Keep.refl(ws:List Addr)(H:Hp):Keep ws H H:=fun _ _ e _=>e
theorem Same.new{H:Hp}{p:Addr}(h:H p=none)(o:HO):Same H (upd H p o):=fun b u q=>by rw[di (jb q h)];exact q
theorem Keep.put{H:Hp}{p:Addr}(o:HO):Keep [p] H (upd H p o):=fun b u q n=>by rw[di (fun e=>n (by simp[e]))];exact q
theorem Keep.new{ws:List Addr}{H H1:Hp}{p:Addr}(g:Keep ws H H1)(h:H p=none)(o:HO):Keep ws H (upd H1 p o):=fun b u q n=>by rw[di (jb q h)];exact g b u q n
theorem Keep.free{ws:List Addr}{H H':Hp}(e:Keep ws H H'){l:Addr}(h:H' l=none)(n:l∉ws):H l=none:=by
 cases q:H l with
 | none=>rfl
 | some o =>
  rw[e l o q n] at h;cases h
theorem Same.tup{K:Fg9}{H H':Hp}{a:Addr}{xs:List V}(e:Same H H')(h:SqT K H a xs):SqT K H' a xs:=by
 rcases h with(h | ⟨o,h⟩) | h
 ·exact .inl (.inl (e _ _ h))
 ·exact .inl (.inr ⟨o,e _ _ h⟩)
 ·exact .inr h
structure ItOf (J:It) (xs:List V) (S:Hp->Prop):Prop where
 go:∀i H,S H->i < xs.length->J.go i H
 yld:∀i H x H',S H->J.yld i H x H'->H'=H/\(i < xs.length->xs[i]? = some x)
 stop:∀i H,S H->xs.length<=i->J.stop i H
theorem aue{K:Fg9}{a:Addr}{xs:List V}:ItOf (Itt K a) xs fun H=>SqT K H a xs :=
 ⟨fun i H h hi=>⟨xs,xs[i],h,by simp[hi]⟩,fun i H x H' h y=>⟨y.1,fun _=>y.2 xs h⟩,fun i H h hi=>⟨xs,h,hi⟩⟩
theorem amu{K:Fg9}{a:Addr}{xs:List V}:ItOf (Itl K a) xs fun H=>SqL K H a xs :=
 ⟨fun i H h hi=>⟨xs,xs[i],h,by simp[hi]⟩,fun i H x H' h y=>⟨y.1,fun _=>y.2 xs h⟩,fun i H h hi=>⟨xs,h,hi⟩⟩
def ups(lo:Int)(n:Nat):List V:=(bG n).map fun i=>V.int (lo+(i:Nat))
theorem ahp(lo:Int)(n:Nat):(ups lo n).length=n:=by simp[ups]
theorem av9{lo:Int}{n i:Nat}(h:i < n):(ups lo n)[i]? = some (.int (lo+(i:Nat))):=by
 unfold ups;rw[aO,dJ h];rfl
theorem auf{lo:Int}{n:Nat}:ItOf (Itr lo n) (ups lo n) fun _=>True :=
 ⟨fun i H _ hi=>by rw[ahp] at hi;exact hi,fun i H x H' _ y=>⟨y.1,fun hi=>by rw[ahp] at hi;rw[av9 hi,y.2]⟩,fun i H _ hi=>by rw[ahp] at hi;exact hi⟩
section
variable{X:Cx}
def rAll(K:Fg9):List V->Hp->VK->Prop:=fun xs H Q=>∃(p:Addr) (bs:List Bool),xs=[.ref p]/\SqL K H p (bs.map V.bl)/\Q (.bl (bs.all id)) H
theorem au4(hc:X.calm=true):zj X (.builtin "all") (rAll X.K):=by
 intro zv s σ H xs us Q I r h;obtain⟨p,bs,rfl,hq,q⟩:=h;obtain⟨u,rfl,ru⟩:=vals1 r;cases ru;obtain⟨its,rv,pl,hz⟩:=I.list hq;have hl:=pl.isList;have hlen:=rv.length;rw[aF] at hlen;have hlt:p < s.heap.objs.size:=by obtain⟨_,e,_⟩:=hl;exact aQ e
 refine call_all_walk (wpAny_pyIter_list hl ?_);refine⟨s.heap.objs.size,[s.heap.objs.size,p],[s.heap.objs.size],its.toArray.size,_,_,fun i=>(bs[i]?).getD true,rfl,rZ (A:=X.A.in1) (I.ok.hd hc) _ p (bD hlt) its.toArray,
  ⟨⟨_,aK _ rfl,rfl,rfl⟩,hl.push _⟩,fun i v s' Q' E' hP hQ =>?_,fun h' tk hk =>?_⟩
 ·have hi:its[i]? = some v:=by simpa using hP
  cases e:bs[i]? with
  | none =>
   have h1:bs.length<=i:=jE.mp e;have h2:i < its.length:=(aN.mp hi).1;omega
  | some b =>
   obtain⟨u,hu,ru⟩:=rv.get (i:=i) (x:=V.bl b) (by rw[aO,e];rfl)
   rw[hi] at hu;cases hu;obtain rfl:v=pL b:=ru;simp only[e,vV] at hQ;exact wpAny_truthy_bool hQ
 ·have e:((bG its.toArray.size).all fun i=>(bs[i]?).getD true)=bs.all id:=by
   rw[aV,<-hlen];exact LSm.range_all bs
  rw[e];exact⟨.bl (bs.all id),H,I.kept (t':=tk) (lA hk),rfl,q⟩
end
def Dfn(P:aZ)(w:World)(K:Fg9)(mg:Str->Option Value)(base:Heap)(x:Str)(ps:List Str)(k:Nat)(sp:Sp):Prop :=
 ∃(f:Addr) (fd:fM),FnOk P w K mg base CX0 k f fd ps sp/\mg x=some (.ref f)/\eQ K (.ref f)=true/\Binds K fd ps []
section
variable{X:Cx}{x:Str}{ps:List Str}{k:Nat}{sp:Sp}{e:Expr}{es:List Expr}{t:TA}{p pos:Pos}
theorem a5m(F:Dfn X.prog X.w X.K X.mg X.base x ps k sp)(hr:Room k X.A)(hg:Gl X x)(ha:PA X (e::es) t)(hdb:(x==("__debug__" : Str))=false:=by decide)
  (he:aW (e::es) X.env=(false,eval e X.env)::aW es X.env:=by rfl) (hpl:(jA pos (aW es X.env)).any (·.1)=false:=by rfl):PE X (.Call (.Name x p) (e::es) [] pos) (azq sp [] E0 t):=by
 obtain⟨f,fd,F,hm,hk,hb⟩:=F;exact axb F hr hg hm hk hb .nil axe ha hdb he hpl
theorem a0l{n:Int}(hg:Gl X x)(hm:∃t,X.mg x=some (.int n t))(hd:(x==("__debug__" : Str))=false:=by decide):PE X (.Name x pos) (tC (.int n)):=by
 obtain⟨t,hm⟩:=hm;exact aw8 hg hm ⟨t,rfl⟩ hd
theorem aw5{T:String}(hg:Gl X x)(hm:X.mg x=none)(hv:bV x=some (.type T))(hn:x ≠ "__name__" := by decide)(hd:(x==("__debug__" : Str))=false:=by decide):PE X (.Name x pos) (tC (.ty T)) :=
 axd hg hm hv rfl hn hd
end
section
variable{X:Cx}
end
section
variable{prog:aZ}{w:World}{A:cI}{E:Value->aJ->Prop}{s:aJ}
theorem au2{t b:Addr}{vs ws:List Value}{Q:Value->aJ->Prop}(ht:IsTup s.heap t vs.toArray)(hb:IsTup s.heap b ws.toArray)(hv:vs=[])(h:Q (.ref b) s):wpAny (model prog w) A (fQ .Add (.ref t) (.ref b)) Q E s:=by
 obtain⟨⟨cls,dd,data,sl⟩,ho,hc,n,hd⟩:=id ht;obtain⟨⟨cls2,dd2,data2,sl2⟩,ho2,hc2,n2,hd2⟩:=id hb;simp only at hc hd hc2 hd2;subst hc hd hc2 hd2;exact concat_meets ⟨_,ho,rfl⟩ ⟨_,ho2,rfl⟩ noFill_tuple_add seq_tuple_add nD mU (mF _ _)
  (tuple_addW0 t b vs.toArray ws.toArray n n2 dd dd2 sl sl2 (by simp[hv])) ⟨ho,ho2,h⟩
end
section
variable{X:Cx}
end
section
variable{X:Cx}
end
theorem abd:fillsNumberSlot (.type "tuple") "mul" = pure false :=
 PySem.fillsNumberSlot_seq (id := "tuple.__mul__") (r:=some (.builtin "tuple.__rmul__")) nA.lookup (by decide +kernel) vM.lookup (by decide +kernel)
theorem aet:seqRepeat? (.type "tuple")=pure (some (.builtin "tuple.__mul__")):=by
 unfold seqRepeat?;rw[vR (T := "tuple") (name := "__mul__") (id := "tuple.__mul__") nA.lookup (by decide +kernel),vR (T := "tuple") (name := "__rmul__") (id := "tuple.__rmul__") vM.lookup (by decide +kernel)]
 rfl
theorem acp(a:Int)(t:Tok)(l:Addr)(items:Array Value)(n:Nat)(dd:Option Addr)(sl:Array (Option Value)) :
  Meets (iJ.«int.__rmul__» ⟨[.int a t,.ref l],[]⟩) (fun _ R s=>s.heap.get? l=some { cls:=.type "tuple", dict:=dd,data:=.seq items n,slots:=sl }/\R (.ok (.ret Value.notImplemented)) s) :=
 .of_wp fun prog w A R s h=>by obtain⟨hp,g,d,tk,os⟩:=s;obtain⟨hl,h⟩:=h;wp_walk;exact⟨_,rfl,h⟩
theorem ani(l:Addr)(items:Array Value)(n:Nat)(dd:Option Addr)(sl:Array (Option Value))(x:Int)(u:Tok)(h0:items.isEmpty=false)(h2:2<=x)(h63:x < 2 ^ 63)(hsz:items.size*x.toNat<=cD) :
  Meets (iJ.«tuple.__mul__» ⟨[.ref l,.int x u],[]⟩) (fun _ R s=>s.heap.get? l=some { cls:=.type "tuple", dict:=dd,data:=.seq items n,slots:=sl } /\
   R (.ok (.ret (dN s.heap.objs.size))) { s with heap:=s.heap.push { cls:=iV "tuple", data:=Data.seq (jM (fun x1 x2=>x1++x2) #[] (aD x.toNat items)) },toks:=s.toks }) :=
 .of_wp fun prog w A R s h=>by
  obtain⟨hp,g,d,tk,os⟩:=s;obtain⟨hl,h⟩:=h;have c1:(decide (x < -2 ^ 63)||decide (x≥2 ^ 63))=false:=by
   rw[uE];exact⟨decide_eq_false (by omega),decide_eq_false (by omega)⟩
  have c2:(items.isEmpty||x==1)=false:=by
   rw[h0,Bool.false_or,beq_eq_false_iff_ne];omega
  have c3:(decide (x<=0)||items.isEmpty)=false:=by
   rw[h0,xG];exact decide_eq_false (by omega)
  have e4:((items.size:Int)*x)=((items.size*x.toNat:Nat):Int):=by
   have:x=(x.toNat:Int):=by omega
   rw[qX,<-this]
  have h4:(cD:Int)<=(2 ^ 63 - 1) / 8:=by decide
  have c4:¬((items.size:Int)*x > (2 ^ 63 - 1) / 8):=by rw[e4];omega
  have c5:rJ ((items.size:Int)*x)=false:=by
   unfold rJ;rw[e4];exact decide_eq_false (by omega)
  wp_walk;refine wpAny_ite_false (by rw[c1];rfl) ?_
  wp_walk;refine wpAny_ite_false (by rw[c2];rfl) ?_
  try dsimp only
  refine wpAny_ite_false (by rw[c3];rfl) ?_
  try dsimp only
  refine wpAny_ite_false (decide_eq_false c4) ?_
  try dsimp only
  refine wpAny_ite_false (by rw[c5];rfl) ?_
  have hso:sizeOk (.seq (jM (fun x1 x2=>x1++x2) #[] (aD x.toNat items))):=by
   show(jM (fun x1 x2=>x1++x2) #[] (aD x.toNat items)).size<=cD
   have hn:=foldl_rep items.toList x.toNat [];rw[cU] at hn;have hn':jM (fun x1 x2=>x1++x2) #[] (aD x.toNat items)=(aD x.toNat items.toList).flatten.toArray:=hn
   rw[hn',aV,len_rep,bI,tR];exact hsz
  refine aA (m:=iB _) (bU (aH ⟨_,rfl,h⟩) hso)
theorem anj(l:Addr)(items:Array Value)(n:Nat)(dd:Option Addr)(sl:Array (Option Value))(x:Int)(u:Tok)(hx:x=1) :
  Meets (iJ.«tuple.__mul__» ⟨[.ref l,.int x u],[]⟩) (fun _ R s=>s.heap.get? l=some { cls:=.type "tuple", dict:=dd,data:=.seq items n,slots:=sl }/\R (.ok (.ret (dN l))) s) :=
 .of_wp fun prog w A R s h=>by
  obtain⟨hp,g,d,tk,os⟩:=s;obtain⟨hl,h⟩:=h;have c1:(decide (x < -2 ^ 63)||decide (x≥2 ^ 63))=false:=by
   rw[uE];exact⟨decide_eq_false (by omega),decide_eq_false (by omega)⟩
  have c2:(items.isEmpty||x==1)=true:=by rw[hx];simp
  wp_walk;exact⟨_,rfl,h⟩
section
variable{X:Cx}
theorem axh:OpR X (fQ .Mult) (fun x y H Q=>∃a xs,x=.ref a/\y=.int 1/\H a=some (.tup xs)/\Q (.ref a) H):=by
 intro zv s σ H x y v u Q I rx ry h;obtain⟨a,xs,rfl,rfl,ha,q⟩:=h;cases rx;obtain⟨t,rfl⟩:=ry;obtain⟨its,r1,p1,_⟩:=I.tuple (SqT.of ha);obtain⟨⟨cls,dd,data,sl⟩,ho,hc,n,hd⟩:=id p1;simp only at hc hd;subst hc hd;exact wpAny_binaryOp_repeat_ref (T := "tuple") (U := "int") (by decide) ⟨_,ho,rfl⟩ (fun s'=>typeIs_int s' 1 t) abd rA jR aet qJ.lookup
  (jU jR (typeIs_int s 1 t) qK (pR _ _) (acp 1 t a its.toArray n dd sl)
   ⟨ho,rfl,⟨_,ho,rfl⟩,jU nA ⟨_,ho,rfl⟩ vO (uR _ _) (anj a its.toArray n dd sl 1 t rfl) ⟨ho,⟨.ref a,H,I,rfl,q⟩⟩⟩)
def az2:R2:=fun x y H Q=>∃a xs k,x=.ref a/\y=.int k/\H a=some (.tup xs)/\xs≠[]/\2<=k/\k < 2 ^ 63/\xs.length*k.toNat<=cD/\∀p,H p=none->Q (.ref p) (upd H p (.tup (aD k.toNat xs).flatten))
theorem atq:OpR X (fQ .Mult) az2:=by
 intro zv s σ H x y v u Q I rx ry h;obtain⟨a,xs,k,rfl,rfl,ha,hx,h2,h63,hz,q⟩:=h;cases rx;obtain⟨t,rfl⟩:=ry;obtain⟨its,r1,p1,_⟩:=I.tuple (SqT.of ha);obtain⟨⟨cls,dd,data,sl⟩,ho,hc,n,hd⟩:=id p1;simp only at hc hd;subst hc hd;have hnew:jM (fun x1 x2=>x1++x2) #[] (aD k.toNat its.toArray)=(aD k.toNat its).flatten.toArray:=by
  have:=foldl_rep its k.toNat [];rw[cU] at this;exact this
 refine wpAny_binaryOp_repeat_ref (T := "tuple") (U := "int") (by decide) ⟨_,ho,rfl⟩ (fun s'=>typeIs_int s' k t) abd rA jR aet qJ.lookup
  (jU jR (typeIs_int s k t) qK (pR _ _) (acp k t a its.toArray n dd sl)
   ⟨ho,rfl,⟨_,ho,rfl⟩,jU nA ⟨_,ho,rfl⟩ vO (uR _ _) (ani a its.toArray n dd sl k t ?_ h2 h63 ?_) ⟨ho,?_⟩⟩)
 ·cases its with
  | nil=>exact absurd (r1.nil_iff.mp rfl) hx
  | cons _ _=>rfl
 ·rw[aV,<-r1.length];exact hz
 ·rw[hnew];refine⟨.ref s.heap.objs.size,_,I.laid (t':=s.toks) (o:=.tup (aD k.toNat xs).flatten) (fun b ob q=>aB _ q) (aM _) ?_,rfl,q _ (I.hok.fresh (aM _))⟩
  exact⟨by rw[len_rep,tR];exact hz,_,r1.rep k.toNat,IsTp.new _ _⟩
end
section
variable{prog:aZ}{w:World}{A:cI}{E:Value->aJ->Prop}{s:aJ}
theorem ac0{t sl:Addr}{items:Array Value}{vl vu:Value}{lo hi:Option Int}{Q:Value->aJ->Prop}(ht:IsTup s.heap t items)(hs:s.heap.IsSliceOf sl vl vu .none)(pl:pX vl lo)(pu:pX vu hi)
  (h1:HT.sIx items.size 0 lo=0) (h2:HT.sIx items.size items.size hi=items.size) (h:Q (.ref t) s):wpAny (model prog w) A (pJ (.ref t) (.ref sl)) Q E s:=by
 obtain⟨os,hos,hcs,hds⟩:=id hs;have hTs:s.TypeIs (.ref sl) "slice" := ⟨os,hos,hcs⟩;unfold pJ
 try with_reducible refine fH ?_
 first | refine aA (aH ?_) | skip
 refine aA (wpAny_sequenceKey ht.typeIs (by decide) ?_)
 refine aA (dH (name:=iM "__getitem__") ht.typeIs eG
  (eF eG ht.typeIs entry_tuple_getitem ?_ (args_tuple_getitem _ _)))
 show wpAny _ _ (rK (.ref t) >>= _) _ _ s;refine aA (tupleItemsOf_ ht ?_);refine aA (wpAny_typeOf hTs ?_);rw[if_pos (by decide)]
 refine aA (HT.abb hs pl pu ?_);have hyes:(((HT.sIx items.size 0 lo:Nat):Int)==0&&(1:Int)==1&&(HT.sIx items.size items.size hi - HT.sIx items.size 0 lo)==items.size)=true:=by
  rw[h1,h2];simp
 show wpAny _ _ (if (((HT.sIx items.size 0 lo:Nat):Int)==0&&(1:Int)==1&&(HT.sIx items.size items.size hi - HT.sIx items.size 0 lo)==items.size)=true then _ else _) _ _ s
 rw[if_pos hyes];refine aA (aA (wpAny_typeOf ht.typeIs (aH ?_)));rw[if_pos (by decide)]
 exact aA (iH (aH ⟨_,rfl,aH h⟩))
end
section
variable{X:Cx}
end
section
variable{X:Cx}(K:Fg9)(hK:X.K=K)
include hK
variable{tg:Expr}
end
theorem jw:bV "len" = some (.builtin "len"):=by decide +kernel
theorem akj:bV "all" = some (.builtin "all"):=by decide +kernel
theorem a2m:bV "any" = some (.builtin "any"):=by decide +kernel
theorem aba:bV "isinstance" = some (.builtin "isinstance"):=by decide +kernel
theorem ar8:bV "max" = some (.builtin "max"):=by decide +kernel
theorem a2l:bV "min" = some (.builtin "min"):=by decide +kernel
theorem av2:bV "sum" = some (.builtin "sum"):=by decide +kernel
theorem ar7:bV "sorted" = some (.builtin "sorted"):=by decide +kernel
theorem ar9:bV "divmod" = some (.builtin "divmod"):=by decide +kernel
theorem av3:bV "int" = some (.type "int"):=by decide +kernel
theorem ay4:bV "bool" = some (.type "bool"):=by decide +kernel
theorem jj:bV "tuple" = some (.type "tuple"):=by decide +kernel
theorem aby:bV "list" = some (.type "list"):=by decide +kernel
theorem au5:bV "range" = some (.type "range"):=by decide +kernel
theorem a2k:bV "set" = some (.type "set"):=by decide +kernel
theorem aki:bV "enumerate" = some (.type "enumerate"):=by decide +kernel
structure ExcK (K:Fg9) (C:Addr):Prop where
 ga:jJ K (.ref C) "__getattribute__" = some (some (.builtin "BaseException.__getattribute__"))
 gh:jJ K (.ref C) "__getattr__" = some none
 be:sJ K C (.type "BaseException")=some true
 hd:jV K C=true
 cl:jJ K (.ref C) "__class__" = some (some (.builtin "object.__class__"))
 sp:mD K (.builtin "object.__class__") "__get__" = some (some (.builtin "getset_descriptor.__get__"))
 tk:qR K (.builtin "object.__class__")=some true
 ob:sJ K C (.type "object")=some true
 no:∀T∈["int","bool","tuple","list","str","dict"],mQ K (.ref C) (.type T)=some false
theorem alq{K:Fg9}{C:Addr}{od:Option Obj}{name:Str}{a g:Value}(hc:(mR K C).isSome=true)(ha:jJ K (.ref C) name=some (some a))(hg:mD K a "__get__" = some (some g))(ht:qR K a=some true):nO K C od name=some (.bind g a):=by
 obtain⟨cd,hc⟩:=sG.mp hc;unfold nO;rw[hc,vW,ha,vW];simp[hg,ht]
section
variable{prog:aZ}{w:World}{A:cI}{E:Value->aJ->Prop}{s:aJ}{K:Fg9}{x D:Addr}{ox:Obj}{od:Option Obj}{name:Str}
theorem auu{fill expr:Bool}{tk:Tok}{Q:Value->aJ->Prop}(X:K.In s.heap)(I:lR s.heap x ox D od)(k:ExcK K D)
  (h:wpAny (model prog w) A.in1 (iJ.«object.__getattribute__» ⟨[.ref x,.str name tk],[]⟩)
   (fun fin s'=>match fin with | .done (.ret v)=>wpAny (model prog w) A (handedOut v) Q E s' | _=>False) (fun _ _=>False) s) :
  wpAny (model prog w) A (getAttrBy (.ref x) (.str name tk) fill expr) Q E s:=by
 obtain⟨hh,g,d,t,os⟩:=s;have L0:=I.type (M:=model prog w);have L1:=oF (M:=model prog w) X k.ga;have L2:=oF (M:=model prog w) X k.gh;have L3:PySem.W.Looks (model prog w) hh (isInstance (.ref x) (.type "BaseException")) true:=L0.andThen (PySem.W.looks_mroIn X k.be);unfold getAttrBy;refine fH (aA (L0.at (aA (L1.at ?_))));have hx2:(mL "BaseException.__getattribute__" == mL "object.__getattribute__")=false:=by decide +kernel
 have hx1:(onTheHeap (dN D)&&mL "BaseException.__getattribute__" == mL "object.__getattribute__")=false:=by rw[hx2,wO]
 simp only[hx1,iK,if_false];unfold getAttrByItsOwn hookBefore;rw[if_pos (show onTheHeap (dN D)=true from rfl)]
 refine aA ?_;refine L2.at (aA (wpAny_attempt (fH ?_)));have hx0:(expr&&onTheHeap (mL "BaseException.__getattribute__"))=false:=by cases expr <;> rfl
 unfold callGetattribute;rw[if_neg (by rw[hx0];exact dX)]
 unfold boundAndCalled;refine aA (wpAny_of_eq (sV.ga.bind (.ref x)) ?_);have hk1:builtinKind "BaseException.__getattribute__" = some .slot:=by decide +kernel
 have hs1:splitId "BaseException.__getattribute__" = some ("BaseException","__getattribute__"):=by decide +kernel
 have ha1:=PySem.F.args_bexc_ga (.ref x) (.str name tk);dsimp only[kW,cU];refine wpAny_call (codeAny_call_builtin (id := "BaseException.__getattribute__") (args:=⟨[.ref x,.str name tk],[]⟩) sV.ga.plain PySem.F.entry_bexc_ga ?_);refine PySem.W.check_slot (i := "BaseException.__getattribute__") (owner := "BaseException") (n := "__getattribute__") (self:=.ref x) (rest:=[.str name tk]) (kw:=[]) hk1 hs1 L3 ha1 ?_;refine dC h (fun fin s' z =>?_) fun _ _ z=>z.elim
 rcases fin with(_ | _ | _ | _) | _ <;> first | exact z | exact z.elim
theorem auv{g a:Value}{tk:Tok}{P:Value->aJ->Prop}(X:K.In s.heap)(I:lR s.heap x ox D od)(hf:nO K D od name=some (.bind g a))
  (h:wpAny (model prog w) A (call g [a,.ref x,.ref D]) P E s) :
  wpAny (model prog w) A (iJ.«object.__getattribute__» ⟨[.ref x,.str name tk],[]⟩) (fun fin s'=>match fin with | .done (.ret v)=>P v s' | _=>False) E s:=by
 obtain⟨hh,gg,d,t,os⟩:=s;have L0:=I.type (M:=model prog w);have L1:=PySem.W.looks_find (M:=model prog w) X I hf;unfold iJ.«object.__getattribute__»
 refine aA (aH (aA (aH (aA (L0.at (aA (L1.at ?_)))))));show wpAny _ _ (Builtin.ObjectAttr.bindTo g a (.ref x) (.ref D)) _ _ _;show wpAny _ _ (jC [a] (call g [a,.ref x,.ref D]) >>= ret) _ _ _;exact aA (fH (dC h (fun v s' z=>aH z) fun _ _ z=>z))
end
theorem aua{K:Fg9}{x D:Addr}(k:ExcK K D):PySem.W.KitX K (.ref x) (.ref D) (fun h=>∃ox od,lR h x ox D od) where
 ty:=fun _ _ _ ⟨_,_,I⟩=>I.type
 it:=fun _ _ X _=>by
  obtain⟨cdD,hcD,_⟩:=mX k.hd;unfold mR at hcD;split at hcD
  ·rename_i c' d' cd' sl' ho;intro A' Q' E' s' k q;unfold isType loadHead;exact aA (wpAny_loadPart (k _ _ (X _ _ ho)) (aH q))
  ·cases hcD
 ne:=fun h tp dd its n sl X htp=>by
  obtain⟨cdD,hcD,_⟩:=mX k.hd;refine Bool.eq_false_iff.mpr fun q =>?_
  have e:D=tp:=Value.ref.inj (beq_iff_eq.mp q);subst e;unfold mR at hcD;split at hcD
  ·rename_i c' d' cd' sl' ho;have z:=(X _ _ ho).symm.trans htp;cases z
  ·cases hcD
 ca:=fun{prog w A E Q s} X ⟨ox,od,I⟩ q=>by
  have hf:nO K D od "__class__" = some (.bind (.builtin "getset_descriptor.__get__") (.builtin "object.__class__")):=alq (by obtain⟨cd,hc,_⟩:=mX k.hd;rw[hc];rfl) k.cl k.sp k.tk
  unfold getAttr? getAttrBy?;refine aA (wpAny_mkText (aA (wpAny_attempt (auu (s:={ s with toks:=s.toks+1 }) X I k (auv (s:={ s with toks:=s.toks+1 }) X I hf
   (wpAny_call (PySem.W.class_get (s:={ s with toks:=s.toks+1 }) (ox:=ox) (od:=od) X I k.ob (PySem.W.handed_on rfl (aH q)))))))))
end Mn
namespace Dn
open L2 Mn
inductive D where
 | non | bl (b:Bool) | int (i:Int) | str (x:Str) | tup (l:List D) | lst (l:List D) | kst (l:List D) | dct (kvs:List (Key×D)) | exn (c:Str) (fs:List (Str×Int))
def exO(a C:Addr)(dx:Option Addr):Heap->Prop:=fun h=>∃oe vs,h.get? a=some oe/\oe.cls=.ref C/\oe.dict=dx/\oe.data=.fields vs
section
variable(K:Fg9)(F:Hp)
mutual
inductive Is:D->V->Prop
 | non:Is .non .non
 | bl (b:Bool):Is (.bl b) (.bl b)
 | int (i:Int):Is (.int i) (.int i)
 | str (x:Str):Is (.str x) (.str x)
 | tup {a:Addr} {vs:List V} {ds:List D} (e:F a=some (.tup vs)) (h:IsL ds vs):Is (.tup ds) (.ref a)
 | lst {a:Addr} {vs:List V} {ds:List D} (e:F a=some (.lst vs)) (h:IsL ds vs):Is (.lst ds) (.ref a)
 | kst {a:Addr} {vs:List V} {ds:List D} (e:SqL K F a vs) (h:IsL ds vs):Is (.kst ds) (.ref a)
 | dct {a:Addr} {kvs:List (Key×V)} {ds:List (Key×D)} (e:F a=some (.dK kvs)) (h:IsK ds kvs):Is (.dct ds) (.ref a)
 | exn {a C:Addr} {c:Str} {dx:Option Addr} {fs:List (Str×Int)} (e:F a=some (.ext (exO a C dx))) (hc:nsIn K aP c=some (some (.ref C))) (hk:ExcK K C)
   (hf:(dx=none/\fs=[])∨∃d,dx=some d/\F d=some (.xd (fs.map fun p=>(p.1,V.int p.2)))):Is (.exn c fs) (.ref a)
inductive IsL:List D->List V->Prop
 | nil:IsL [] []
 | cons {d:D} {v:V} {ds:List D} {vs:List V} (h:Is d v) (t:IsL ds vs):IsL (d::ds) (v::vs)
inductive IsK:List (Key×D)->List (Key×V)->Prop
 | nil:IsK [] []
 | cons {k:Key} {d:D} {v:V} {ds:List (Key×D)} {vs:List (Key×V)} (h:Is d v) (t:IsK ds vs):IsK ((k,d)::ds) ((k,v)::vs)
end
end
section
variable{K:Fg9}{F F':Hp}
mutual
theorem Is.mono(g:Same F F'):∀{d:D} {v:V},Is K F d v->Is K F' d v
 | _,_,.non=>.non
 | _,_,.bl b=>.bl b
 | _,_,.int i=>.int i
 | _,_,.str x=>.str x
 | _,_,.tup e h=>.tup (g _ _ e) (IsL.mono g h)
 | _,_,.lst e h=>.lst (g _ _ e) (IsL.mono g h)
 | _,_,.kst e h=>.kst (L2.Same.seq g e) (IsL.mono g h)
 | _,_,.dct e h=>.dct (g _ _ e) (IsK.mono g h)
 | _,_,.exn e hc hk hf=>.exn (g _ _ e) hc hk (hf.imp id fun⟨d,h1,h2⟩=>⟨d,h1,g _ _ h2⟩)
theorem IsL.mono(g:Same F F'):∀{ds:List D} {vs:List V},IsL K F ds vs->IsL K F' ds vs
 | _,_,.nil=>.nil
 | _,_,.cons h t=>.cons (Is.mono g h) (IsL.mono g t)
theorem IsK.mono(g:Same F F'):∀{ds:List (Key×D)} {vs:List (Key×V)},IsK K F ds vs->IsK K F' ds vs
 | _,_,.nil=>.nil
 | _,_,.cons h t=>.cons (Is.mono g h) (IsK.mono g t)
end
theorem IsL.length:∀{ds:List D} {vs:List V},IsL K F ds vs->ds.length=vs.length
 | _,_,.nil=>rfl
 | _,_,.cons _ t=>by simp[IsL.length t]
theorem IsL.append:∀{ds es:List D} {vs ws:List V},IsL K F ds vs->IsL K F es ws->IsL K F (ds++es) (vs++ws)
 | _,_,_,_,.nil,h=>h
 | _,_,_,_,.cons h t,k=>.cons h (IsL.append t k)
theorem IsL.take:∀{ds:List D} {vs:List V} (n:Nat),IsL K F ds vs->IsL K F (ds.take n) (vs.take n)
 | _,_,0,_=>by simpa using IsL.nil
 | _,_,_+1,.nil=>.nil
 | _,_,n+1,.cons h t=>.cons h (IsL.take n t)
theorem IsL.drop:∀{ds:List D} {vs:List V} (n:Nat),IsL K F ds vs->IsL K F (ds.drop n) (vs.drop n)
 | _,_,0,h=>h
 | _,_,_+1,.nil=>.nil
 | _,_,n+1,.cons _ t=>IsL.drop n t
theorem IsL.get:∀{ds:List D} {vs:List V} {i:Nat} {d:D},IsL K F ds vs->ds[i]? = some d->∃v,vs[i]? = some v/\Is K F d v
 | _,_,_,_,.nil,e=>by simp at e
 | _,_,0,_,.cons h _,e=>by simp at e;subst e;exact⟨_,rfl,h⟩
 | _,_,i+1,v,.cons _ t,e=>by
  obtain⟨d,h1,h2⟩:=IsL.get (i:=i) (d:=v) t (by simpa using e)
  exact⟨d,by simpa using h1,h2⟩
theorem IsL.set{d:D}{v:V}(h:Is K F d v):∀{ds:List D} {vs:List V} (i:Nat),IsL K F ds vs->IsL K F (ds.set i d) (vs.set i v)
 | _,_,_,.nil=>.nil
 | _,_,0,.cons _ t=>.cons h t
 | _,_,i+1,.cons q t=>.cons q (IsL.set h i t)
theorem IsL.rep{ds:List D}{vs:List V}(h:IsL K F ds vs):∀k:Nat,IsL K F (aD k ds).flatten (aD k vs).flatten
 | 0=>by simpa using IsL.nil
 | k+1=>by
  rw[eE,eE,gY,gY];exact h.append (IsL.rep h k)
theorem IsL.int_inv:∀{ns:List Int} {vs:List V},IsL K F (ns.map D.int) vs->vs=ns.map V.int
 | [],_,.nil=>rfl
 | n::r,_,.cons (.int _) t=>by rw[aU,IsL.int_inv t]
theorem IsL.bl_inv:∀{ns:List Bool} {vs:List V},IsL K F (ns.map D.bl) vs->vs=ns.map V.bl
 | [],_,.nil=>rfl
 | n::r,_,.cons (.bl _) t=>by rw[aU,IsL.bl_inv t]
theorem afc:∀ns:List Int,IsL K F (ns.map D.int) (ns.map V.int)
 | []=>.nil
 | n::r=>.cons (.int n) (afc r)
end
inductive Sl where
 | emp | val (d:D) | own (t:Option Nat) (l:List D) | box (c:Str) (fs:List (Str×(Nat ⊕ D)))
abbrev Ro:=List Sl
def Owns(ρ:Ro)(σ:L2.St)(i:Nat)(a:Addr):Prop:=(∃t l,ρ[i]? = some (.own t l))/\σ[i]? = some (some (.ref a))
def Own(ρ:Ro)(σ:L2.St)(a:Addr):Prop:=∃i,Owns ρ σ i a
def SlOk(K:Fg9)(tg:Nat->Addr)(F H:Hp):Sl->Option V->Prop
 | .emp,_=>True
 | .val d,o=>∃v,o=some v/\Is K F d v
 | .own t l,o=>∃a vs,o=some (.ref a)/\F a=none/\H a=some (.lst vs)/\IsL K F l vs/\∀k,t=some k->tg k=a
 | .box c fs,o=>∃a C dx fvs,o=some (.ref a)/\F a=none/\H a=some (.ins C dx fvs)/\nsIn K aP c=some (some (.ref C))/\(∀f,fs.lookup f=none->fvs.lookup f=none)/\(∀f k,fs.lookup f=some (.inl k)->fvs.lookup f=some (.ref (tg k)))/\∀f d,fs.lookup f=some (.inr d)->∃v,fvs.lookup f=some v/\Is K F d v
structure Good (K:Fg9) (tg:Nat->Addr) (F H:Hp) (ρ:Ro) (σ:L2.St):Prop where
 sub:Same F H
 len:ρ.length=σ.length
 sl:∀(i:Nat) (s:Sl) (o:Option V),ρ[i]? = some s->σ[i]? = some o->SlOk K tg F H s o
 inj:∀(i j:Nat) (a:Addr),Owns ρ σ i a->Owns ρ σ j a->i=j
structure Ext (O O':Addr->Prop) (F H F' H':Hp):Prop where
 sub:Same F F'
 new:∀a o,F' a=some o->F a=some o∨H a=none∨O a
 keep:∀a o,H a=some o->¬O a->H' a=some o
 own:∀a,O' a->O a∨H a=none
 there:∀a,H' a=none->H a=none
theorem Ext.refl(O:Addr->Prop)(F H:Hp):Ext O O F H F H:=⟨fun _ _ e=>e,fun _ _ e=>.inl e,fun _ _ e _=>e,fun _ h=>.inl h,fun _ h=>h⟩
theorem Ext.trans{O O1 O2:Addr->Prop}{F H F1 H1 F2 H2:Hp}(a:Ext O O1 F H F1 H1)(b:Ext O1 O2 F1 H1 F2 H2):Ext O O2 F H F2 H2 where
 sub:=a.sub.trans b.sub
 new:=fun c o e=>by
  rcases b.new c o e with q | q | q
  ·exact a.new c o q
  ·exact .inr (.inl (a.there c q))
  ·rcases a.own c q with z | z
   ·exact .inr (.inr z)
   ·exact .inr (.inl z)
 keep:=fun c o e n=>b.keep c o (a.keep c o e n) fun z=>by
  rcases a.own c z with q | q
  ·exact n q
  ·rw[e] at q;cases q
 own:=fun c z=>by
  rcases b.own c z with q | q
  ·exact a.own c q
  ·exact .inr (a.there c q)
 there:=fun c z=>a.there c (b.there c z)
section
variable{K:Fg9}{tg:Nat->Addr}{F H F' H':Hp}{ρ ρ':Ro}{σ:L2.St}
theorem Good.ownAt(G:Good K tg F H ρ σ){a:Addr}(h:Own ρ σ a):F a=none/\∃vs,H a=some (.lst vs):=by
 obtain⟨i,⟨t,l,e⟩,q⟩:=h;obtain⟨b,vs,e1,f,e2,_⟩:=G.sl i _ _ e q;cases e1;exact⟨f,vs,e2⟩
theorem Good.grow(G:Good K tg F H ρ σ)(s:Same F F')(s':Same F' H')(k:∀a,Own ρ σ a->F' a=none/\H' a=H a)(kb:∀a C dx fvs,F a=none->H a=some (.ins C dx fvs)->F' a=none/\H' a=H a):Good K tg F' H' ρ σ where
 sub:=s'
 len:=G.len
 inj:=G.inj
 sl:=fun i sl o e q=>by
  have z:=G.sl i sl o e q;cases sl with
  | emp=>trivial
  | val d =>
   obtain⟨v,e1,h⟩:=z;exact⟨v,e1,h.mono s⟩
  | box c fs =>
   obtain⟨a,C,dx,fvs,e1,e2,e3,e4,e7,e5,e6⟩:=z;obtain⟨f1,f2⟩:=kb a C dx fvs e2 e3;exact⟨a,C,dx,fvs,e1,f1,f2.trans e3,e4,e7,e5,fun f d h=>(e6 f d h).imp fun v h=>⟨h.1,h.2.mono s⟩⟩
  | own t l =>
   obtain⟨a,vs,e1,f,e2,h,ht⟩:=z;have w:=k a ⟨i,⟨t,l,e⟩,by rw[q,e1]⟩
   exact⟨a,vs,e1,w.1,by rw[w.2];exact e2,h.mono s,ht⟩
theorem Same.put{p:Addr}(s:Same F H)(h:H p=none)(o:HO):Same (upd F p o) (upd H p o):=fun b u e=>by
 by_cases hb:b=p
 ·subst hb;rw[je] at e ⊢
  exact e
 ·rw[di hb] at e ⊢
  exact s b u e
theorem Good.freeF(G:Good K tg F H ρ σ){p:Addr}(h:H p=none):F p=none:=by
 cases e:F p with
 | none=>rfl
 | some o=>rw[G.sub p o e] at h;cases h
theorem Good.own_ne(G:Good K tg F H ρ σ){p a:Addr}(h:H p=none)(w:Own ρ σ a):a≠p:=by
 obtain⟨_,vs,e⟩:=G.ownAt w;exact jb e h
theorem Good.new(G:Good K tg F H ρ σ){p:Addr}(h:H p=none)(o:HO):Good K tg (upd F p o) (upd H p o) ρ σ :=
 G.grow (Same.new (G.freeF h) o) (Same.put G.sub h o) (fun a w=>by
  rw[di (G.own_ne h w),di (G.own_ne h w)];exact⟨(G.ownAt w).1,rfl⟩) fun a C dx fvs h1 h2=>by
  rw[di (jb h2 h),di (jb h2 h)];exact⟨h1,rfl⟩
theorem Good.newX(G:Good K tg F H ρ σ){p:Addr}(h:H p=none)(o:HO):Ext (Own ρ σ) (Own ρ σ) F H (upd F p o) (upd H p o) where
 sub:=Same.new (G.freeF h) o
 new:=fun a u e=>by
  by_cases ha:a=p
  ·subst ha;exact .inr (.inl h)
  ·rw[di ha] at e;exact .inl e
 keep:=fun a u e _=>by rw[di (jb e h)];exact e
 own:=fun a w=>.inl w
 there:=fun a e=>by
  by_cases ha:a=p
  ·subst ha;exact h
  ·rw[di ha] at e;exact e
theorem Good.fresh(G:Good K tg F H ρ σ){p:Addr}(h:H p=none)(o:HO):Good K tg F (upd H p o) ρ σ :=
 G.grow (Same.refl F) (fun b u e=>by rw[di (jb (G.sub b u e) h)];exact G.sub b u e) (fun a w=>by
  rw[di (G.own_ne h w)];exact⟨(G.ownAt w).1,rfl⟩) fun a C dx fvs h1 h2=>⟨h1,di (jb h2 h)⟩
theorem Good.freshX(G:Good K tg F H ρ σ){p:Addr}(h:H p=none)(o:HO):Ext (Own ρ σ) (Own ρ σ) F H F (upd H p o) where
 sub:=Same.refl F
 new:=fun a u e=>.inl e
 keep:=fun a u e _=>by rw[di (jb e h)];exact e
 own:=fun a w=>.inl w
 there:=fun a e=>by
  by_cases ha:a=p
  ·subst ha;exact h
  ·rw[di ha] at e;exact e
theorem Good.freeze(G:Good K tg F H ρ σ){p:Addr}{o:HO}(h:H p=some o)(n:¬Own ρ σ p)(hf:F p=none)(hi:∀C dx fs,o≠.ins C dx fs:=by intro _ _ _ z;cases z):Good K tg (upd F p o) H ρ σ :=
 G.grow (Same.new hf o) (fun b u e=>by
  by_cases hb:b=p
  ·subst hb;rw[je] at e;cases e;exact h
  ·rw[di hb] at e;exact G.sub b u e) (fun a w=>by
  have:a≠p:=fun z=>n (z▸w)
  rw[di this];exact⟨(G.ownAt w).1,rfl⟩) fun a C dx fvs h1 h2=>by
  have:a≠p:=fun z=>by
   subst z;rw[h] at h2;exact hi _ _ _ (bW h2)
  rw[di this];exact⟨h1,rfl⟩
end
end Dn
namespace Dn
open L2 Mn
structure Exn where
 cls:Str
 fs:List (Str×Int)
inductive Out (α:Type) where
 | ok (a:α) | exc (x:Exn)
abbrev M(α:Type):=Ro->Option (Out α×Ro)
noncomputable def M.bind{α β:Type}(m:M α)(k:α->M β):M β:=fun ρ=>match m ρ with
 | some (.ok a,ρ1)=>k a ρ1
 | some (.exc x,ρ1)=>some (.exc x,ρ1)
 | none=>none
noncomputable def ret{α:Type}(a:α):M α:=fun ρ=>some (.ok a,ρ)
noncomputable def lift{α:Type}(o:Option α):M α:=fun ρ=>match o with
 | some a=>some (.ok a,ρ)
 | none=>none
section
variable{α β:Type}
theorem bc{m:M α}{k:α->M β}{ρ ρ2:Ro}{b:β}(h:m.bind k ρ=some (.ok b,ρ2)):∃a ρ1,m ρ=some (.ok a,ρ1)/\k a ρ1=some (.ok b,ρ2):=by
 unfold M.bind at h;split at h
 ·exact⟨_,_,by assumption,h⟩
 ·cases h
 ·cases h
theorem ie{o:Option α}{ρ ρ2:Ro}{b:α}(h:lift o ρ=some (.ok b,ρ2)):o=some b/\ρ2=ρ:=by
 unfold lift at h;split at h
 ·cases h;exact⟨rfl,rfl⟩
 ·cases h
theorem mz{a b:α}{ρ ρ2:Ro}(h:ret a ρ=some (.ok b,ρ2)):a=b/\ρ2=ρ:=by
 unfold ret at h;cases h;exact⟨rfl,rfl⟩
@[simp] theorem a2y(a:α)(k:α->M β):(ret a).bind k=k a:=rfl
@[simp] theorem a1d(a:α):lift (some a)=ret a:=rfl
end
inductive Rv where
 | v (d:D) | fr (l:List D)
 | tf (d:D) (l:List D)
abbrev Rel(α:Type):=α->V->(H:Hp)->(O:Addr->Prop)->(F' H':Hp)->(O':Addr->Prop)->Prop
def relD(K:Fg9):Rel D:=fun d v _ _ F' _ _=>Is K F' d v
def Bor(K:Fg9)(F H:Hp)(d:D)(v:V):Prop:=Is K F d v∨∃a vs l,d=.lst l/\v=.ref a/\H a=some (.lst vs)/\IsL K F l vs
def relB(K:Fg9):Rel D:=fun d v _ _ F' H' _=>Bor K F' H' d v
def relR(K:Fg9):Rel Rv:=fun r v H O F' H' O'=>match r with
 | .v d=>Is K F' d v
 | .fr l=>∃a vs,v=.ref a/\(H a=none∨O a)/\F' a=none/\H' a=some (.lst vs)/\IsL K F' l vs/\¬O' a
 | .tf d l=>∃t u a vs,v=.ref t/\F' t=some (.tup [u,.ref a])/\Is K F' d u/\(H a=none∨O a)/\F' a=none/\H' a=some (.lst vs)/\IsL K F' l vs/\¬O' a
def T{α:Type}(K:Fg9)(rel:Rel α)(m:M α):TE:=fun σ H Q=>∃tg F ρ a ρ',Good K tg F H ρ σ/\m ρ=some (.ok a,ρ') /\
 ∀v H' F',Good K tg F' H' ρ' σ->Ext (Own ρ σ) (Own ρ' σ) F H F' H'->rel a v H (Own ρ σ) F' H' (Own ρ' σ)->Q v H'
structure EV (K:Fg9) (X:Cx) (e:Expr) (m:M D):Prop where
 go:X.K=K->PE X e (T K (relD K) m)
instance {K:Fg9} {X:Cx} {e:Expr} {m:M D}:CoeFun (EV K X e m) fun _=>X.K=K->PE X e (T K (relD K) m):=⟨EV.go⟩
structure EB (K:Fg9) (X:Cx) (e:Expr) (m:M D):Prop where
 go:X.K=K->PE X e (T K (relB K) m)
instance {K:Fg9} {X:Cx} {e:Expr} {m:M D}:CoeFun (EB K X e m) fun _=>X.K=K->PE X e (T K (relB K) m):=⟨EB.go⟩
structure ER (K:Fg9) (X:Cx) (e:Expr) (m:M Rv):Prop where
 go:X.K=K->PE X e (T K (relR K) m)
instance {K:Fg9} {X:Cx} {e:Expr} {m:M Rv}:CoeFun (ER K X e m) fun _=>X.K=K->PE X e (T K (relR K) m):=⟨ER.go⟩
theorem PE.imp{X:Cx}{e:Expr}{t t':TE}(h:PE X e t)(w:∀σ H Q,t' σ H Q->t σ H Q):PE X e t':=fun zv s σ H Q I q=>h zv s σ H Q I (w σ H Q q)
section
variable{K:Fg9}{X:Cx}{e a b:Expr}{pos:Pos}
theorem Bor.of{F H:Hp}{d:D}{v:V}(h:Is K F d v):Bor K F H d v:=.inl h
theorem EV.toB{m:M D}(h:EV K X e m):EB K X e m:=EB.mk fun hk=>PE.imp (h hk) fun σ H Q ⟨tg,F,ρ,d,ρ',G,em,q⟩=>⟨tg,F,ρ,d,ρ',G,em,fun v H' F' G' x r=>q v H' F' G' x (.inl r)⟩
def M.v(m:M D):M Rv:=m.bind fun d=>ret (.v d)
theorem EV.toR{m:M D}(h:EV K X e m):ER K X e m.v:=ER.mk fun hk=>PE.imp (h hk) fun σ H Q hq0=>by
 obtain⟨tg,F,ρ,r,ρ',G,em,q⟩:=hq0;obtain⟨d,ρ1,e1,e2⟩:=bc em;obtain⟨rfl,rfl⟩:=mz e2;exact⟨tg,F,ρ,d,_,G,e1,fun v H' F' G' x r=>q v H' F' G' x r⟩
noncomputable def Rv.d:Rv->D
 | .v d=>d
 | .fr l=>.lst l
 | .tf d l=>.tup [d,.lst l]
def M.d(m:M Rv):M D:=m.bind fun r=>ret r.d
theorem frz{tg:Nat->Addr}{O:Addr->Prop}{F H F' H':Hp}{ρ':Ro}{σ':L2.St}{r:Rv}{v:V}(G:Good K tg F' H' ρ' σ')(x:Ext O (Own ρ' σ') F H F' H')(h:relR K r v H O F' H' (Own ρ' σ')) :
  ∃F2,Good K tg F2 H' ρ' σ'/\Ext O (Own ρ' σ') F H F2 H'/\Is K F2 r.d v:=by
 cases r with
 | v d=>exact⟨F',G,x,h⟩
 | fr l =>
  obtain⟨a,vs,rfl,ha,hf,hh,hl,hn⟩:=h;refine⟨upd F' a (.lst vs),G.freeze hh hn hf,⟨x.sub.trans (Same.new hf _),fun b o e =>?_,x.keep,x.own,x.there⟩,.lst je (hl.mono (Same.new hf _))⟩
  by_cases hb:b=a
  ·subst hb;exact .inr ha
  ·rw[di hb] at e;exact x.new b o e
 | tf d l =>
  obtain⟨t,u,a,vs,rfl,ht,hd,ha,hf,hh,hl,hn⟩:=h;have hta:t≠a:=fun z=>by rw[z,hf] at ht;cases ht
  refine⟨upd F' a (.lst vs),G.freeze hh hn hf,⟨x.sub.trans (Same.new hf _),fun b o e =>?_,x.keep,x.own,x.there⟩,.tup (by rw[di hta];exact ht) (.cons (hd.mono (Same.new hf _)) (.cons (.lst je (hl.mono (Same.new hf _))) .nil))⟩
  by_cases hb:b=a
  ·subst hb;exact .inr ha
  ·rw[di hb] at e;exact x.new b o e
theorem ER.toD{m:M Rv}(h:ER K X e m):EV K X e m.d:=EV.mk fun hk=>PE.imp (h hk) fun σ H Q hq0=>by
 obtain⟨tg,F,ρ,d,ρ',G,em,q⟩:=hq0;obtain⟨r,ρ1,e1,e2⟩:=bc em;obtain⟨rfl,rfl⟩:=mz e2;refine⟨tg,F,ρ,r,_,G,e1,fun v H' F' G' x w =>?_⟩
 obtain⟨F2,G2,x2,i2⟩:=frz G' x w;exact q v H' F2 G2 x2 i2
noncomputable def gj(i:Nat):M D:=fun ρ=>match ρ[i]? with
 | some (.val d)=>some (.ok d,ρ)
 | some (.own _ l)=>some (.ok (.lst l),ρ)
 | _=>none
theorem Good.at{tg:Nat->Addr}{F H:Hp}{ρ:Ro}{σ:L2.St}(G:Good K tg F H ρ σ){i:Nat}{s:Sl}(e:ρ[i]? = some s):∃o,σ[i]? = some o/\SlOk K tg F H s o:=by
 have hi:i < σ.length:=by rw[<-G.len];exact(aN.mp e).1
 exact⟨σ[i],aC hi,G.sl i s _ e (aC hi)⟩
theorem qm{tg:Nat->Addr}{F H:Hp}{ρ ρ':Ro}{σ:L2.St}(G:Good K tg F H ρ σ){i:Nat}{d:D}(em:gj i ρ=some (.ok d,ρ')):ρ'=ρ/\∃v,σ[i]? = some (some v)/\Bor K F H d v:=by
 unfold gj at em;split at em
 ·rename_i d' e';cases em;obtain⟨o,ho,v,rfl,hv⟩:=G.at e';exact⟨rfl,v,ho,.inl hv⟩
 ·rename_i t l e';cases em;obtain⟨o,ho,a,vs,rfl,hf,hh,hl,_⟩:=G.at e';exact⟨rfl,_,ho,.inr ⟨a,vs,l,rfl,rfl,hh,hl⟩⟩
 ·cases em
theorem gn{i:Nat}(h:PE X e (tVar i)):EB K X e (gj i):=EB.mk fun _=>PE.imp h fun σ H Q hq0=>by
 obtain⟨tg,F,ρ,d,ρ',G,em,q⟩:=hq0;obtain⟨rfl,v,ho,hv⟩:=qm G em;exact⟨v,ho,q v H F G (Ext.refl _ _ _) hv⟩
def aid(i:Nat):M Rv:=fun ρ=>match ρ[i]? with
 | some (.val d)=>some (.ok (.v d),ρ)
 | some (.own none l)=>some (.ok (.fr l),ρ.set i .emp)
 | _=>none
theorem Good.drop{tg:Nat->Addr}{F H:Hp}{ρ:Ro}{σ:L2.St}(G:Good K tg F H ρ σ)(i:Nat):Good K tg F H (ρ.set i .emp) σ:=by
 have sub:∀j t l,(bA ρ i Sl.emp)[j]? = some (Sl.own t l)->(ρ:List Sl)[j]? = some (Sl.own t l):=fun j t l e=>by
  rw[bQ] at e;split at e
  ·split at e <;> cases e
  ·exact e
 refine⟨G.sub,by rw[bC];exact G.len,fun j s o e q =>?_,fun j k a ⟨⟨t,l,e⟩,q⟩ ⟨⟨t',l',e'⟩,q'⟩=>G.inj j k a ⟨⟨t,l,sub _ _ _ e⟩,q⟩ ⟨⟨t',l',sub _ _ _ e'⟩,q'⟩⟩
 rw[bQ] at e;split at e
 ·split at e
  ·cases e;trivial
  ·cases e
 ·exact G.sl j s o e q
theorem adg{ρ:Ro}{σ:L2.St}{i:Nat}{a:Addr}(h:Own (ρ.set i .emp) σ a):Own ρ σ a/\∀t l,ρ[i]? = some (.own t l)->∀(inj:∀i j a,Owns ρ σ i a->Owns ρ σ j a->i=j),¬Owns ρ σ i a:=by
 obtain⟨j,⟨t,l,e⟩,q⟩:=h;rw[bQ] at e;split at e
 ·split at e <;> cases e
 ·rename_i hne;have w:Owns ρ σ j a:=⟨⟨t,l,e⟩,q⟩;exact⟨⟨j,w⟩,fun t' l' _ inj z=>hne (inj _ _ _ z w)⟩
theorem aen{i:Nat}(h:PE X e (tVar i)):ER K X e (aid i):=ER.mk fun _=>PE.imp h fun σ H Q hq0=>by
 obtain⟨tg,F,ρ,d,ρ',G,em,q⟩:=hq0;unfold aid at em;split at em
 ·rename_i d' e';cases em;obtain⟨o,ho,v,rfl,hv⟩:=G.at e';exact⟨v,ho,q v H F G (Ext.refl _ _ _) hv⟩
 ·rename_i l e';cases em;obtain⟨o,ho,a,vs,rfl,hf,hh,hl,_⟩:=G.at e';have w:Owns ρ σ i a:=⟨⟨_,_,e'⟩,ho⟩;refine⟨_,ho,q _ H F (G.drop i) ⟨Same.refl _,fun _ _ e=>.inl e,fun _ _ e _=>e,fun b z=>.inl (adg z).1,fun _ z=>z⟩ ⟨a,vs,rfl,.inr ⟨i,w⟩,hf,hh,hl,fun z=>(adg z).2 _ _ e' G.inj w⟩⟩
 ·cases em
noncomputable def mVar(i:Nat):M D:=fun ρ=>match ρ[i]? with
 | some (.val d)=>some (.ok d,ρ)
 | some (.own none l)=>some (.ok (.lst l),ρ.set i (.val (.lst l)))
 | _=>none
theorem ato{ρ:Ro}{σ:L2.St}{i:Nat}{d:D}{a:Addr}(h:Own (ρ.set i (.val d)) σ a):Own (ρ.set i .emp) σ a:=by
 obtain⟨j,⟨t,l,e⟩,q⟩:=h;refine⟨j,⟨t,l,?_⟩,q⟩;rw[bQ] at e ⊢
 split at e
 ·split at e <;> cases e
 ·rename_i hne;rw[if_neg hne];exact e
theorem Good.setv{tg:Nat->Addr}{F H:Hp}{ρ:Ro}{σ:L2.St}{i:Nat}{d:D}{v:V}(G:Good K tg F H (ρ.set i .emp) σ)(e:σ[i]? = some (some v))(h:Is K F d v):Good K tg F H (ρ.set i (.val d)) σ:=by
 have sub:∀j t l,(bA ρ i (Sl.val d))[j]? = some (Sl.own t l)->(bA ρ i Sl.emp)[j]? = some (Sl.own t l):=fun j t l z=>by
  rw[bQ] at z ⊢
  split at z
  ·split at z <;> cases z
  ·rename_i hne;rw[if_neg hne];exact z
 refine⟨G.sub,by have:=G.len;rw[bC] at this ⊢;exact this,fun j s o z q =>?_,fun j k a ⟨⟨t,l,z⟩,q⟩ ⟨⟨t',l',z'⟩,q'⟩=>G.inj j k a ⟨⟨t,l,sub _ _ _ z⟩,q⟩ ⟨⟨t',l',sub _ _ _ z'⟩,q'⟩⟩
 by_cases hij:i=j
 ·subst hij;rw[bQ,if_pos rfl] at z;split at z
  ·cases z;rw[e] at q;cases q;exact⟨v,rfl,h⟩
  ·cases z
 ·refine G.sl j s o ?_ q;rw[bQ,if_neg hij] at z ⊢
  exact z
theorem aq{i:Nat}(h:PE X e (tVar i)):EV K X e (mVar i):=EV.mk fun _=>PE.imp h fun σ H Q hq0=>by
 obtain⟨tg,F,ρ,d,ρ',G,em,q⟩:=hq0;unfold mVar at em;split at em
 ·rename_i d' e';cases em;obtain⟨o,ho,v,rfl,hv⟩:=G.at e';exact⟨v,ho,q v H F G (Ext.refl _ _ _) hv⟩
 ·rename_i l e';cases em;obtain⟨o,ho,a,vs,rfl,hf,hh,hl,_⟩:=G.at e';have w:Owns ρ σ i a:=⟨⟨_,_,e'⟩,ho⟩;have nown:¬Own (ρ.set i .emp) σ a:=fun z=>(adg z).2 _ _ e' G.inj w
  have G2:=(G.drop i).freeze hh nown hf;have i2:Is K (upd F a (.lst vs)) (.lst l) (.ref a):=.lst je (hl.mono (Same.new hf _));refine⟨_,ho,q _ H _ (G2.setv ho i2) ⟨Same.new hf _,fun b o z =>?_,fun _ _ z _=>z,fun b z=>.inl (adg (ato z)).1,fun _ z=>z⟩ i2⟩
  by_cases hb:b=a
  ·subst hb;exact .inr (.inr ⟨i,w⟩)
  ·rw[di hb] at z;exact .inl z
 ·cases em
theorem ev_c{d:D}{v:V}(h:PE X e (tC v))(hi:∀F,Is K F d v):EV K X e (ret d):=EV.mk fun _=>PE.imp h fun σ H Q hq0=>by
 obtain⟨tg,F,ρ,d',ρ',G,em,q⟩:=hq0;obtain⟨rfl,rfl⟩:=mz em;exact q v H F G (Ext.refl _ _ _) (hi F)
theorem au{i:Int}{j:Nat}:EV K X (.Constant (.int i) j pos) (ret (.int i)):=ev_c a0k fun _=>.int i
theorem ag2{i:Bool}{j:Nat}:EV K X (.Constant (.bool i) j pos) (ret (.bl i)):=ev_c a5n fun _=>.bl i
def T2(K:Fg9)(m:M (D×D))(σ:L2.St)(H:Hp)(R:V->V->Hp->Prop):Prop:=∃tg F ρ p ρ',Good K tg F H ρ σ/\m ρ=some (.ok p,ρ') /\
 ∀x y H' F',Good K tg F' H' ρ' σ->Ext (Own ρ σ) (Own ρ' σ) F H F' H'->Bor K F' H' p.1 x->Bor K F' H' p.2 y->R x y H'
structure E2 (K:Fg9) (X:Cx) (a b:Expr) (m:M (D×D)):Prop where
 go:X.K=K->∃ta tb,PE X a ta/\PE X b tb/\∀σ H R,T2 K m σ H R->ta σ H fun x H1=>tb σ H1 fun y H2=>R x y H2
instance {K:Fg9} {X:Cx} {a b:Expr} {m:M (D×D)}:CoeFun (E2 K X a b m) fun _=>X.K=K->∃ta tb,PE X a ta/\PE X b tb/\∀σ H R,T2 K m σ H R->ta σ H fun x H1=>tb σ H1 fun y H2=>R x y H2:=⟨E2.go⟩
def gq(m1 m2:M D):M (D×D):=m1.bind fun x=>m2.bind fun y=>ret (x,y)
def cu(i:Nat)(m2:M D):M (D×D):=(gj i).bind fun _=>m2.bind fun y=>(gj i).bind fun x=>ret (x,y)
theorem e2_v{m1 m2:M D}(ha:EV K X a m1)(hb:EB K X b m2):E2 K X a b (gq m1 m2):=E2.mk fun hk=>⟨_,_,ha hk,hb hk,fun σ H R hq0=>by
 obtain⟨tg,F,ρ,p,ρ',G,em,q⟩:=hq0;obtain⟨d1,ρ1,e1,em⟩:=bc em;obtain⟨d2,ρ2,e2,em⟩:=bc em;obtain⟨rfl,rfl⟩:=mz em;exact⟨tg,F,ρ,d1,ρ1,G,e1,fun x H1 F1 G1 x1 r1=>⟨tg,F1,ρ1,d2,_,G1,e2,fun y H2 F2 G2 x2 r2=>q x y H2 F2 G2 (x1.trans x2) (.inl (r1.mono x2.sub)) r2⟩⟩⟩
theorem e2_n{i:Nat}{m2:M D}(ha:PE X a (tVar i))(hb:EB K X b m2):E2 K X a b (cu i m2):=E2.mk fun hk=>⟨_,_,ha,hb hk,fun σ H R hq0=>by
 obtain⟨tg,F,ρ,p,ρ',G,em,q⟩:=hq0;obtain⟨d0,ρ0,e0,em⟩:=bc em;obtain⟨d2,ρ2,e2,em⟩:=bc em;obtain⟨d1,ρ1,e1,em⟩:=bc em;obtain⟨rfl,rfl⟩:=mz em;obtain⟨rfl,v,hv,_⟩:=qm G e0;exact⟨v,hv,tg,F,ρ0,d2,ρ2,G,e2,fun y H2 F2 G2 x2 r2=>by
  obtain⟨rfl,v',hv',b'⟩:=qm G2 e1;rw[hv] at hv';cases hv';exact q v y H2 F2 G2 x2 b' r2⟩⟩
end
section
variable{K:Fg9}{X:Cx}{e a b c:Expr}{es:List Expr}{pos p:Pos}
section
variable{F H:Hp}{x:V}
theorem Bor.lst{l:List D}(g:Same F H)(h:Bor K F H (.lst l) x):∃a vs,x=.ref a/\H a=some (.lst vs)/\IsL K F l vs:=by
 rcases h with h | ⟨a,vs,l',e1,e2,e3,h⟩
 ·cases h with
  | lst e h=>exact⟨_,_,rfl,g _ _ e,h⟩
 ·cases e1;exact⟨a,vs,e2,e3,h⟩
theorem Bor.tup{l:List D}(h:Bor K F H (.tup l) x):∃a vs,x=.ref a/\F a=some (.tup vs)/\IsL K F l vs:=by
 rcases h with h | ⟨a,vs,l',e1,_⟩
 ·cases h with
  | tup e h=>exact⟨_,_,rfl,e,h⟩
 ·cases e1
theorem Bor.kst{l:List D}(h:Bor K F H (.kst l) x):∃a vs,x=.ref a/\SqL K F a vs/\IsL K F l vs:=by
 rcases h with h | ⟨a,vs,l',e1,_⟩
 ·cases h with
  | kst e h=>exact⟨_,_,rfl,e,h⟩
 ·cases e1
theorem Bor.int{i:Int}(h:Bor K F H (.int i) x):x=.int i:=by
 rcases h with h | ⟨a,vs,l',e1,_⟩
 ·cases h;rfl
 ·cases e1
theorem Bor.bl{i:Bool}(h:Bor K F H (.bl i) x):x=.bl i:=by
 rcases h with h | ⟨a,vs,l',e1,_⟩
 ·cases h;rfl
 ·cases e1
theorem Bor.str{i:Str}(h:Bor K F H (.str i) x):x=.str i:=by
 rcases h with h | ⟨a,vs,l',e1,_⟩
 ·cases h;rfl
 ·cases e1
theorem Bor.non(h:Bor K F H .non x):x=.non:=by
 rcases h with h | ⟨a,vs,l',e1,_⟩
 ·cases h;rfl
 ·cases e1
end
def Res(K:Fg9)(tg:Nat->Addr)(F H:Hp)(ρ:Ro)(σ:L2.St)(r:Rv)(Q:VK):Prop :=
 ∀v H' F',Good K tg F' H' ρ σ->Ext (Own ρ σ) (Own ρ σ) F H F' H'->relR K r v H (Own ρ σ) F' H' (Own ρ σ)->Q v H'
section
variable{tg:Nat->Addr}{F H:Hp}{ρ:Ro}{σ:L2.St}{Q:VK}
theorem Res.same{d:D}{v:V}(G:Good K tg F H ρ σ)(q:Res K tg F H ρ σ (.v d) Q)(h:Is K F d v):Q v H:=q v H F G (Ext.refl _ _ _) h
theorem Res.tup{l:List D}{vs:List V}(G:Good K tg F H ρ σ)(q:Res K tg F H ρ σ (.v (.tup l)) Q)(h:IsL K F l vs){p:Addr}(hp:H p=none):Q (.ref p) (upd H p (.tup vs)) :=
 q _ _ _ (G.new hp _) (G.newX hp _) (.tup je (h.mono (Same.new (G.freeF hp) _)))
theorem Res.lst{l:List D}{vs:List V}(G:Good K tg F H ρ σ)(q:Res K tg F H ρ σ (.fr l) Q)(h:IsL K F l vs){p:Addr}(hp:H p=none):Q (.ref p) (upd H p (.lst vs)) :=
 q _ _ _ (G.fresh hp _) (G.freshX hp _) ⟨p,vs,rfl,.inl hp,G.freeF hp,je,h,fun z=>G.own_ne hp z rfl⟩
end
def rOf(K:Fg9)(g:D->D->Option Rv):R2:=fun x y H Q=>∃tg F ρ σ d1 d2 r,Good K tg F H ρ σ/\Bor K F H d1 x/\Bor K F H d2 y/\g d1 d2=some r/\Res K tg F H ρ σ r Q
structure OpD (K:Fg9) (X:Cx) (f:Value->Value->Sem Value) (g:D->D->Option Rv):Prop where
 go:X.K=K->OpR X f (rOf K g)
instance {K:Fg9} {X:Cx} {f:Value->Value->Sem Value} {g:D->D->Option Rv}:CoeFun (OpD K X f g) fun _=>X.K=K->OpR X f (rOf K g):=⟨OpD.go⟩
def mOp(g:D->D->Option Rv)(m:M (D×D)):M Rv:=m.bind fun p=>lift (g p.1 p.2)
theorem amh{g:D->D->Option Rv}{m:M (D×D)}{ta tb:TE}(h:∀σ H R,T2 K m σ H R->ta σ H fun x H1=>tb σ H1 fun y H2=>R x y H2)(σ:L2.St)(H:Hp)(Q:VK)(t:T K (relR K) (mOp g m) σ H Q):tOp (rOf K g) ta tb σ H Q:=by
 obtain⟨tg,F,ρ,r,ρ',G,em,q⟩:=t;obtain⟨p,ρ1,e1,em⟩:=bc em;obtain⟨e2,rfl⟩:=ie em;refine h σ H _ ⟨tg,F,ρ,p,_,G,e1,fun x y H' F' G' x' bx by'=>⟨tg,F',_,σ,p.1,p.2,r,G',bx,by',e2,fun v H2 F2 G2 x2 rr=>q v H2 F2 G2 (x'.trans x2) ?_⟩⟩
 cases r with
 | v d=>exact rr
 | fr l =>
  obtain⟨a,vs,ev,ha,w⟩:=rr;refine⟨a,vs,ev,?_,w⟩;rcases ha with ha | ha
  ·exact .inl (x'.there a ha)
  ·exact(x'.own a ha).symm
 | tf d l =>
  obtain⟨t,u,a,vs,ev,ht,hd,ha,w⟩:=rr;refine⟨t,u,a,vs,ev,ht,hd,?_,w⟩;rcases ha with ha | ha
  ·exact .inl (x'.there a ha)
  ·exact(x'.own a ha).symm
theorem dj{op:Operator}{g:D->D->Option Rv}{m:M (D×D)}(ho:OpD K X (fQ op) g)(h:E2 K X a b m):ER K X (.BinOp a op b pos) (mOp g m):=ER.mk fun hk=>by
 obtain⟨ta,tb,ha,hb,h⟩:=h hk;exact PE.imp (a5k (ho hk) ha hb) (amh h)
theorem ae5{op:CmpOp}{g:D->D->Option Rv}{m:M (D×D)}(ho:OpD K X (fJ op) g)(h:E2 K X a b m)(hm:behindInMarks op b=false):ER K X (.Compare a [op] [b] pos) (mOp g m):=ER.mk fun hk=>by
 obtain⟨ta,tb,ha,hb,h⟩:=h hk;exact PE.imp (axa (ho hk) ha hb hm) (amh h)
noncomputable def capS:Nat:=16777216
theorem ags{n:Nat}(h:n<=capS):n<=cD:=by rw[gQ];exact h
def gAdd:D->D->Option Rv
 | .int i,.int j=>some (.v (.int (i+j)))
 | .tup l,.tup k=>if l.length+k.length<=capS then some (.v (.tup (l++k))) else none
 | .lst l,.lst k=>if l.length+k.length<=capS then some (.fr (l++k)) else none
 | .str i,.str j=>if i.length+j.length<=capS then some (.v (.str (i++j))) else none
 | _,_=>none
theorem jq:OpD K X (fQ .Add) gAdd:=OpD.mk fun hk=>by
 intro zv s σ0 H x y v u Q I rx ry ⟨tg,F,ρ,σ,d1,d2,r,G,b1,b2,eg,q⟩;subst hk;unfold gAdd at eg;split at eg
 ·cases eg;obtain rfl:=b1.int;obtain rfl:=b2.int;exact a0u zv s σ0 H _ _ v u Q I rx ry ⟨_,_,rfl,rfl,Res.same G q (.int _)⟩
 ·split at eg
  ·rename_i hz;cases eg;obtain⟨a1,vs1,rfl,s1,i1⟩:=b1.tup;obtain⟨a2,vs2,rfl,s2,i2⟩:=b2.tup;have l1:=i1.length;have l2:=i2.length
   by_cases hx:vs1=[]
   ·subst hx;cases i1;cases rx;cases ry;obtain⟨its,r1,p1,_⟩:=I.tuple (SqT.of (G.sub _ _ s1));obtain⟨its2,r2,p2,_⟩:=I.tuple (SqT.of (G.sub _ _ s2));exact au2 p1 p2 (r1.nil_iff.mpr rfl) ⟨.ref a2,H,I,rfl,Res.same G q (.tup s2 i2)⟩
   ·refine axi zv s σ0 H _ _ v u Q I rx ry ⟨a1,a2,vs1,vs2,rfl,rfl,SqT.of (G.sub _ _ s1),SqT.of (G.sub _ _ s2),hx,by rw[<-l1,<-l2];exact ags hz,fun e =>?_,fun _ p hp=>Res.tup G q (i1.append i2) hp⟩
    subst e;cases i2;exact Res.same G q (.tup s1 (by simpa using i1))
  ·cases eg
 ·split at eg
  ·rename_i hz;cases eg;obtain⟨a1,vs1,rfl,s1,i1⟩:=b1.lst G.sub;obtain⟨a2,vs2,rfl,s2,i2⟩:=b2.lst G.sub;have l1:=i1.length;have l2:=i2.length;exact a0t zv s σ0 H _ _ v u Q I rx ry ⟨a1,a2,vs1,vs2,rfl,rfl,s1,s2,by rw[<-l1,<-l2];exact ags hz,fun p hp=>Res.lst G q (i1.append i2) hp⟩
  ·cases eg
 ·split at eg
  ·rename_i hz;cases eg;obtain rfl:=b1.str;obtain rfl:=b2.str;exact anw zv s σ0 H _ _ v u Q I rx ry ⟨_,_,rfl,rfl,ags hz,Res.same G q (.str _)⟩
  ·cases eg
 ·cases eg
def gInt(f:Int->Int->Option Int):D->D->Option Rv
 | .int i,.int j=>(f i j).map fun k=>.v (.int k)
 | _,_=>none
theorem ak6{op:Operator}{f:Int->Int->Option Int}{C:Int->Int->Prop}{g:Int->Int->Int}(h:OpR X (fQ op) (rI C fun i j=>.int (g i j)))(hf:∀i j k,f i j=some k->C i j/\k=g i j):OpD K X (fQ op) (gInt f):=OpD.mk fun hk=>by
 intro zv s σ0 H x y v u Q I rx ry ⟨tg,F,ρ,σ,d1,d2,r,G,b1,b2,eg,q⟩;unfold gInt at eg;split at eg
 ·rename_i i j;obtain rfl:=b1.int;obtain rfl:=b2.int;cases z:f i j with
  | none=>rw[z] at eg;cases eg
  | some k =>
   rw[z] at eg;cases eg;obtain⟨h1,rfl⟩:=hf i j k z;exact h zv s σ0 H _ _ v u Q I rx ry ⟨_,_,rfl,rfl,h1,Res.same G q (.int _)⟩
 ·cases eg
def fSub(i j:Int):Option Int:=some (i - j)
noncomputable def fMul(i j:Int):Option Int:=if (-18446744073709551616 < i/\i < 18446744073709551616)∨(-18446744073709551616 < j/\j < 18446744073709551616) then some (i*j) else none
theorem a0y{i j:Int}(h0:0 < j)(h:j < 1000000000000000000000000000000000000000000000000000000000000):qN i j=false:=by
 have e2:(2:Nat) ^ 200=1606938044258990275541962092341162602522202993782792835301376:=by decide +kernel
 have hl:j.natAbs.log2 < 200:=(Nat.log2_lt (by omega)).2 (by rw[e2];omega)
 have hd:¬(j.natAbs.log2 / 30+1 > 300):=by omega
 have hj:(j==0)=false:=by
  rw[beq_eq_false_iff_ne];omega
 unfold qN;simp only[hj,iK,if_false,hd,decide_false,rW]
theorem atu:OpR X (fQ .FloorDiv) (rI (fun _ j=>0 < j/\j < 1000000000000000000000000000000000000000000000000000000000000) fun i j=>.int (i / j)):=opI fun i j _ _ _ _ _ hc q=>by
 have h1:(0:Int) < j:=hc.1;exact floordiv_int (by omega) (by rw[rG i (by omega)];exact q) (.inl (a0y hc.1 hc.2))
noncomputable def fDiv(i j:Int):Option Int:=if 0 < j/\j < 1000000000000000000000000000000000000000000000000000000000000 then some (i / j) else none
def fMod(i j:Int):Option Int:=if 0 < j then some (i % j) else none
noncomputable def fPow(i j:Int):Option Int:=if 0<=j/\j<=1000000/\i.natAbs < 18446744073709551616 then some (i ^ j.toNat) else none
theorem nq:OpD K X (fQ .Sub) (gInt fSub):=OpD.mk fun hk=>by
 intro zv s σ0 H x y v u Q I rx ry ⟨tg,F,ρ,σ,d1,d2,r,G,b1,b2,eg,q⟩;unfold gInt at eg;split at eg
 ·obtain rfl:=b1.int;obtain rfl:=b2.int;cases eg;exact a0o zv s σ0 H _ _ v u Q I rx ry ⟨_,_,rfl,rfl,Res.same G q (.int _)⟩
 ·cases eg
end
mutual
def toPy:D->PyData
 | .non=>.none
 | .bl b=>.bool b
 | .int i=>.int i
 | .str x=>.str x
 | .tup l=>.tuple (ad3 l)
 | .lst l=>.list (ad3 l)
 | .kst l=>.list (ad3 l)
 | .dct _=>.dict []
 | .exn _ _=>.dict []
def ad3:List D->List PyData
 | []=>[]
 | d::r=>toPy d::ad3 r
end
noncomputable def okD:Nat->D->Bool
 | _,.non=>true
 | _,.bl _=>true
 | _,.int _=>true
 | _,.str x=>PyData.strOk x
 | n+1,.tup l=>l.all (okD n)
 | n+1,.lst l=>l.all (okD n)
 | n+1,.kst l=>l.all (okD n)
 | _,_=>false
theorem aib{n:Nat}(ih:∀d,okD n d=true->(toPy d).canLay0=true/\(toPy d).depth<=n):∀l:List D,l.all (okD n)=true->uY (ad3 l)=true/\wA (ad3 l)<=n
 | [],_=>⟨rfl,dI _⟩
 | d::r,h=>by
  rw[iZ,bF] at h;obtain⟨h1,h2⟩:=ih d h.1;obtain⟨h3,h4⟩:=aib ih r h.2;refine⟨?_,?_⟩
  ·show(PyData.canLay0 (toPy d)&&uY (ad3 r))=true;rw[h1,h3];rfl
  ·show max (PyData.depth (toPy d)) (wA (ad3 r))<=n;omega
theorem abk:∀(n:Nat) (d:D),okD n d=true->(toPy d).canLay0=true/\(toPy d).depth<=n
 | n,.non,_=>⟨rfl,dI _⟩
 | n,.bl _,_=>⟨rfl,dI _⟩
 | n,.int _,_=>⟨rfl,dI _⟩
 | n,.str x,h=>by
  refine⟨?_,dI _⟩;cases n <;> exact h
 | n+1,.tup l,h=>by
  obtain⟨h1,h2⟩:=aib (abk n) l h;exact⟨h1,mY h2⟩
 | n+1,.lst l,h=>by
  obtain⟨h1,h2⟩:=aib (abk n) l h;exact⟨h1,mY h2⟩
 | n+1,.kst l,h=>by
  obtain⟨h1,h2⟩:=aib (abk n) l h;exact⟨h1,mY h2⟩
 | 0,.tup l,h=>by cases h
 | 0,.lst l,h=>by cases h
 | 0,.kst l,h=>by cases h
 | 0,.dct l,h=>by cases h
 | n+1,.dct l,h=>by cases h
 | 0,.exn _ _,h=>by cases h
 | n+1,.exn _ _,h=>by cases h
def eqD(a b:D):Bool:=pP (toPy a) (toPy b)
def eqDs:List D->List D->Bool
 | [],[]=>true
 | a::r,b::t=>eqD a b&&eqDs r t
 | _,_=>false
theorem arb:∀a b:List D,wU (ad3 a) (ad3 b)=eqDs a b
 | [],[]=>rfl
 | a::r,b::t=>by
  show(pP (toPy a) (toPy b)&&wU (ad3 r) (ad3 t))=_;rw[arb r t];rfl
 | [],_::_=>rfl
 | _::_,[]=>rfl
section
variable{K:Fg9}{X:Cx}
section
variable{zv:List (Addr×Obj)}{σ:L2.St}{F H:Hp}{s:aJ}
mutual
theorem ab4(I:Inv X zv σ H s)(g:Same F H):∀{n:Nat} {d:D} {v:V} {u:Value},Is X.K F d v->okD n d=true->RelV v u->∃as,Reads s.heap u (toPy d) as
 | _,_,_,_,.non,_,r=>by cases r;exact⟨_,.none⟩
 | _,_,_,_,.bl b,_,r=>by cases r;exact⟨_,.bool b⟩
 | _,_,_,_,.int i,_,r=>by obtain⟨t,rfl⟩:=r;exact⟨_,.int i t⟩
 | _,_,_,_,.str i,_,r=>by obtain⟨t,rfl⟩:=r;exact⟨_,.str i t⟩
 | 0,_,_,_,.tup e h,k,r=>by cases k
 | n+1,_,_,_,.tup e h,k,r=>by
  cases r;obtain⟨its,rv,p1,_⟩:=I.tuple (SqT.of (g _ _ e));obtain⟨o,ho,hc,m,hd⟩:=p1;obtain⟨as,ra⟩:=abj I g h k rv;exact⟨_,.tuple ho hc hd (by simpa using ra)⟩
 | 0,_,_,_,.lst e h,k,r=>by cases k
 | n+1,_,_,_,.lst e h,k,r=>by
  cases r;obtain⟨its,rv,p1,_⟩:=I.list (SqL.of (g _ _ e));obtain⟨o,ho,hc,m,hd⟩:=p1.isList;obtain⟨as,ra⟩:=abj I g h k rv;exact⟨_,.list ho hc hd (by simpa using ra)⟩
 | 0,_,_,_,.kst e h,k,r=>by cases k
 | n+1,_,_,_,.kst e h,k,r=>by
  cases r;obtain⟨its,rv,p1,_⟩:=I.list (L2.Same.seq g e);obtain⟨o,ho,hc,m,hd⟩:=p1.isList;obtain⟨as,ra⟩:=abj I g h k rv;exact⟨_,.list ho hc hd (by simpa using ra)⟩
 | 0,_,_,_,.dct e h,k,r=>by cases k
 | n+1,_,_,_,.dct e h,k,r=>by cases k
 | 0,_,_,_,.exn ..,k,r=>by cases k
 | n+1,_,_,_,.exn ..,k,r=>by cases k
theorem abj(I:Inv X zv σ H s)(g:Same F H):∀{n:Nat} {ds:List D} {vs:List V} {us:List Value},IsL X.K F ds vs->ds.all (okD n)=true->Vals vs us->∃as,ReadsAll s.heap us (ad3 ds) as
 | _,_,_,_,.nil,_,r=>by cases r;exact⟨_,.nil⟩
 | n,_,_,_,.cons h t,k,r=>by
  rw[iZ,bF] at k;cases r with
  | cons r1 r2 =>
   obtain⟨as,ra⟩:=ab4 I g h k.1 r1;obtain⟨bs,rb⟩:=abj I g t k.2 r2;exact⟨_,.cons ra rb⟩
end
theorem aac(I:Inv X zv σ H s)(g:Same F H){n:Nat}{d:D}{v:V}{u:Value}(h:Bor X.K F H d v)(k:okD n d=true)(r:RelV v u):∃as,Reads s.heap u (toPy d) as:=by
 rcases h with h | ⟨a,vs,l,rfl,rfl,e,h⟩
 ·exact ab4 I g h k r
 ·cases r;cases n with
  | zero=>cases k
  | succ n =>
   obtain⟨its,rv,p1,_⟩:=I.list (SqL.of e);obtain⟨o,ho,hc,m,hd⟩:=p1.isList;obtain⟨as,ra⟩:=abj I g h k rv;exact⟨_,.list ho hc hd (by simpa using ra)⟩
end
def gEq(neg:Bool)(a b:D):Option Rv:=if okD 30 a&&okD 30 b then some (.v (.bl (if neg then !eqD a b else eqD a b))) else none
theorem afv(hu:X.A.units+64 < cLine):OpD K X (fJ .Eq) (gEq false):=OpD.mk fun hk=>by
 intro zv s σ0 H x y v u Q I rx ry ⟨tg,F,ρ,σ,d1,d2,r,G,b1,b2,eg,q⟩;subst hk;unfold gEq at eg;split at eg
 ·rename_i ho;rw[bF] at ho;cases eg;obtain⟨as,ra⟩:=aac I G.sub b1 ho.1 rx;obtain⟨bs,rb⟩:=aac I G.sub b2 ho.2 ry;obtain⟨c1,p1⟩:=abk _ _ ho.1;obtain⟨c2,p2⟩:=abk _ _ ho.2;exact PySem.SeqAt.compareEq_reads ra rb c1 c2 (by omega) ⟨.bl _,H,I,rfl,Res.same G q (.bl _)⟩
 ·cases eg
theorem ajg(hu:X.A.units+64 < cLine):OpD K X (fJ .NotEq) (gEq true):=OpD.mk fun hk=>by
 intro zv s σ0 H x y v u Q I rx ry ⟨tg,F,ρ,σ,d1,d2,r,G,b1,b2,eg,q⟩;subst hk;unfold gEq at eg;split at eg
 ·rename_i ho;rw[bF] at ho;cases eg;obtain⟨as,ra⟩:=aac I G.sub b1 ho.1 rx;obtain⟨bs,rb⟩:=aac I G.sub b2 ho.2 ry;obtain⟨c1,p1⟩:=abk _ _ ho.1;obtain⟨c2,p2⟩:=abk _ _ ho.2;exact PySem.SeqAt.compareNe_reads ra rb c1 c2 (by omega) ⟨.bl _,H,I,rfl,Res.same G q (.bl _)⟩
 ·cases eg
noncomputable def itemsD:D->Option (List D)
 | .tup l=>some l
 | .lst l=>some l
 | .kst l=>some l
 | _=>none
def gIn(neg:Bool)(a b:D):Option Rv:=match itemsD b with
 | some l=>if okD 30 a&&l.all (okD 30) then some (.v (.bl (if neg then !l.any (fun y=>eqD y a) else l.any (fun y=>eqD y a)))) else none
 | none=>none
open Classical in
noncomputable def aa2(h:Heap)(dx:PyData)(u:Value):Bool:=decide (∃d as,Reads h u d as/\d.canLay0=true/\pP d dx=true)
open Classical in
theorem aik{h:Heap}{dx d:PyData}{u:Value}{as:List Addr}(r:Reads h u d as)(c:d.canLay0=true):aa2 h dx u=pP d dx:=by
 unfold aa2;cases e:pP d dx with
 | true=>exact decide_eq_true ⟨d,as,r,c,e⟩
 | false =>
  refine decide_eq_false ?_
  rintro⟨d',as',r',c',e'⟩
  rw[<-PySem.SeqAt.Reads.unique d d' u as as' c r r'] at e';rw[e] at e';cases e'
theorem yj{zv:List (Addr×Obj)}{σ:L2.St}{F H:Hp}{s:aJ}(I:Inv X zv σ H s)(g:Same F H){a:D}{n:Nat}:∀{ds:List D} {vs:List V} {us:List Value},IsL X.K F ds vs->ds.all (okD n)=true->Vals vs us ->
  us.any (aa2 s.heap (toPy a))=ds.any (fun y=>eqD y a)/\∀u∈us,∃d as,Reads s.heap u d as/\d.canLay0=true/\d.depth<=n
 | _,_,_,.nil,_,r=>by cases r;exact⟨rfl,fun u hu=>by cases hu⟩
 | _,_,_,.cons h t,k,r=>by
  rw[iZ,bF] at k;cases r with
  | cons r1 r2 =>
   obtain⟨as,ra⟩:=ab4 I g h k.1 r1;obtain⟨c,p⟩:=abk _ _ k.1;obtain⟨e,z⟩:=yj I g (a:=a) t k.2 r2;refine⟨?_,fun u hu =>?_⟩
   ·rw[pG,pG,e,aik ra c];rfl
   ·rcases aY.mp hu with rfl | hu
    ·exact⟨_,as,ra,c,p⟩
    ·exact z u hu
theorem w6{s:aJ}{A:cI}(hu:A.units+64 < cLine){us:List Value}{a:D}{v:Value}{as:List Addr}(ra:Reads s.heap v (toPy a) as)(ka:okD 30 a=true)(z:∀u∈us,∃d as,Reads s.heap u d as/\d.canLay0=true/\d.depth<=30) :
  ∀u∈us,SeqAt.EqAt A.in1 s u v (aa2 s.heap (toPy a) u):=fun u hm=>by
 obtain⟨d,bs,rb,c,p⟩:=z u hm;obtain⟨c2,p2⟩:=abk _ _ ka;rw[aik rb c];refine PySem.SeqAt.eqAt_reads d (toPy a) A.in1 s u v bs as rb ra c c2 ?_;show A.units+1+_ < _;omega
theorem aj4{a b:D}{neg:Bool}{r:Rv}(h:gIn neg a b=some r):∃l,itemsD b=some l/\okD 30 a=true/\l.all (okD 30)=true/\r=.v (.bl (if neg then !l.any (fun y=>eqD y a) else l.any (fun y=>eqD y a))):=by
 unfold gIn at h;split at h
 ·rename_i l e;split at h
  ·rename_i ho;rw[bF] at ho;cases h;exact⟨l,e,ho.1,ho.2,rfl⟩
  ·cases h
 ·cases h
theorem afp{F H:Hp}{d:D}{l:List D}{x:V}(g:Same F H)(e:itemsD d=some l)(h:Bor K F H d x):∃a vs,x=.ref a/\IsL K F l vs/\(SqL K H a vs∨SqT K H a vs):=by
 cases d with
 | tup k =>
  cases e;obtain⟨a,vs,rfl,e,h⟩:=h.tup;exact⟨a,vs,rfl,h,.inr (SqT.of (g _ _ e))⟩
 | lst k =>
  cases e;obtain⟨a,vs,rfl,e,h⟩:=h.lst g;exact⟨a,vs,rfl,h,.inl (SqL.of e)⟩
 | kst k =>
  cases e;obtain⟨a,vs,rfl,e,h⟩:=h.kst;exact⟨a,vs,rfl,h,.inl (L2.Same.seq g e)⟩
 | _=>cases e
theorem avj(hu:X.A.units+64 < cLine):OpD K X (fJ .In) (gIn false):=OpD.mk fun hk=>by
 intro zv s σ0 H x y v u Q I rx ry ⟨tg,F,ρ,σ,d1,d2,r,G,b1,b2,eg,q⟩;subst hk;obtain⟨l,e,k1,k2,rfl⟩:=aj4 eg;obtain⟨as,ra⟩:=aac I G.sub b1 k1 rx;obtain⟨p,vs,rfl,hl,hs⟩:=afp G.sub e b2;cases ry;rcases hs with hs | hs
 ·obtain⟨its,rv,pl,_⟩:=I.list hs;obtain⟨ea,z⟩:=yj I G.sub (a:=d1) hl k2 rv;refine SeqAt.in_listAt (aa2 s.heap (toPy d1)) pl.isList (fun w hw=>w6 hu ra k1 z w (by simpa using hw)) ⟨.bl _,H,I,rfl,?_⟩
  rw[show its.toArray.any (aa2 s.heap (toPy d1))=its.any (aa2 s.heap (toPy d1)) by simp,ea]
  exact Res.same G q (.bl _)
 ·obtain⟨its,rv,pl,_⟩:=I.tuple hs;obtain⟨ea,z⟩:=yj I G.sub (a:=d1) hl k2 rv;refine SeqAt.in_tupleAt (aa2 s.heap (toPy d1)) pl (fun w hw=>w6 hu ra k1 z w (by simpa using hw)) ⟨.bl _,H,I,rfl,?_⟩
  rw[show its.toArray.any (aa2 s.heap (toPy d1))=its.any (aa2 s.heap (toPy d1)) by simp,ea]
  exact Res.same G q (.bl _)
theorem ap5(hu:X.A.units+64 < cLine):OpD K X (fJ .NotIn) (gIn true):=OpD.mk fun hk=>by
 intro zv s σ0 H x y v u Q I rx ry ⟨tg,F,ρ,σ,d1,d2,r,G,b1,b2,eg,q⟩;subst hk;obtain⟨l,e,k1,k2,rfl⟩:=aj4 eg;obtain⟨as,ra⟩:=aac I G.sub b1 k1 rx;obtain⟨p,vs,rfl,hl,hs⟩:=afp G.sub e b2;cases ry;rcases hs with hs | hs
 ·obtain⟨its,rv,pl,_⟩:=I.list hs;obtain⟨ea,z⟩:=yj I G.sub (a:=d1) hl k2 rv;refine SeqAt.notIn_listAt (aa2 s.heap (toPy d1)) pl.isList (fun w hw=>w6 hu ra k1 z w (by simpa using hw)) ⟨.bl _,H,I,rfl,?_⟩
  rw[show its.toArray.any (aa2 s.heap (toPy d1))=its.any (aa2 s.heap (toPy d1)) by simp,ea]
  exact Res.same G q (.bl _)
 ·obtain⟨its,rv,pl,_⟩:=I.tuple hs;obtain⟨ea,z⟩:=yj I G.sub (a:=d1) hl k2 rv;refine SeqAt.notIn_tupleAt (aa2 s.heap (toPy d1)) pl (fun w hw=>w6 hu ra k1 z w (by simpa using hw)) ⟨.bl _,H,I,rfl,?_⟩
  rw[show its.toArray.any (aa2 s.heap (toPy d1))=its.any (aa2 s.heap (toPy d1)) by simp,ea]
  exact Res.same G q (.bl _)
end
end Dn
namespace Dn
open L2 Mn
section
variable{K:Fg9}{X:Cx}{e a b c:Expr}{es:List Expr}{pos p:Pos}
theorem ap6:OpD K X (fQ .FloorDiv) (gInt fDiv):=ak6 atu fun i j k h=>by
 unfold fDiv at h;split at h
 ·cases h;exact⟨by assumption,rfl⟩
 ·cases h
theorem aax:OpD K X (fQ .Mod) (gInt fMod):=ak6 a0s fun i j k h=>by
 unfold fMod at h;split at h
 ·cases h;exact⟨by assumption,rfl⟩
 ·cases h
theorem axg:OpD K X (fQ .Pow) (gInt fPow):=ak6 a0q fun i j k h=>by
 unfold fPow at h;split at h
 ·rename_i hc;cases h;exact⟨⟨hc.1,hc.2.1,hc.2.2⟩,rfl⟩
 ·cases h
def gMul:D->D->Option Rv
 | .int i,.int j=>(fMul i j).map fun k=>.v (.int k)
 | .tup l,.int k=>if k=1 then some (.v (.tup l)) else if l≠[]/\2<=k/\k < 9223372036854775808/\l.length*k.toNat<=capS then some (.v (.tup (aD k.toNat l).flatten)) else none
 | .lst l,.int k=>if k.natAbs < 9223372036854775808/\l.length*k.toNat<=capS then some (.fr (aD k.toNat l).flatten) else none
 | _,_=>none
theorem aeb:OpD K X (fQ .Mult) gMul:=OpD.mk fun hk=>by
 intro zv s σ0 H x y v u Q I rx ry ⟨tg,F,ρ,σ,d1,d2,r,G,b1,b2,eg,q⟩;subst hk;unfold gMul at eg;split at eg
 ·rename_i i j;obtain rfl:=b1.int;obtain rfl:=b2.int;unfold fMul at eg;split at eg
  ·rename_i hc;cases eg;exact a0r zv s σ0 H _ _ v u Q I rx ry ⟨_,_,rfl,rfl,hc,Res.same G q (.int _)⟩
  ·cases eg
 ·rename_i l k;split at eg
  ·rename_i hk1;subst hk1;cases eg;obtain⟨a1,vs1,rfl,s1,i1⟩:=b1.tup;obtain rfl:=b2.int;exact axh zv s σ0 H _ _ v u Q I rx ry ⟨a1,vs1,rfl,rfl,G.sub _ _ s1,Res.same G q (.tup s1 i1)⟩
  split at eg
  ·rename_i hc;obtain⟨h0,h2,h3,hz⟩:=hc;cases eg;obtain⟨a1,vs1,rfl,s1,i1⟩:=b1.tup;obtain rfl:=b2.int;have l1:=i1.length;refine atq zv s σ0 H _ _ v u Q I rx ry ⟨a1,vs1,k,rfl,rfl,G.sub _ _ s1,?_,h2,h3,by rw[<-l1];exact ags hz,fun p hp=>Res.tup G q (i1.rep _) hp⟩
   intro z;subst z;cases i1;exact h0 rfl
  ·cases eg
 ·rename_i l k;split at eg
  ·rename_i hc;obtain⟨hab,hz⟩:=hc;have h0 : -9223372036854775808<=k:=by omega
   have h2:k < 9223372036854775808:=by omega
   cases eg;obtain⟨a1,vs1,rfl,s1,i1⟩:=b1.lst G.sub;obtain rfl:=b2.int;have l1:=i1.length;exact a0p zv s σ0 H _ _ v u Q I rx ry ⟨a1,k,vs1,rfl,rfl,s1,h0,h2,by rw[<-l1];exact ags hz,fun p hp=>Res.lst G q (i1.rep _) hp⟩
  ·cases eg
 ·cases eg
def gCmp(f:Int->Int->Bool):D->D->Option Rv
 | .int i,.int j=>some (.v (.bl (f i j)))
 | _,_=>none
theorem ak7{op:CmpOp}{f:Int->Int->Bool}(h:OpR X (fJ op) (rI0 fun i j=>.bl (f i j))):OpD K X (fJ op) (gCmp f):=OpD.mk fun hk=>by
 intro zv s σ0 H x y v u Q I rx ry ⟨tg,F,ρ,σ,d1,d2,r,G,b1,b2,eg,q⟩;unfold gCmp at eg;split at eg
 ·cases eg;obtain rfl:=b1.int;obtain rfl:=b2.int;exact h zv s σ0 H _ _ v u Q I rx ry ⟨_,_,rfl,rfl,Res.same G q (.bl _)⟩
 ·cases eg
theorem amf:OpD K X (fJ .Lt) (gCmp fun i j=>decide (i < j)):=ak7 a5o
theorem amg:OpD K X (fJ .Gt) (gCmp fun i j=>decide (j < i)):=ak7 a5p
theorem aev:OpD K X (fJ .GtE) (gCmp fun i j=>decide (j<=i)):=ak7 a5q
noncomputable def gNeg:D->Option D
 | .int i=>some (.int (-i))
 | _=>none
def mUn(g:D->Option D)(m:M D):M D:=m.bind fun d=>lift (g d)
theorem aj8{m:M D}(h:EV K X a m):EV K X (.UnaryOp .USub a pos) (mUn gNeg m):=EV.mk fun hk=>PE.imp (a5j azl (h hk)) fun σ H Q hq0=>by
 obtain⟨tg,F,ρ,d,ρ',G,em,q⟩:=hq0;obtain⟨d1,ρ1,e1,em⟩:=bc em;obtain⟨e2,rfl⟩:=ie em;refine⟨tg,F,ρ,d1,_,G,e1,fun v H' F' G' x r =>?_⟩
 cases d1 with
 | int i =>
  cases e2;cases r;exact⟨i,rfl,q _ H' F' G' x (.int _)⟩
 | _=>cases e2
def asB:D->Option Bool
 | .bl b=>some b
 | _=>none
def gNot(d:D):Option D:=(asB d).map fun k=>.bl (!k)
theorem asd{d:D}{k:Bool}(h:asB d=some k):d=.bl k:=by
 cases d with
 | bl b=>cases h;rfl
 | _=>cases h
theorem a2d{m:M D}(h:EV K X a m):EV K X (.UnaryOp .Not a pos) (mUn gNot m):=EV.mk fun hk=>PE.imp (a0i (h hk)) fun σ H Q hq0=>by
 obtain⟨tg,F,ρ,d,ρ',G,em,q⟩:=hq0;obtain⟨d1,ρ1,e1,em⟩:=bc em;obtain⟨e2,rfl⟩:=ie em;refine⟨tg,F,ρ,d1,_,G,e1,fun v H' F' G' x r =>?_⟩
 cases d1 with
 | bl i =>
  cases e2;cases r;exact⟨i,rfl,q _ H' F' G' x (.bl _)⟩
 | _=>cases e2
def mAnd(m1 m2:M D):M D:=m1.bind fun d=>(lift (asB d)).bind fun k=>if k=true then m2 else ret (.bl false)
def mOr(m1 m2:M D):M D:=m1.bind fun d=>(lift (asB d)).bind fun k=>if k=true then ret (.bl true) else m2
theorem aj7{op}{m:M D}(h:EV K X a m):EV K X (.BoolOp op [a] pos) m:=EV.mk fun hk=>a0h (h hk)
theorem ahk{m1 m2:M D}{rest:List Expr}(h1:EV K X a m1)(h2:EV K X (.BoolOp .And (b::rest) pos) m2):EV K X (.BoolOp .And (a::b::rest) pos) (mAnd m1 m2):=EV.mk fun hk=>PE.imp (a0n (h1 hk) (h2 hk)) fun σ H Q hq0=>by
 obtain⟨tg,F,ρ,d,ρ',G,em,q⟩:=hq0;obtain⟨d1,ρ1,e1,em⟩:=bc em;obtain⟨k,ρ2,e2,em⟩:=bc em;obtain⟨e3,rfl⟩:=ie e2;obtain rfl:=asd e3;refine⟨tg,F,ρ,_,_,G,e1,fun v H' F' G' x r =>?_⟩
 cases r;refine⟨k,rfl,?_⟩;cases k with
 | true=>exact iteT ⟨tg,F',_,d,ρ',G',em,fun v2 H2 F2 G2 x2 r2=>q v2 H2 F2 G2 (x.trans x2) r2⟩
 | false =>
  obtain⟨rfl,rfl⟩:=mz (show ret (D.bl false) _=_ from em)
  exact iteF (q _ H' F' G' x (.bl _))
def TB(K:Fg9)(m:M Bool):TT:=fun σ H Q=>∃tg F ρ k ρ',Good K tg F H ρ σ/\m ρ=some (.ok k,ρ')/\∀H' F',Good K tg F' H' ρ' σ->Ext (Own ρ σ) (Own ρ' σ) F H F' H'->Q k H'
structure ET (K:Fg9) (X:Cx) (e:Expr) (m:M Bool):Prop where
 go:X.K=K->PT X e (TB K m)
instance {K:Fg9} {X:Cx} {e:Expr} {m:M Bool}:CoeFun (ET K X e m) fun _=>X.K=K->PT X e (TB K m):=⟨ET.go⟩
structure EW (K:Fg9) (X:Cx) (e:Expr) (m:M Bool):Prop where
 go:X.K=K->PW X e (TB K m)
instance {K:Fg9} {X:Cx} {e:Expr} {m:M Bool}:CoeFun (EW K X e m) fun _=>X.K=K->PW X e (TB K m):=⟨EW.go⟩
theorem PT.imp{t t':TT}(h:PT X e t)(w:∀σ H Q,t' σ H Q->t σ H Q):PT X e t':=fun zv s σ H Q I q=>h zv s σ H Q I (w σ H Q q)
theorem PW.imp{t t':TT}(h:PW X e t)(w:∀σ H Q,t' σ H Q->t σ H Q):PW X e t':=fun wh zv s σ H Q I q=>h wh zv s σ H Q I (w σ H Q q)
theorem EW.pt{m:M Bool}(h:EW K X e m):ET K X e m:=ET.mk fun hk=>(h hk).pt
def abm(m:M D):M Bool:=m.bind fun d=>lift (asB d)
theorem asy{m:M D}(σ:L2.St)(H:Hp)(Q:Bool->Hp->Prop)(t:TB K (abm m) σ H Q):tB (T K (relD K) m) σ H Q:=by
 obtain⟨tg,F,ρ,k,ρ',G,em,q⟩:=t;obtain⟨d1,ρ1,e1,em⟩:=bc em;obtain⟨e3,rfl⟩:=ie em;obtain rfl:=asd e3;refine⟨tg,F,ρ,_,_,G,e1,fun v H' F' G' x r =>?_⟩
 cases r;exact⟨k,rfl,q H' F' G' x⟩
theorem abg{m:M D}(h:EV K X e m)(he:∀whole,isTrue e X.env whole=(do let v <-whole;standAt e.pos;jC [v] (truthy v)):=by intro _;rfl):ET K X e (abm m):=ET.mk fun hk=>PT.imp (az9 (h hk) he) asy
def m8(g:D->D->Option Rv)(m:M (D×D)):M Bool:=abm (mOp g m).d
theorem oh{op:CmpOp}{g:D->D->Option Rv}{m:M (D×D)}(ho:OpD K X (fJ op) g)(h:E2 K X a b m)(hm:behindInMarks op b=false):ET K X (.Compare a [op] [b] pos) (m8 g m):=ET.mk fun hk=>by
 obtain⟨ta,tb,ha,hb,h⟩:=h hk;refine PT.imp (awt (ho hk) ha hb hm) fun σ H Q t =>?_
 obtain⟨tg,F,ρ,k,ρ',G,em,q⟩:=t;obtain⟨d1,ρ1,e1,em⟩:=bc em;obtain⟨e3,rfl⟩:=ie em;obtain rfl:=asd e3;obtain⟨r,ρ2,e1,em⟩:=bc e1;obtain⟨er,rfl⟩:=mz em;refine amh h σ H _ ⟨tg,F,ρ,r,_,G,e1,fun v H' F' G' x w =>?_⟩
 cases r with
 | v d =>
  have er:d=.bl k:=er;subst er;have w:Is K F' (.bl k) v:=w;cases w;exact⟨k,rfl,q H' F' G' x⟩
 | fr l=>cases er
 | tf d l=>cases er
def ae7(m:M Bool):M Bool:=m.bind fun k=>ret (!k)
theorem acs{m:M Bool}(h:ET K X a m):ET K X (.UnaryOp .Not a pos) (ae7 m):=ET.mk fun hk=>PT.imp (a0a (h hk)) fun σ H Q hq0=>by
 obtain⟨tg,F,ρ,k,ρ',G,em,q⟩:=hq0;obtain⟨d1,ρ1,e1,em⟩:=bc em;obtain⟨rfl,rfl⟩:=mz em;exact⟨tg,F,ρ,d1,_,G,e1,fun H' F' G' x=>q H' F' G' x⟩
def a6l(m1 m2:M Bool):M Bool:=m1.bind fun k=>if k=true then m2 else ret false
def mOrB(m1 m2:M Bool):M Bool:=m1.bind fun k=>if k=true then ret true else m2
theorem aq7{m:M Bool}(h:ET K X a m):EW K X (.BoolOp .Or [a] pos) m:=EW.mk fun hk=>az3 (h hk)
theorem ayp{m1 m2:M Bool}{rest:List Expr}(h1:ET K X a m1)(h2:EW K X (.BoolOp .Or (b::rest) pos) m2):EW K X (.BoolOp .Or (a::b::rest) pos) (mOrB m1 m2):=EW.mk fun hk=>PW.imp (a5f (h1 hk) (h2 hk)) fun σ H Q hq0=>by
 obtain⟨tg,F,ρ,d,ρ',G,em,q⟩:=hq0;obtain⟨k,ρ1,e1,em⟩:=bc em;refine⟨tg,F,ρ,k,_,G,e1,fun H' F' G' x =>?_⟩
 cases k with
 | false=>exact iteF ⟨tg,F',_,d,ρ',G',em,fun H2 F2 G2 x2=>q H2 F2 G2 (x.trans x2)⟩
 | true =>
  obtain⟨rfl,rfl⟩:=mz (show ret true _=_ from em)
  exact iteT (q H' F' G' x)
def ajt(f g:Int->Int->Bool)(m1 m2 m3:M D):M D:=m1.bind fun x=>m2.bind fun y=>match x,y with
 | .int i,.int j=>if f i j=true then m3.bind fun z=>match z with
  | .int k=>ret (.bl (g j k))
  | _=>lift none
  else ret (.bl false)
 | _,_=>lift none
theorem art{f g:Int->Int->Bool}{m1 m2 m3:M D}(σ:L2.St)(H:Hp)(Q:VK)(t:T K (relD K) (ajt f g m1 m2 m3) σ H Q) :
  au7 (rI0 fun i j=>.bl (f i j)) (rI0 fun i j=>.bl (g i j)) (T K (relD K) m1) (T K (relD K) m2) (T K (relD K) m3) σ H Q:=by
 obtain⟨tg,F,ρ,d,ρ',G,em,q⟩:=t;obtain⟨d1,ρ1,e1,em⟩:=bc em;obtain⟨d2,ρ2,e2,em⟩:=bc em;have bad:∀{ρ:Ro},(lift (none:Option D)) ρ=some (.ok d,ρ')->False:=fun z=>by
  obtain⟨z,_⟩:=ie z;cases z
 cases d1 with
 | int i =>
  cases d2 with
  | int j =>
   refine⟨tg,F,ρ,_,ρ1,G,e1,fun v H1 F1 G1 x1 r1=>⟨tg,F1,ρ1,_,ρ2,G1,e2,fun v2 H2 F2 G2 x2 r2 =>?_⟩⟩
   cases r1;cases r2;refine⟨i,j,rfl,rfl,f i j,rfl,?_⟩;have em:(if f i j=true then m3.bind fun z=>match z with
    | .int k=>ret (.bl (g j k))
    | _=>lift none
    else ret (.bl false)) ρ2=some (.ok d,ρ'):=em
   by_cases hf:f i j=true
   ·rw[if_pos hf] at em ⊢
    obtain⟨d3,ρ3,e3,em⟩:=bc em;refine⟨tg,F2,ρ2,d3,ρ3,G2,e3,fun v3 H3 F3 G3 x3 r3 =>?_⟩
    cases d3 with
    | int k =>
     obtain⟨rfl,rfl⟩:=mz (show ret (D.bl (g j k)) _=_ from em)
     cases r3;exact⟨j,k,rfl,rfl,q _ H3 F3 G3 ((x1.trans x2).trans x3) (.bl _)⟩
    | _=>exact(bad em).elim
   ·rw[if_neg hf] at em ⊢
    obtain⟨rfl,rfl⟩:=mz em;exact q _ H2 F2 G2 (x1.trans x2) (.bl _)
  | _=>exact(bad em).elim
 | _=>cases d2 <;> exact(bad em).elim
theorem am3{op op':CmpOp}{f g:Int->Int->Bool}{m1 m2 m3:M D}(ho:OpR X (fJ op) (rI0 fun i j=>.bl (f i j)))(ho':OpR X (fJ op') (rI0 fun i j=>.bl (g i j)))(h1:EV K X a m1)(h2:EV K X b m2)(h3:EV K X c m3)
  (hm:lastMarks [op,op'] [b,c]=false:=by with_unfolding_all rfl):EV K X (.Compare a [op,op'] [b,c] pos) (ajt f g m1 m2 m3):=EV.mk fun hk=>PE.imp (atn ho ho' (h1 hk) (h2 hk) (h3 hk) hm) art
def mIf{α:Type}(m:M Bool)(m1 m2:M α):M α:=m.bind fun k=>if k=true then m1 else m2
end
section
variable{K:Fg9}{X:Cx}{e a b c:Expr}{es:List Expr}{pos p p2:Pos}
def TL(K:Fg9)(m:M (List D)):TA:=fun σ H Q=>∃tg F ρ ds ρ',Good K tg F H ρ σ/\m ρ=some (.ok ds,ρ')/\∀vs H' F',Good K tg F' H' ρ' σ->Ext (Own ρ σ) (Own ρ' σ) F H F' H'->IsL K F' ds vs->Q vs H'
structure ED (K:Fg9) (X:Cx) (es:List Expr) (m:M (List D)):Prop where
 go:X.K=K->PA X es (TL K m)
instance {K:Fg9} {X:Cx} {es:List Expr} {m:M (List D)}:CoeFun (ED K X es m) fun _=>X.K=K->PA X es (TL K m):=⟨ED.go⟩
theorem PA.imp{t t':TA}(h:PA X es t)(w:∀σ H Q,t' σ H Q->t σ H Q):PA X es t':=fun ps zv s σ H Q I q=>h ps zv s σ H Q I (w σ H Q q)
def mNil:M (List D):=ret []
def bh(m:M D)(ms:M (List D)):M (List D):=m.bind fun d=>ms.bind fun ds=>ret (d::ds)
theorem f9:ED K X [] mNil:=ED.mk fun _=>PA.imp afu fun σ H Q hq0=>by
 obtain⟨tg,F,ρ,ds,ρ',G,em,q⟩:=hq0;obtain⟨rfl,rfl⟩:=mz em;exact q [] H F G (Ext.refl _ _ _) .nil
theorem ao{m:M D}{ms:M (List D)}(h:EV K X e m)(t:ED K X es ms)(hs:aW (e::es) X.env=(false,eval e X.env)::aW es X.env:=by rfl):ED K X (e::es) (bh m ms):=ED.mk fun hk=>PA.imp (ut (h hk) (t hk) hs) fun σ H Q hq0=>by
 obtain⟨tg,F,ρ,ds,ρ',G,em,q⟩:=hq0;obtain⟨d,ρ1,e1,em⟩:=bc em;obtain⟨r,ρ2,e2,em⟩:=bc em;obtain⟨rfl,rfl⟩:=mz em;exact⟨tg,F,ρ,d,ρ1,G,e1,fun v H1 F1 G1 x1 r1=>⟨tg,F1,ρ1,r,_,G1,e2,fun vs H2 F2 G2 x2 r2=>q _ H2 F2 G2 (x1.trans x2) (.cons (r1.mono x2.sub) r2)⟩⟩
def gTup(ds:List D):Option D:=if ds.length<=capS then some (.tup ds) else none
def gLst(ds:List D):Option Rv:=if ds.length<=capS then some (.fr ds) else none
def mTup(m:M (List D)):M D:=m.bind fun ds=>lift (gTup ds)
def mLst(m:M (List D)):M Rv:=m.bind fun ds=>lift (gLst ds)
theorem aao{k}{m:M (List D)}(h:ED K X es m):EV K X (.Tuple es k pos) (mTup m):=EV.mk fun hk=>PE.imp (avi (h hk)) fun σ H Q hq0=>by
 obtain⟨tg,F,ρ,d,ρ',G,em,q⟩:=hq0;obtain⟨ds,ρ1,e1,em⟩:=bc em;obtain⟨e2,rfl⟩:=ie em;unfold gTup at e2;split at e2
 ·rename_i hz;cases e2;refine⟨tg,F,ρ,ds,_,G,e1,fun vs H1 F1 G1 x1 r1=>⟨by rw[<-r1.length];exact ags hz,fun p hp=>q _ _ _ (G1.new hp _) (x1.trans (G1.newX hp _)) (.tup je (r1.mono (Same.new (G1.freeF hp) _)))⟩⟩
 ·cases e2
theorem yc{m:M (List D)}(h:ED K X es m):ER K X (.List es pos) (mLst m):=ER.mk fun hk=>PE.imp (a0j (h hk)) fun σ H Q hq0=>by
 obtain⟨tg,F,ρ,d,ρ',G,em,q⟩:=hq0;obtain⟨ds,ρ1,e1,em⟩:=bc em;obtain⟨e2,rfl⟩:=ie em;unfold gLst at e2;split at e2
 ·rename_i hz;cases e2;refine⟨tg,F,ρ,ds,_,G,e1,fun vs H1 F1 G1 x1 r1=>⟨by rw[<-r1.length];exact ags hz,fun p hp=>q _ _ _ (G1.fresh hp _) (x1.trans (G1.freshX hp _)) ⟨p,vs,rfl,.inl (x1.there p hp),G1.freeF hp,je,r1,fun z=>G1.own_ne hp z rfl⟩⟩⟩
 ·cases e2
inductive BorL (K:Fg9) (F H:Hp):List D->List V->Prop
 | nil:BorL K F H [] []
 | cons {d:D} {v:V} {ds:List D} {vs:List V} (h:Bor K F H d v) (t:BorL K F H ds vs):BorL K F H (d::ds) (v::vs)
def TA'(K:Fg9)(m:M (List D)):TA:=fun σ H Q=>∃tg F ρ ds ρ',Good K tg F H ρ σ/\m ρ=some (.ok ds,ρ')/\∀vs H' F',Good K tg F' H' ρ' σ->Ext (Own ρ σ) (Own ρ' σ) F H F' H'->BorL K F' H' ds vs->Q vs H'
structure EA (K:Fg9) (X:Cx) (es:List Expr) (m:M (List D)):Prop where
 go:X.K=K->PA X es (TA' K m)
instance {K:Fg9} {X:Cx} {es:List Expr} {m:M (List D)}:CoeFun (EA K X es m) fun _=>X.K=K->PA X es (TA' K m):=⟨EA.go⟩
def dg(i:Nat)(ms:M (List D)):M (List D):=(gj i).bind fun _=>ms.bind fun ds=>(gj i).bind fun d=>ret (d::ds)
theorem cg:EA K X [] mNil:=EA.mk fun _=>PA.imp afu fun σ H Q hq0=>by
 obtain⟨tg,F,ρ,ds,ρ',G,em,q⟩:=hq0;obtain⟨rfl,rfl⟩:=mz em;exact q [] H F G (Ext.refl _ _ _) .nil
theorem ea_v{m:M D}{ms:M (List D)}(h:EV K X e m)(t:EA K X es ms)(hs:aW (e::es) X.env=(false,eval e X.env)::aW es X.env:=by rfl):EA K X (e::es) (bh m ms):=EA.mk fun hk=>PA.imp (ut (h hk) (t hk) hs) fun σ H Q hq0=>by
 obtain⟨tg,F,ρ,ds,ρ',G,em,q⟩:=hq0;obtain⟨d,ρ1,e1,em⟩:=bc em;obtain⟨r,ρ2,e2,em⟩:=bc em;obtain⟨rfl,rfl⟩:=mz em;exact⟨tg,F,ρ,d,ρ1,G,e1,fun v H1 F1 G1 x1 r1=>⟨tg,F1,ρ1,r,_,G1,e2,fun vs H2 F2 G2 x2 r2=>q _ H2 F2 G2 (x1.trans x2) (.cons (.inl (r1.mono x2.sub)) r2)⟩⟩
theorem ea_n{i:Nat}{ms:M (List D)}(h:PE X e (tVar i))(t:EA K X es ms)(hs:aW (e::es) X.env=(false,eval e X.env)::aW es X.env:=by rfl):EA K X (e::es) (dg i ms):=EA.mk fun hk=>PA.imp (ut h (t hk) hs) fun σ H Q hq0=>by
 obtain⟨tg,F,ρ,ds,ρ',G,em,q⟩:=hq0;obtain⟨d0,ρ0,e0,em⟩:=bc em;obtain⟨r,ρ2,e2,em⟩:=bc em;obtain⟨d,ρ1,e1,em⟩:=bc em;obtain⟨rfl,rfl⟩:=mz em;obtain⟨rfl,v,hv,_⟩:=qm G e0;exact⟨v,hv,tg,F,ρ0,r,_,G,e2,fun vs H2 F2 G2 x2 r2=>by
  obtain⟨rfl,v',hv',b'⟩:=qm G2 e1;rw[hv] at hv';cases hv';exact q _ H2 F2 G2 x2 (.cons b' r2)⟩
def rcOf(K:Fg9)(g:List D->Option Rv):List V->Hp->VK->Prop:=fun vs H Q=>∃tg F ρ σ ds r,Good K tg F H ρ σ/\BorL K F H ds vs/\g ds=some r/\Res K tg F H ρ σ r Q
structure CallD (K:Fg9) (X:Cx) (f:Value) (g:List D->Option Rv):Prop where
 go:X.K=K->zj X f (rcOf K g)
instance {K:Fg9} {X:Cx} {f:Value} {g:List D->Option Rv}:CoeFun (CallD K X f g) fun _=>X.K=K->zj X f (rcOf K g):=⟨CallD.go⟩
def dz(g:List D->Option Rv)(m:M (List D)):M Rv:=m.bind fun ds=>lift (g ds)
theorem n8{O O1 O2:Addr->Prop}{F H F1 H1 F2 H2:Hp}{r:Rv}{v:V}(x:Ext O O1 F H F1 H1)(h:relR K r v H1 O1 F2 H2 O2):relR K r v H O F2 H2 O2:=by
 cases r with
 | v d=>exact h
 | fr l =>
  obtain⟨a,vs,ev,ha,w⟩:=h;refine⟨a,vs,ev,?_,w⟩;rcases ha with ha | ha
  ·exact .inl (x.there a ha)
  ·exact(x.own a ha).symm
 | tf d l =>
  obtain⟨t,u,a,vs,ev,ht,hd,ha,w⟩:=h;refine⟨t,u,a,vs,ev,ht,hd,?_,w⟩;rcases ha with ha | ha
  ·exact .inl (x.there a ha)
  ·exact(x.own a ha).symm
theorem ana{g:List D->Option Rv}{m:M (List D)}(σ:L2.St)(H:Hp)(Q:VK)(t:T K (relR K) (dz g m) σ H Q):tCB (rcOf K g) (TA' K m) σ H Q:=by
 obtain⟨tg,F,ρ,r,ρ',G,em,q⟩:=t;obtain⟨ds,ρ1,e1,em⟩:=bc em;obtain⟨e2,rfl⟩:=ie em;exact⟨tg,F,ρ,ds,_,G,e1,fun vs H' F' G' x' bl=>⟨tg,F',_,σ,ds,r,G',bl,e2,fun v H2 F2 G2 x2 rr=>q v H2 F2 G2 (x'.trans x2) (n8 x' rr)⟩⟩
section
variable{x:Str}{id Ty:String}{g:List D->Option Rv}{m:M (List D)}
theorem bz(hc:CallD K X (.builtin id) g)(hg:Gl X x)(hm:X.mg x=none)(hv:bV x=some (.builtin id))(ha:EA K X (e::es) m)(hn:x ≠ "__name__" := by decide)(hdb:(x==("__debug__" : Str))=false:=by decide)
  (he:aW (e::es) X.env=(false,eval e X.env)::aW es X.env:=by rfl) (hpl:(jA pos (aW es X.env)).any (·.1)=false:=by rfl):ER K X (.Call (.Name x p) (e::es) [] pos) (dz g m):=ER.mk fun hk=>PE.imp (ah4 (hc hk) hg hm hv (ha hk) hn hdb he hpl) ana
theorem fj(hc:CallD K X (.type Ty) g)(hg:Gl X x)(hm:X.mg x=none)(hv:bV x=some (.type Ty))(ha:EA K X (e::es) m)(hn:x ≠ "__name__" := by decide)(hdb:(x==("__debug__" : Str))=false:=by decide)
  (he:aW (e::es) X.env=(false,eval e X.env)::aW es X.env:=by rfl) (hpl:(jA pos (aW es X.env)).any (·.1)=false:=by rfl):ER K X (.Call (.Name x p) (e::es) [] pos) (dz g m):=ER.mk fun hk=>PE.imp (adf (hc hk) hg hm hv (ha hk) hn hdb he hpl) ana
end
theorem BorL.one{F H:Hp}{d:D}{vs:List V}(h:BorL K F H [d] vs):∃v,vs=[v]/\Bor K F H d v:=by
 cases h with
 | cons h t=>cases t;exact⟨_,rfl,h⟩
theorem BorL.two{F H:Hp}{d d':D}{vs:List V}(h:BorL K F H [d,d'] vs):∃v v',vs=[v,v']/\Bor K F H d v/\Bor K F H d' v':=by
 cases h with
 | cons h t =>
  obtain⟨v',rfl,h'⟩:=t.one;exact⟨_,_,rfl,h,h'⟩
def g1(f:D->Option Rv):List D->Option Rv
 | [d]=>f d
 | _=>none
def g2(f:D->D->Option Rv):List D->Option Rv
 | [d,d']=>f d d'
 | _=>none
theorem adz{f:D->Option Rv}{w:Value} (h:X.K=K->∀(zv:List (Addr×Obj)) (s:aJ) (σ0:L2.St) (H:Hp) (x:V) (u:Value) (Q:VK) (tg:Nat->Addr) (F:Hp) (ρ:Ro) (σ:L2.St) (d:D) (r:Rv),Inv X zv σ0 H s->RelV x u->Good K tg F H ρ σ->Bor K F H d x->f d=some r->Res K tg F H ρ σ r Q ->
  wpAny (model X.prog X.w) X.A (call w [u]) (EP X zv σ0 Q) X.xe s):CallD K X w (g1 f):=CallD.mk fun hk=>by
 intro zv s σ0 H xs us Q I r ⟨tg,F,ρ,σ,ds,rv,G,bl,eg,q⟩
 match ds,eg with
 | [d],eg =>
  obtain⟨v,rfl,bv⟩:=bl.one;obtain⟨u,rfl,ru⟩:=vals1 r;exact h hk zv s σ0 H v u Q tg F ρ σ d rv I ru G bv eg q
theorem ju:CallD K X (.builtin "len") (g1 fun d=>(itemsD d).map fun l=>.v (.int l.length)):=adz fun hk zv s σ0 H x u Q tg F ρ σ d r I ru G bd eg q=>by
 subst hk;cases e:itemsD d with
 | none=>rw[e] at eg;cases eg
 | some l =>
  rw[e] at eg;cases eg;obtain⟨a,vs,rfl,hl,hs⟩:=afp G.sub e bd;have q':=Res.same G q (.int _);rw[hl.length] at q';exact akf zv s σ0 H [.ref a] [u] Q I (.cons ru .nil) ⟨a,vs,rfl,hs,q'⟩
noncomputable def uc:List D->Option (List Bool)
 | []=>some []
 | .bl b::r=>(uc r).map (b :: ·)
 | _::_=>none
theorem akl:∀{l:List D} {bs:List Bool},uc l=some bs->l=bs.map D.bl
 | [],_,h=>by cases h;rfl
 | .bl b::r,bs,h=>by
  have h':(uc r).map (b :: ·)=some bs:=h;cases e:uc r with
  | none=>rw[e] at h';cases h'
  | some t =>
   rw[e] at h';cases h';rw[akl e];rfl
 | .non::_,_,h=>by cases h
 | .int _::_,_,h=>by cases h
 | .str _::_,_,h=>by cases h
 | .tup _::_,_,h=>by cases h
 | .lst _::_,_,h=>by cases h
 | .kst _::_,_,h=>by cases h
 | .dct _::_,_,h=>by cases h
@[simp] theorem aas(bs:List Bool):uc (bs.map D.bl)=some bs:=by
 induction bs with
 | nil=>rfl
 | cons b r ih=>show(uc (r.map D.bl)).map (b :: ·)=_;rw[ih];rfl
def gAll:D->Option Rv
 | .lst l=>(uc l).map fun bs=>.v (.bl (bs.all id))
 | _=>none
theorem akc(hc:X.calm=true):CallD K X (.builtin "all") (g1 gAll):=adz fun hk zv s σ0 H x u Q tg F ρ σ d r I ru G bd eg q=>by
 subst hk;cases d with
 | lst l =>
  have eg:(uc l).map (fun bs=>Rv.v (.bl (bs.all id)))=some r:=eg
  cases e:uc l with
  | none=>rw[e] at eg;cases eg
  | some bs =>
   rw[e] at eg;cases eg;obtain⟨a,vs,rfl,ea,hl⟩:=bd.lst G.sub;rw[akl e] at hl;rw[hl.bl_inv] at ea;exact au4 hc zv s σ0 H [.ref a] [u] Q I (.cons ru .nil) ⟨a,bs,rfl,SqL.of ea,Res.same G q (.bl _)⟩
 | _=>cases eg
def aur:D->Option Rv
 | .int i=>some (.v (.int i))
 | .bl k=>some (.v (.int (if k then 1 else 0)))
 | _=>none
theorem a2j:CallD K X (.type "int") (g1 aur):=adz fun hk zv s σ0 H x u Q tg F ρ σ d r I ru G bd eg q=>by
 cases d with
 | int i =>
  cases eg;obtain rfl:=bd.int;exact akg zv s σ0 H [_] [u] Q I (.cons ru .nil) (.inl ⟨i,rfl,Res.same G q (.int _)⟩)
 | bl k =>
  cases eg;obtain rfl:=bd.bl;exact akg zv s σ0 H [_] [u] Q I (.cons ru .nil) (.inr ⟨k,rfl,Res.same G q (.int _)⟩)
 | _=>cases eg
theorem jo:CallD K X (.type "tuple") (g1 fun d=>(itemsD d).map fun l=>.v (.tup l)):=adz fun hk zv s σ0 H x u Q tg F ρ σ d r I ru G bd eg q=>by
 subst hk;cases d with
 | tup l =>
  cases eg;obtain⟨a,vs,rfl,ea,hl⟩:=bd.tup;exact aa8 zv s σ0 H [_] [u] Q I (.cons ru .nil) ⟨a,vs,rfl,.inr ⟨SqT.of (G.sub _ _ ea),Res.same G q (.tup ea hl)⟩⟩
 | lst l =>
  cases eg;obtain⟨a,vs,rfl,ea,hl⟩:=bd.lst G.sub;exact aa8 zv s σ0 H [_] [u] Q I (.cons ru .nil) ⟨a,vs,rfl,.inl ⟨SqL.of ea,fun p hp=>Res.tup G q hl hp⟩⟩
 | kst l =>
  cases eg;obtain⟨a,vs,rfl,ea,hl⟩:=bd.kst;exact aa8 zv s σ0 H [_] [u] Q I (.cons ru .nil) ⟨a,vs,rfl,.inl ⟨L2.Same.seq G.sub ea,fun p hp=>Res.tup G q hl hp⟩⟩
 | _=>cases eg
theorem ac5:CallD K X (.type "list") (g1 fun d=>(itemsD d).map fun l=>.fr l):=adz fun hk zv s σ0 H x u Q tg F ρ σ d r I ru G bd eg q=>by
 subst hk;cases e:itemsD d with
 | none=>rw[e] at eg;cases eg
 | some l =>
  rw[e] at eg;cases eg;obtain⟨a,vs,rfl,hl,hs⟩:=afp G.sub e bd;exact ake zv s σ0 H [_] [u] Q I (.cons ru .nil) ⟨a,vs,rfl,hs,fun p hp=>Res.lst G q hl hp⟩
theorem avy{f:D->D->Option Rv}{w:Value} (h:X.K=K->∀(zv:List (Addr×Obj)) (s:aJ) (σ0:L2.St) (H:Hp) (x y:V) (u v:Value) (Q:VK) (tg:Nat->Addr) (F:Hp) (ρ:Ro) (σ:L2.St) (d d':D) (r:Rv),Inv X zv σ0 H s->RelV x u->RelV y v->Good K tg F H ρ σ->Bor K F H d x->Bor K F H d' y->f d d'=some r->Res K tg F H ρ σ r Q ->
  wpAny (model X.prog X.w) X.A (call w [u,v]) (EP X zv σ0 Q) X.xe s):CallD K X w (g2 f):=CallD.mk fun hk=>by
 intro zv s σ0 H xs us Q I r ⟨tg,F,ρ,σ,ds,rv,G,bl,eg,q⟩
 match ds,eg with
 | [d,d'],eg =>
  obtain⟨v,v',rfl,bv,bv'⟩:=bl.two;obtain⟨u,w,rfl,ru,rw'⟩:=vals2 r;exact h hk zv s σ0 H v v' u w Q tg F ρ σ d d' rv I ru rw' G bv bv' eg q
theorem av0(hc:X.calm=true):CallD K X (.builtin "max") (g2 (gInt fun i j=>some (if j > i then j else i))):=avy fun hk zv s σ0 H x y u v Q tg F ρ σ d d' r I ru rv G bd bd' eg q=>by
 unfold gInt at eg;split at eg
 ·cases eg;obtain rfl:=bd.int;obtain rfl:=bd'.int;exact ar3 hc zv s σ0 H [_,_] [u,v] Q I (.cons ru (.cons rv .nil)) ⟨_,_,rfl,Res.same G q (.int _)⟩
 ·cases eg
theorem akh:zj X (.builtin "divmod") (fun xs H Q=>∃i j,xs=[.int i,.int j]/\(0 < j/\j < 1000000000000000000000000000000000000000000000000000000000000)/\∀p,H p=none->Q (.ref p) (upd H p (.tup [.int (i / j),.int (i % j)]))):=by
 intro zv s σ H xs us Q I r h;obtain⟨i,j,rfl,hj,q⟩:=h;obtain⟨u,w',rfl,⟨t,rfl⟩,⟨t',rfl⟩⟩:=vals2 r;have h1:=hj.1;refine divmod_int (by omega) ?_ (.inl (a0y hj.1 hj.2))
 rw[rG i (by omega),rF i (by omega)]
 refine⟨.ref s.heap.objs.size,_,?_,rfl,q _ (I.hok.fresh (aM _))⟩;exact I.laid (fun b o e=>aB _ e) (aM _) ⟨by simp only[bO,List.length_nil];rw[gQ];decide,[.int (i / j) s.toks,.int (i % j) (s.toks+1)],.cons ⟨_,rfl⟩ (.cons ⟨_,rfl⟩ .nil),⟨_,aK s.heap rfl,rfl,rfl,0,rfl⟩⟩
def aii:D->D->Option Rv
 | .int i,.int j=>if 0 < j/\j < 1000000000000000000000000000000000000000000000000000000000000 then some (.v (.tup [.int (i / j),.int (i % j)])) else none
 | _,_=>none
theorem arw:CallD K X (.builtin "divmod") (g2 aii):=avy fun hk zv s σ0 H x y u v Q tg F ρ σ d d' r I ru rv G bd bd' eg q=>by
 unfold aii at eg;split at eg
 ·split at eg
  ·rename_i hc;cases eg;obtain rfl:=bd.int;obtain rfl:=bd'.int;exact akh zv s σ0 H [_,_] [u,v] Q I (.cons ru (.cons rv .nil)) ⟨_,_,rfl,hc,fun p hp=>Res.tup G q (.cons (.int _) (.cons (.int _) .nil)) hp⟩
  ·cases eg
 ·cases eg
inductive Ty where
 | int | bool | tuple | list | str | dict
noncomputable def Ty.nm:Ty->String
 | .int => "int" | .bool => "bool" | .tuple => "tuple" | .list => "list" | .str => "str" | .dict => "dict"
noncomputable def tyD:D->Value
 | .non=>.type "NoneType"
 | .bl _=>.type "bool"
 | .int _=>.type "int"
 | .str _=>.type "str"
 | .tup _=>.type "tuple"
 | .lst _=>.type "list"
 | .kst _=>.type "list"
 | .dct _=>.type "dict"
 | .exn _ _=>.type "NoneType"
noncomputable def isTy:Ty->D->Bool
 | .int,.int _=>true
 | .int,.bl _=>true
 | .bool,.bl _=>true
 | .tuple,.tup _=>true
 | .list,.lst _=>true
 | .list,.kst _=>true
 | .str,.str _=>true
 | .dict,.dct _=>true
 | _,_=>false
theorem avm(t:Ty)(d:D):oM K (tyD d) (.type t.nm)=some (isTy t d):=by
 cases d <;> cases t <;> kernel_rfl
theorem ar4{X:Cx}:zj X (.builtin "isinstance") (fun xs H Q=>∃F d x t,xs=[x,.ty (Ty.nm t)]/\Same F H/\Bor X.K F H d x/\Q (.bl (isTy t d)) H):=by
 intro zv s σ H xs us Q I r ⟨F,d,x,t,e,g,h,q⟩;subst e;obtain⟨u,w',rfl,r1,r2⟩:=vals2 r;obtain rfl:w'=iV t.nm:=r2;have fin:∀tk,EP X zv σ Q (.bool (isTy t d)) { s with toks:=tk }:=fun tk=>⟨.bl _,H,I.tok tk,rfl,q⟩
 have go:TyOf X.K H x (tyD d)->wpAny (model X.prog X.w) X.A (call (.builtin "isinstance") [u,.type t.nm]) (EP X zv σ Q) X.xe s:=fun ty=>aqo I r1 ty (avm t d) fin
 cases d with
 | non=>obtain rfl:=h.non;exact go .non
 | bl b=>obtain rfl:=h.bl;exact go (.bl b)
 | int b=>obtain rfl:=h.int;exact go (.int b)
 | str b=>obtain rfl:=h.str;exact go (.str b)
 | tup b=>obtain⟨a,vs,rfl,e,_⟩:=h.tup;exact go (.tup (g _ _ e))
 | lst b=>obtain⟨a,vs,rfl,e,_⟩:=h.lst g;exact go (.lst e)
 | kst b =>
  obtain⟨a,vs,rfl,e,_⟩:=h.kst;cases(show u=dN a from r1)
  obtain⟨its,_,pl,_⟩:=I.list (L2.Same.seq g e);obtain⟨o,ho,hc,n,hd⟩:=pl.isList;exact dZ pO I.kIn ⟨o,ho,hc⟩ (avm t (.kst b)) (fun z=>nomatch z) fin
 | dct b =>
  rcases h with h | ⟨a,vs,l',e1,_⟩
  ·cases h with
   | dct e h=>exact go (.dK (g _ _ e))
  ·cases e1
 | exn c fs =>
  rcases h with h | ⟨a,vs,l',e1,_⟩
  ·cases h with
   | @exn a C c dx fs e hc hk hf =>
    cases(show u=dN a from r1)
    obtain⟨⟨oe,ws,h1,h2,h3,h4⟩,_⟩:=(show ym X.prog X.w H s.heap a (.ext (exO a C dx)) from I.hok a _ (g _ _ e))
    have hno:wK oe=true:=by unfold wK;rw[h4]
    have ia:∃ox od,lR s.heap a ox C od:=by
     rcases hf with⟨rfl,_⟩ | ⟨d,rfl,hd⟩
     ·exact⟨oe,none,h1,h2,hno,by rw[h3];trivial⟩
     ·obtain⟨mA,⟨od,_,_,e1,_⟩,_⟩:=(show ym X.prog X.w H s.heap d (.xd _) from I.hok d _ (g _ _ hd))
      exact⟨oe,some od,h1,h2,hno,by rw[h3];exact e1⟩
    have kq:oM X.K (.ref C) (.type t.nm)=some false:=by
     have h5:mQ X.K (.ref C) (.type t.nm)=some false:=hk.no _ (by cases t <;> simp[Ty.nm])
     have h6:vZ t.nm=true:=by cases t <;> kernel_rfl
     unfold oM PySem.W.kitCls;rw[if_neg (by simp)]
     show(if vZ t.nm=true then mQ X.K (.ref C) (.type t.nm) else none)=some false
     rw[if_pos h6];exact h5
    have e7:isTy t (.exn c fs)=false:=by cases t <;> rfl
    exact dZ (aua hk) I.kIn ia kq (fun z=>nomatch z) fun tk=>e7▸fin tk
  ·cases e1
def mIsi(t:Ty)(m:M D):M D:=m.bind fun d=>ret (.bl (isTy t d))
theorem aq8{t:Ty}{tn:Expr}{m:M D}{x:Str}(ht:PE X tn (tC (.ty t.nm)))(hg:Gl X x)(hm:X.mg x=none)(hv:bV x=some (.builtin "isinstance"))(h:EB K X e m)(hn:x ≠ "__name__" := by decide)(hdb:(x==("__debug__" : Str))=false:=by decide)
  (h1:aW [tn] X.env=(false,eval tn X.env)::aW [] X.env:=by rfl) (he:aW [e,tn] X.env=(false,eval e X.env)::aW [tn] X.env:=by rfl) (hpl:(jA pos (aW [tn] X.env)).any (·.1)=false:=by rfl) :
  EV K X (.Call (.Name x p) [e,tn] [] pos) (mIsi t m):=EV.mk fun hk=>by
 refine PE.imp (ah4 ar4 hg hm hv (ut (h hk) (ut ht afu h1) he) hn hdb he hpl) fun σ H Q ⟨tg,F,ρ,d,ρ',G,em,q⟩ =>?_
 obtain⟨d1,ρ1,e1,em⟩:=bc em;obtain⟨rfl,rfl⟩:=mz em;subst hk;exact⟨tg,F,ρ,d1,_,G,e1,fun v H' F' G' x bv=>⟨F',d1,v,t,rfl,G'.sub,bv,q _ H' F' G' x (.bl _)⟩⟩
def gIx(d i:D):Option Rv:=match i with
 | .int k=>(itemsD d).bind fun l=>(atI l k).map fun x=>.v x
 | _=>none
theorem a2p{F:Hp}{l:List D}{vs:List V}{k:Int}{d:D}(h:IsL K F l vs)(e:atI l k=some d):∃v,atI vs k=some v/\Is K F d v:=by
 unfold atI at e ⊢
 rw[h.length] at e;cases q:ixN vs.length k with
 | none=>rw[q] at e;cases e
 | some j =>
  rw[q] at e;obtain⟨v,e1,e2⟩:=h.get (i:=j) e;exact⟨v,e1,e2⟩
theorem ixd:X.K=K->IxR X (rOf K gIx):=fun hk=>by
 intro value slice zv s σ0 H x y v u Q I rx ry ⟨tg,F,ρ,σ,d1,d2,r,G,b1,b2,eg,q⟩ hs;subst hk;cases d2 with
 | int k =>
  have eg:(itemsD d1).bind (fun l=>(atI l k).map fun x=>Rv.v x)=some r:=eg
  cases e:itemsD d1 with
  | none=>rw[e] at eg;cases eg
  | some l =>
   rw[e] at eg;have eg:(atI l k).map (fun x=>Rv.v x)=some r:=eg
   cases e2:atI l k with
   | none=>rw[e2] at eg;cases eg
   | some d =>
    rw[e2] at eg;cases eg;obtain⟨a,vs,rfl,hl,hq⟩:=afp G.sub e b1;obtain rfl:=b2.int;obtain⟨z,hz,iz⟩:=a2p hl e2;rcases hq with hq | hq
    ·exact axy value slice zv s σ0 H _ _ v u Q I rx ry ⟨a,vs,k,z,rfl,rfl,hq,hz,Res.same G q iz⟩ hs
    ·exact a1k value slice zv s σ0 H _ _ v u Q I rx ry ⟨a,vs,k,z,rfl,rfl,hq,hz,Res.same G q iz⟩ hs
 | _=>cases eg
theorem kj{m:M (D×D)}(h:E2 K X a b m)(hs:asf b):ER K X (.Subscript a b pos) (mOp gIx m):=ER.mk fun hk=>by
 obtain⟨ta,tb,ha,hb,h⟩:=h hk;exact PE.imp (a5l (ixd hk) ha hb hs) (amh h)
def TOp(K:Fg9)(m:M (Option Int)):TO:=fun σ H Q=>∃tg F ρ o ρ',Good K tg F H ρ σ/\m ρ=some (.ok o,ρ')/\∀H' F',Good K tg F' H' ρ' σ->Ext (Own ρ σ) (Own ρ' σ) F H F' H'->Q o H'
structure EO (K:Fg9) (X:Cx) (e:Option Expr) (m:M (Option Int)):Prop where
 go:X.K=K->PO X e (TOp K m)
instance {K:Fg9} {X:Cx} {e:Option Expr} {m:M (Option Int)}:CoeFun (EO K X e m) fun _=>X.K=K->PO X e (TOp K m):=⟨EO.go⟩
theorem PO.imp{eo:Option Expr}{t t':TO}(h:PO X eo t)(w:∀σ H Q,t' σ H Q->t σ H Q):PO X eo t':=fun zv s σ H Q I q=>h zv s σ H Q I (w σ H Q q)
theorem als:EO K X none (ret none):=EO.mk fun _=>PO.imp awz fun σ H Q hq0=>by
 obtain⟨tg,F,ρ,o,ρ',G,em,q⟩:=hq0;obtain⟨rfl,rfl⟩:=mz em;exact q H F G (Ext.refl _ _ _)
noncomputable def asI:D->Option Int
 | .int i=>some i
 | _=>none
theorem ae6{d:D}{k:Int}(h:asI d=some k):d=.int k:=by
 cases d with
 | int b=>cases h;rfl
 | _=>cases h
def ald(m:M D):M (Option Int):=m.bind fun d=>lift ((asI d).map some)
theorem agj{m:M D}(h:EV K X e m):EO K X (some e) (ald m):=EO.mk fun hk=>PO.imp (awy (h hk)) fun σ H Q hq0=>by
 obtain⟨tg,F,ρ,o,ρ',G,em,q⟩:=hq0;obtain⟨d,ρ1,e1,em⟩:=bc em;obtain⟨e2,rfl⟩:=ie em;refine⟨tg,F,ρ,d,_,G,e1,fun v H' F' G' x r =>?_⟩
 cases d with
 | int i =>
  cases e2;cases r;exact⟨i,rfl,q H' F' G' x⟩
 | _=>cases e2
def cutD(l:List D)(lo hi:Option Int):List D:=(l.drop (HT.sIx l.length 0 lo)).take (HT.sIx l.length l.length hi - HT.sIx l.length 0 lo)
theorem arl{F:Hp}{l:List D}{vs:List V}(h:IsL K F l vs)(lo hi:Option Int):IsL K F (cutD l lo hi) (cutV vs lo hi):=by
 unfold cutD cutV;rw[h.length];exact(h.drop _).take _
def gCut(d:D)(lo hi:Option Int):Option Rv:=match d with
 | .tup l=>some (.v (.tup (cutD l lo hi)))
 | .lst l=>some (.fr (cutD l lo hi))
 | .kst l=>some (.fr (cutD l lo hi))
 | _=>none
def rsOf(K:Fg9):V->Option Int->Option Int->Hp->VK->Prop:=fun x lo hi H Q=>∃tg F ρ σ d r,Good K tg F H ρ σ/\Bor K F H d x/\gCut d lo hi=some r/\Res K tg F H ρ σ r Q
theorem sld(hk:X.K=K):SlR X (rsOf K):=by
 intro zv s σ0 H x v vl vu lo hi sl Q I rx hs pl pu ⟨tg,F,ρ,σ,d,r,G,bd,eg,q⟩;subst hk;cases d with
 | tup l =>
  cases eg;obtain⟨a,vs,rfl,ea,hl⟩:=bd.tup
  by_cases hw:HT.sIx vs.length 0 lo=0/\HT.sIx vs.length vs.length hi=vs.length
  ·have ec:cutD l lo hi=l:=by
    unfold cutD;rw[hl.length,hw.1,hw.2,rT,tQ,<-hl.length,kO]
   rw[ec] at q;cases rx;obtain⟨its,r,ht,hz⟩:=I.tuple (SqT.of (G.sub _ _ ea));have hlen:its.toArray.size=vs.length:=by rw[aV];exact r.length.symm
   refine⟨"tuple", _,eG.lookup,ht.typeIs,?_⟩;exact ac0 ht hs pl pu (by rw[hlen];exact hw.1) (by rw[hlen];exact hw.2) ⟨.ref a,H,I,rfl,Res.same G q (.tup ea hl)⟩
  ·exact azv zv s σ0 H _ v vl vu lo hi sl Q I rx hs pl pu ⟨a,vs,rfl,SqT.of (G.sub _ _ ea),hw,fun p hp=>Res.tup G q (arl hl lo hi) hp⟩
 | lst l =>
  cases eg;obtain⟨a,vs,rfl,ea,hl⟩:=bd.lst G.sub;exact apl zv s σ0 H _ v vl vu lo hi sl Q I rx hs pl pu ⟨a,vs,rfl,SqL.of ea,fun p hp=>Res.lst G q (arl hl lo hi) hp⟩
 | kst l =>
  cases eg;obtain⟨a,vs,rfl,ea,hl⟩:=bd.kst;exact apl zv s σ0 H _ v vl vu lo hi sl Q I rx hs pl pu ⟨a,vs,rfl,L2.Same.seq G.sub ea,fun p hp=>Res.lst G q (arl hl lo hi) hp⟩
 | _=>cases eg
def mCut(m:M D)(ml mh:M (Option Int)):M Rv:=m.bind fun d=>ml.bind fun lo=>mh.bind fun hi=>lift (gCut d lo hi)
def at4(i:Nat)(ml mh:M (Option Int)):M Rv:=(gj i).bind fun _=>ml.bind fun lo=>mh.bind fun hi=>(gj i).bind fun d=>lift (gCut d lo hi)
theorem avv{m:M D}{ml mh:M (Option Int)}{lo hi:Option Expr}(h:EV K X a m)(hl:EO K X lo ml)(hh:EO K X hi mh):ER K X (.Subscript a (.Slice lo hi none p2) pos) (mCut m ml mh):=ER.mk fun hk=>PE.imp (amd (sld hk) (h hk) (hl hk) (hh hk)) fun σ H Q hq0=>by
 obtain⟨tg,F,ρ,r,ρ',G,em,q⟩:=hq0;obtain⟨d,ρ1,e1,em⟩:=bc em;obtain⟨o1,ρ2,e2,em⟩:=bc em;obtain⟨o2,ρ3,e3,em⟩:=bc em;obtain⟨e4,rfl⟩:=ie em;refine⟨tg,F,ρ,d,ρ1,G,e1,fun v H1 F1 G1 x1 r1=>⟨tg,F1,ρ1,o1,ρ2,G1,e2,fun H2 F2 G2 x2=>⟨tg,F2,ρ2,o2,_,G2,e3,fun H3 F3 G3 x3 =>?_⟩⟩⟩
 exact⟨tg,F3,_,σ,d,r,G3,.inl ((r1.mono x2.sub).mono x3.sub),e4,fun v' H4 F4 G4 x4 rr=>q v' H4 F4 G4 (((x1.trans x2).trans x3).trans x4) (n8 ((x1.trans x2).trans x3) rr)⟩
theorem ara{i:Nat}{ml mh:M (Option Int)}{lo hi:Option Expr}(h:PE X a (tVar i))(hl:EO K X lo ml)(hh:EO K X hi mh):ER K X (.Subscript a (.Slice lo hi none p2) pos) (at4 i ml mh):=ER.mk fun hk=>PE.imp (amd (sld hk) h (hl hk) (hh hk)) fun σ H Q hq0=>by
 obtain⟨tg,F,ρ,r,ρ',G,em,q⟩:=hq0;obtain⟨d0,ρ0,e0,em⟩:=bc em;obtain⟨o1,ρ2,e2,em⟩:=bc em;obtain⟨o2,ρ3,e3,em⟩:=bc em;obtain⟨d,ρ4,e1,em⟩:=bc em;obtain⟨e4,rfl⟩:=ie em;obtain⟨rfl,v,hv,_⟩:=qm G e0;refine⟨v,hv,tg,F,ρ0,o1,ρ2,G,e2,fun H2 F2 G2 x2=>⟨tg,F2,ρ2,o2,_,G2,e3,fun H3 F3 G3 x3 =>?_⟩⟩
 obtain⟨rfl,v',hv',b'⟩:=qm G3 e1;rw[hv] at hv';cases hv';exact⟨tg,F3,_,σ,d,r,G3,b',e4,fun v' H4 F4 G4 x4 rr=>q v' H4 F4 G4 ((x2.trans x3).trans x4) (n8 (x2.trans x3) rr)⟩
end
inductive Fl where
 | nx | ret (r:Rv) | brk | cont | exc (x:Exn)
abbrev Sd:=Ro->Option (Fl×Ro)
section
variable{K:Fg9}{X:Cx}{e a b c tgt:Expr}{es:List Expr}{pos p p2:Pos}{st:Stmt}{ss:List Stmt}
def FlOk(K:Fg9)(tg:Nat->Addr)(ρ:Ro)(σ:L2.St)(F H:Hp)(E:Ends)(fl:Fl)(ρ':Ro):Prop:=match fl with
 | .nx=>∀σ' H' F',Good K tg F' H' ρ' σ'->Ext (Own ρ σ) (Own ρ' σ') F H F' H'->E.nx σ' H'
 | .brk=>∀σ' H' F',Good K tg F' H' ρ' σ'->Ext (Own ρ σ) (Own ρ' σ') F H F' H'->E.bk σ' H'
 | .cont=>∀σ' H' F',Good K tg F' H' ρ' σ'->Ext (Own ρ σ) (Own ρ' σ') F H F' H'->E.ct σ' H'
 | .ret r=>∀v σ' H' F',Good K tg F' H' ρ' σ'->Ext (Own ρ σ) (Own ρ' σ') F H F' H'->relR K r v H (Own ρ σ) F' H' (Own ρ' σ')->E.rt v H'
 | .exc _=>False
def TSd(K:Fg9)(g:Sd):TS:=fun E σ H=>∃tg F ρ fl ρ',Good K tg F H ρ σ/\g ρ=some (fl,ρ')/\FlOk K tg ρ σ F H E fl ρ'
structure SV (K:Fg9) (X:Cx) (st:Stmt) (g:Sd):Prop where
 go:X.K=K->PS X st (TSd K g)
instance {K:Fg9} {X:Cx} {st:Stmt} {g:Sd}:CoeFun (SV K X st g) fun _=>X.K=K->PS X st (TSd K g):=⟨SV.go⟩
structure SVs (K:Fg9) (X:Cx) (ss:List Stmt) (g:Sd):Prop where
 go:X.K=K->PSs X ss (TSd K g)
instance {K:Fg9} {X:Cx} {ss:List Stmt} {g:Sd}:CoeFun (SVs K X ss g) fun _=>X.K=K->PSs X ss (TSd K g):=⟨SVs.go⟩
theorem PS.imp{t t':TS}(h:PS X st t)(w:∀E σ H,t' E σ H->t E σ H):PS X st t':=fun zv s σ H E I q=>h zv s σ H E I (w E σ H q)
theorem PSs.imp{t t':TS}(h:PSs X ss t)(w:∀E σ H,t' E σ H->t E σ H):PSs X ss t':=fun zv s σ H E I q=>h zv s σ H E I (w E σ H q)
theorem FlOk.back{tg:Nat->Addr}{ρ ρ1 ρ':Ro}{σ σ1:L2.St}{F H F1 H1:Hp}{E:Ends}{fl:Fl}(x:Ext (Own ρ σ) (Own ρ1 σ1) F H F1 H1)(h:FlOk K tg ρ σ F H E fl ρ'):FlOk K tg ρ1 σ1 F1 H1 E fl ρ':=by
 cases fl with
 | nx=>exact fun σ' H' F' G' x'=>h σ' H' F' G' (x.trans x')
 | brk=>exact fun σ' H' F' G' x'=>h σ' H' F' G' (x.trans x')
 | cont=>exact fun σ' H' F' G' x'=>h σ' H' F' G' (x.trans x')
 | ret r=>exact fun v σ' H' F' G' x' rr=>h v σ' H' F' G' (x.trans x') (n8 x rr)
 | exc _=>exact h
def dNx:Sd:=fun ρ=>some (.nx,ρ)
def dBrk:Sd:=fun ρ=>some (.brk,ρ)
def a70:Sd:=fun ρ=>some (.cont,ρ)
noncomputable def dSeq(g k:Sd):Sd:=fun ρ=>match g ρ with
 | some (.nx,ρ1)=>k ρ1
 | r=>r
theorem m5:SVs K X [] dNx:=SVs.mk fun _=>PSs.imp apu fun E σ H hq0=>by
 obtain⟨tg,F,ρ,fl,ρ',G,em,q⟩:=hq0;cases em;exact q σ H F G (Ext.refl _ _ _)
theorem az{g:Sd}(h:SV K X st g):SVs K X [st] g:=SVs.mk fun hk=>awu (h hk)
theorem ak{g k:Sd}(h:SV K X st g)(t:SVs K X ss k):SVs K X (st::ss) (dSeq g k):=SVs.mk fun hk=>PSs.imp (ah2 (h hk) (t hk)) fun E σ H hq0=>by
 obtain⟨tg,F,ρ,fl,ρ',G,em,q⟩:=hq0;unfold dSeq at em;split at em
 ·rename_i ρ1 e1;exact⟨tg,F,ρ,.nx,ρ1,G,e1,fun σ' H' F' G' x=>⟨tg,F',ρ1,fl,ρ',G',em,q.back x⟩⟩
 ·rename_i hn;refine⟨tg,F,ρ,fl,ρ',G,em,?_⟩;cases fl with
  | nx=>exact absurd em (hn ρ')
  | brk=>exact q
  | cont=>exact q
  | ret r=>exact q
  | exc _=>exact q
theorem ae8:SV K X st (fun _=>none):=SV.mk fun _=>PS.imp ath fun E σ H ⟨tg,F,ρ,fl,ρ',G,em,q⟩=>by cases em
noncomputable def dM{α:Type}(m:M α)(k:α->Sd):Sd:=fun ρ=>match m ρ with
 | some (.ok x,ρ1)=>k x ρ1
 | some (.exc x,ρ1)=>some (.exc x,ρ1)
 | none=>none
theorem mj{α:Type}{m:M α}{k:α->Sd}{ρ ρ':Ro}{fl:Fl}{P:Prop}(h:dM m k ρ=some (fl,ρ'))(hx:FlOk K tg ρ0 σ0 F0 H0 E0' fl ρ')(go:∀x ρ1,m ρ=some (.ok x,ρ1)->k x ρ1=some (fl,ρ')->P):P:=by
 unfold dM at h;split at h
 ·exact go _ _ (by assumption) h
 ·cases h;exact(show False from hx).elim
 ·cases h
noncomputable def dRet(m:M Rv):Sd:=dM m fun r ρ=>some (.ret r,ρ)
theorem ik{m:M Rv}(h:ER K X e m):SV K X (.Return (some e) pos) (dRet m):=SV.mk fun hk=>PS.imp (a0b (h hk)) fun E σ H ⟨tg,F,ρ,fl,ρ',G,em,q⟩=>mj em q fun r ρ1 e1 em=>by
 cases em;exact⟨tg,F,ρ,r,_,G,e1,fun v H' F' G' x rr=>q v σ H' F' G' x rr⟩
noncomputable def dIf(m:M Bool)(g k:Sd):Sd:=dM m fun z=>if z=true then g else k
theorem yl{m:M Bool}{g k:Sd}{ss':List Stmt}(h:ET K X c m)(h1:SVs K X ss g)(h2:SVs K X ss' k):SV K X (.If c ss ss' pos) (dIf m g k):=SV.mk fun hk=>PS.imp (a5i (h hk) (h1 hk) (h2 hk)) fun E σ H ⟨tg,F,ρ,fl,ρ',G,em,q⟩=>mj em q fun z ρ1 e1 em=>by
 refine⟨tg,F,ρ,z,ρ1,G,e1,fun H' F' G' x =>?_⟩
 cases z with
 | true=>exact iteT ⟨tg,F',ρ1,fl,ρ',G',em,q.back x⟩
 | false=>exact iteF ⟨tg,F',ρ1,fl,ρ',G',em,q.back x⟩
def abw{α:Type}(m:M α):Sd:=dM m fun _ ρ=>some (.nx,ρ)
theorem qp{m:M Rv}(h:ER K X e m)(hs:lB e none pos.line X.env=pure false:=by rfl):SV K X (.Expr e pos) (abw m):=SV.mk fun hk=>PS.imp (aww (h hk) hs) fun E σ H ⟨tg,F,ρ,fl,ρ',G,em,q⟩=>mj em q fun r ρ1 e1 em=>by
 cases em;exact⟨tg,F,ρ,r,_,G,e1,fun v H' F' G' x rr=>q σ H' F' G' x⟩
section
variable{tg:Nat->Addr}{F H:Hp}{ρ:Ro}{σ:L2.St}
theorem aaw{i:Nat}{s:Sl}{v:V}{b:Addr}(hl:ρ.length=σ.length)(h:Own (bA ρ i s) (bA σ i (some v)) b):Own ρ σ b∨((∃t l,s=.own t l)/\v=.ref b):=by
 obtain⟨j,⟨t,l,e⟩,q⟩:=h;rw[bQ] at e q
 by_cases hj:i=j
 ·subst hj;rw[if_pos rfl] at e q;split at e
  ·rename_i hi;rw[if_pos (by rw[<-hl];exact hi)] at q
   cases e;cases q;exact .inr ⟨⟨t,l,rfl⟩,rfl⟩
  ·cases e
 ·rw[if_neg hj] at e q;exact .inl ⟨j,⟨t,l,e⟩,q⟩
theorem Good.put(G:Good K tg F H ρ σ){s:Sl}{v:V}(i:Nat)(h:SlOk K tg F H s (some v))(n:∀t l a,s=.own t l->v=.ref a->¬Own ρ σ a):Good K tg F H (bA ρ i s) (bA σ i (some v)) where
 sub:=G.sub
 len:=by rw[bC,bC];exact G.len
 sl:=fun j s' o e q=>by
  rw[bQ] at e q
  by_cases hj:i=j
  ·subst hj;rw[if_pos rfl] at e q;split at e
   ·rename_i hi;rw[if_pos (by rw[<-G.len];exact hi)] at q
    cases e;cases q;exact h
   ·cases e
  ·rw[if_neg hj] at e q;exact G.sl j s' o e q
 inj:=fun j k a ⟨⟨t,l,e⟩,q⟩ ⟨⟨t',l',e'⟩,q'⟩=>by
  rw[bQ] at e q e' q'
  by_cases hj:i=j
  ·subst hj;rw[if_pos rfl] at e q
   by_cases hk:i=k
   ·exact hk
   ·rw[if_neg hk] at e' q';split at e
    ·rename_i hi;rw[if_pos (by rw[<-G.len];exact hi)] at q
     cases e;cases q;exact absurd ⟨k,⟨t',l',e'⟩,q'⟩ (n t l a rfl rfl)
    ·cases e
  ·rw[if_neg hj] at e q
   by_cases hk:i=k
   ·subst hk;rw[if_pos rfl] at e' q';split at e'
    ·rename_i hi;rw[if_pos (by rw[<-G.len];exact hi)] at q'
     cases e';cases q';exact absurd ⟨j,⟨t,l,e⟩,q⟩ (n t' l' a rfl rfl)
    ·cases e'
   ·rw[if_neg hk] at e' q';exact G.inj j k a ⟨⟨t,l,e⟩,q⟩ ⟨⟨t',l',e'⟩,q'⟩
def Rv.sl:Rv->Sl
 | .v d=>.val d
 | .fr l=>.own none l
 | .tf _ _=>.emp
theorem Good.store{F0 H0:Hp}{O:Addr->Prop}(G:Good K tg F H ρ σ)(x:Ext O (Own ρ σ) F0 H0 F H){r:Rv}{v:V}(i:Nat)(h:relR K r v H0 O F H (Own ρ σ)) :
  Good K tg F H (bA ρ i r.sl) (bA σ i (some v))/\Ext O (Own (bA ρ i r.sl) (bA σ i (some v))) F0 H0 F H:=by
 cases r with
 | v d =>
  refine⟨G.put i ⟨v,rfl,h⟩ (fun t l a e=>by cases e),x.sub,x.new,x.keep,fun b w =>?_,x.there⟩
  rcases aaw G.len w with w | ⟨⟨t,l,e⟩,_⟩
  ·exact x.own b w
  ·cases e
 | fr l =>
  obtain⟨a,vs,rfl,ha,hf,hh,hl,hn⟩:=h;refine⟨G.put i ⟨a,vs,rfl,hf,hh,hl,fun k e=>by cases e⟩ (fun t l' b _ e2=>by cases e2;exact hn),x.sub,x.new,x.keep,fun b w =>?_,x.there⟩
  rcases aaw G.len w with w | ⟨_,e⟩
  ·exact x.own b w
  ·cases e;exact ha.symm
 | tf d l =>
  refine⟨G.put i trivial (fun t l a e=>by cases e),x.sub,x.new,x.keep,fun b w =>?_,x.there⟩
  rcases aaw G.len w with w | ⟨⟨t,l,e⟩,_⟩
  ·exact x.own b w
  ·cases e
end
def dSet(i:Nat)(m:M Rv):Sd:=dM m fun r ρ=>some (.nx,bA ρ i r.sl)
theorem iu{i:Nat}{x:Str}{m:M Rv}(hN:X.N.Nodup)(hi:X.N[i]? = some x)(hx:Loc X.env.scope x)(h:ER K X e m)(hs:lB e (some (.Name x p)) pos.line X.env=pure false:=by rfl)(hf:X.fn x=true∨X.env.scope.names.lookup x=some .local:=by first | exact .inl rfl | exact .inr rfl | assumption) :
  SV K X (.Assign [.Name x p] e pos) (dSet i m):=SV.mk fun hk=>PS.imp (avd hN hi hx (h hk) hs hf) fun E σ H ⟨tg,F,ρ,fl,ρ',G,em,q⟩=>mj em q fun r ρ1 e1 em=>by
 cases em;refine⟨tg,F,ρ,r,ρ1,G,e1,fun v H' F' G' x rr =>?_⟩
 obtain⟨G2,x2⟩:=G'.store x i rr;exact q _ H' F' G2 x2
def TGd(K:Fg9)(b:D->Ro->Option Ro):TG:=fun v σ H Q=>∃tg F ρ d ρ',Good K tg F H ρ σ/\Is K F d v/\b d ρ=some ρ'/\∀σ' H' F',Good K tg F' H' ρ' σ'->Ext (Own ρ σ) (Own ρ' σ') F H F' H'->Q σ' H'
structure GV (K:Fg9) (X:Cx) (e:Expr) (b:D->Ro->Option Ro):Prop where
 go:X.K=K->PG X e (TGd K b)
instance {K:Fg9} {X:Cx} {e:Expr} {b:D->Ro->Option Ro}:CoeFun (GV K X e b) fun _=>X.K=K->PG X e (TGd K b):=⟨GV.go⟩
theorem PG.imp{t t':TG}(h:PG X e t)(w:∀v σ H Q,t' v σ H Q->t v σ H Q):PG X e t':=fun zv s σ H v u Q I r q=>h zv s σ H v u Q I r (w v σ H Q q)
def bu(i:Nat):D->Ro->Option Ro:=fun d ρ=>some (bA ρ i (.val d))
theorem Good.storeV{tg:Nat->Addr}{F H:Hp}{ρ:Ro}{σ:L2.St}(G:Good K tg F H ρ σ){d:D}{v:V}(i:Nat)(h:Is K F d v):Good K tg F H (bA ρ i (.val d)) (bA σ i (some v))/\Ext (Own ρ σ) (Own (bA ρ i (.val d)) (bA σ i (some v))) F H F H :=
 G.store (r:=.v d) (Ext.refl _ _ _) i h
theorem cj{i:Nat}{x:Str}(hN:X.N.Nodup)(hi:X.N[i]? = some x)(hx:Loc X.env.scope x)(hf:X.fn x=true∨X.env.scope.names.lookup x=some .local:=by first | exact .inl rfl | exact .inr rfl | assumption):GV K X (.Name x pos) (bu i):=GV.mk fun _=>PG.imp (ah3 hN hi hx hf) fun v σ H Q hq0=>by
 obtain⟨tg,F,ρ,d,ρ',G,h,em,q⟩:=hq0;cases em;obtain⟨G2,x2⟩:=G.storeV i h;exact q _ H F G2 x2
def TGsd(K:Fg9)(b:List D->Ro->Option Ro):TGs:=fun vs σ H Q=>∃tg F ρ ds ρ',Good K tg F H ρ σ/\IsL K F ds vs/\b ds ρ=some ρ'/\∀σ' H' F',Good K tg F' H' ρ' σ'->Ext (Own ρ σ) (Own ρ' σ') F H F' H'->Q σ' H'
structure GVs (K:Fg9) (X:Cx) (es:List Expr) (b:List D->Ro->Option Ro):Prop where
 go:X.K=K->PGs X es (TGsd K b)
instance {K:Fg9} {X:Cx} {es:List Expr} {b:List D->Ro->Option Ro}:CoeFun (GVs K X es b) fun _=>X.K=K->PGs X es (TGsd K b):=⟨GVs.go⟩
theorem PGs.imp{t t':TGs}(h:PGs X es t)(w:∀v σ H Q,t' v σ H Q->t v σ H Q):PGs X es t':=fun zv s σ H v u Q I r q=>h zv s σ H v u Q I r (w v σ H Q q)
def bNil:List D->Ro->Option Ro:=fun ds ρ=>match ds with
 | []=>some ρ
 | _=>none
def gk(b:D->Ro->Option Ro)(bs:List D->Ro->Option Ro):List D->Ro->Option Ro:=fun ds ρ=>match ds with
 | d::r=>(b d ρ).bind (bs r)
 | _=>none
theorem qe:GVs K X [] bNil:=GVs.mk fun _=>PGs.imp ap1 fun vs σ H Q hq0=>by
 obtain⟨tg,F,ρ,ds,ρ',G,h,em,q⟩:=hq0;cases ds with
 | nil=>cases em;cases h;exact⟨rfl,q σ H F G (Ext.refl _ _ _)⟩
 | cons _ _=>cases em
theorem dw{b:D->Ro->Option Ro}{bs:List D->Ro->Option Ro}(h1:GV K X e b)(h2:GVs K X es bs)(hs:(dY (e::es) X.env).map (·.2)=kZ e X.env::(dY es X.env).map (·.2):=by rfl):GVs K X (e::es) (gk b bs):=GVs.mk fun hk=>PGs.imp (afb (h1 hk) (h2 hk) hs) fun vs σ H Q hq0=>by
 obtain⟨tg,F,ρ,ds,ρ',G,h,em,q⟩:=hq0;cases h with
 | nil=>cases em
 | @cons d v ds vs hd ht =>
  have em:(b d ρ).bind (bs ds)=some ρ':=em;cases e1:b d ρ with
  | none=>rw[e1] at em;cases em
  | some ρ1 =>
   rw[e1] at em;exact⟨v,vs,rfl,tg,F,ρ,d,ρ1,G,hd,e1,fun σ' H' F' G' x=>⟨tg,F',ρ1,ds,ρ',G',ht.mono x.sub,em,fun σ2 H2 F2 G2 x2=>q σ2 H2 F2 G2 (x.trans x2)⟩⟩
def bTup(n:Nat)(bs:List D->Ro->Option Ro):D->Ro->Option Ro:=fun d ρ=>match d with
 | .tup l=>if l.length=n then bs l ρ else none
 | _=>none
theorem vz{k n:Nat}{bs:List D->Ro->Option Ro}(hc:X.calm=true)(h:GVs K X es bs)(hn:(dY es X.env).length=n:=by rfl)(hst:(dY es X.env).findIdx? (·.1)=none:=by rfl):GV K X (.Tuple es k pos) (bTup n bs):=GV.mk fun hk=>PG.imp (avf hc (h hk) hn hst) fun v σ H Q hq0=>by
 obtain⟨tg,F,ρ,d,ρ',G,hd,em,q⟩:=hq0;cases hd with
 | @tup a vs ds e hl =>
  have em:(if ds.length=n then bs ds ρ else none)=some ρ':=em
  split at em
  ·rename_i hz;exact⟨a,vs,rfl,SqT.of (G.sub _ _ e),by rw[<-hl.length];exact hz,tg,F,ρ,ds,ρ',G,hl,em,q⟩
  ·cases em
 | _=>cases em
def dAsg(m:M D)(b:D->Ro->Option Ro):Sd:=dM m fun d ρ=>(b d ρ).map fun ρ'=>(.nx,ρ')
theorem aph{m:M D}{b:D->Ro->Option Ro}(h:EV K X e m)(hg:GV K X tgt b)(hs:swapsWithSole [tgt] e pos.line X.env=pure false:=by rfl)(hw:swappedStores [tgt] e X.env=pure none:=by rfl)
  (h1:(dY [tgt] X.env).map (·.2)=[kZ tgt X.env]:=by rfl):SV K X (.Assign [tgt] e pos) (dAsg m b):=SV.mk fun hk=>PS.imp (amc (h hk) (hg hk) hs hw h1) fun E σ H ⟨tg,F,ρ,fl,ρ',G,em,q⟩=>mj em q fun d ρ1 e1 em=>by
 refine⟨tg,F,ρ,d,ρ1,G,e1,fun v H' F' G' x r =>?_⟩
 cases e2:b d ρ1 with
 | none=>rw[e2] at em;cases em
 | some ρ2 =>
  rw[e2] at em;cases em;exact⟨tg,F',ρ1,d,_,G',r,e2,fun σ2 H2 F2 G2 x2=>q σ2 H2 F2 G2 (x.trans x2)⟩
def dPar(i j:Nat)(m:M (List D)):Sd:=dM m fun ds ρ=>match ds with
 | [d,d']=>some (.nx,bA (bA ρ i (.val d)) j (.val d'))
 | _=>none
theorem azr{i j:Nat}{x y:Str}{px py pt:Pos}{kt k2 pt2}{m:M (List D)}(hc:X.calm=true)(hN:X.N.Nodup)(hi:X.N[i]? = some x)(hj:X.N[j]? = some y)(hij:i≠j)
  (hx:X.env.scope.names.lookup x=some .local) (hy:X.env.scope.names.lookup y=some .local) (h:ED K X [a,b] m)
  (hw:swappedStores [.Tuple [.Name x px,.Name y py] kt pt] (.Tuple [a,b] k2 pt2) X.env=pure (some [x,y]):=by rfl)
  (hs:swapsWithSole [.Tuple [.Name x px,.Name y py] kt pt] (.Tuple [a,b] k2 pt2) pos.line X.env=pure false:=by rfl) :
  SV K X (.Assign [.Tuple [.Name x px,.Name y py] kt pt] (.Tuple [a,b] k2 pt2) pos) (dPar i j m):=SV.mk fun hk=>PS.imp (a0c hc hN hi hj hij hx hy (h hk) hw hs) fun E σ H ⟨tg,F,ρ,fl,ρ',G,em,q⟩=>mj em q fun ds ρ1 e1 em=>by
 refine⟨tg,F,ρ,ds,ρ1,G,e1,fun vs H' F' G' x r =>?_⟩
 match ds,em with
 | [d,d'],em =>
  cases em;cases r with
  | @cons _ v _ _ h1 r =>
   cases r with
   | @cons _ v' _ _ h2 r =>
    cases r;obtain⟨G2,x2⟩:=G'.storeV i h1;obtain⟨G3,x3⟩:=G2.storeV j h2;exact⟨v,v',rfl,q _ H' F' G3 ((x.trans x2).trans x3)⟩
theorem Good.mut{tg:Nat->Addr}{F H:Hp}{ρ:Ro}{σ:L2.St}(G:Good K tg F H ρ σ){i:Nat}{t:Option Nat}{l l':List D}{a:Addr}{ys:List V}(e:(ρ:List Sl)[i]? = some (.own t l))(q:σ[i]? = some (some (.ref a)))(h:IsL K F l' ys) :
  Good K tg F (upd H a (.lst ys)) (bA ρ i (.own t l')) σ/\Ext (Own ρ σ) (Own (bA ρ i (.own t l')) σ) F H F (upd H a (.lst ys)):=by
 obtain⟨a',vs,e1,hf,hh,hl,ht⟩:=G.sl i _ _ e q;cases e1;have ow:∀j b,Owns (bA ρ i (.own t l')) σ j b->Owns ρ σ j b:=fun j b ⟨⟨t2,l2,e2⟩,q2⟩=>by
  rw[bQ] at e2
  by_cases hj:i=j
  ·subst hj;exact⟨⟨t,l,e⟩,q2⟩
  ·rw[if_neg hj] at e2;exact⟨⟨t2,l2,e2⟩,q2⟩
 have me:Own ρ σ a:=⟨i,⟨t,l,e⟩,q⟩;refine⟨⟨fun b o z =>?_,by rw[bC];exact G.len,fun j s o e2 q2 =>?_,fun j k b w1 w2=>G.inj j k b (ow _ _ w1) (ow _ _ w2)⟩,Same.refl F,fun _ _ z=>.inl z,fun b o z n =>?_,fun b ⟨j,w⟩=>.inl ⟨j,ow j b w⟩,fun b z =>?_⟩
 ·have hb:b≠a:=fun z2=>by
   subst z2;rw[hf] at z;cases z
  rw[di hb];exact G.sub b o z
 ·rw[bQ] at e2
  by_cases hj:i=j
  ·subst hj;rw[if_pos rfl] at e2;split at e2
   ·cases e2;rw[q] at q2;cases q2;exact⟨a,ys,rfl,hf,je,h,ht⟩
   ·cases e2
  ·rw[if_neg hj] at e2;have z:=G.sl j s o e2 q2;cases s with
   | emp=>trivial
   | val d=>exact z
   | box c fs =>
    obtain⟨b,C,dx,fvs,e1,e2,e3,e4⟩:=z;have hb:b≠a:=fun z2=>by
     subst z2;rw[e3] at hh;cases hh
    exact⟨b,C,dx,fvs,e1,e2,by rw[di hb];exact e3,e4⟩
   | own t2 l2 =>
    obtain⟨b,ws,e3,hf3,hh3,hl3,ht3⟩:=z;have hb:b≠a:=fun z2=>by
     subst z2;exact hj (G.inj i j b ⟨⟨t,l,e⟩,q⟩ ⟨⟨t2,l2,e2⟩,by rw[q2,e3]⟩)
    exact⟨b,ws,e3,hf3,by rw[di hb];exact hh3,hl3,ht3⟩
 ·have hb:b≠a:=fun z2=>n (z2▸me)
  rw[di hb];exact z
 ·by_cases hb:b=a
  ·subst hb;rw[je] at z;cases z
  ·rw[di hb] at z;exact z
noncomputable def mOwn(i:Nat):M (List D):=fun ρ=>match ρ[i]? with
 | some (.own _ l)=>some (.ok l,ρ)
 | _=>none
theorem acn{tg:Nat->Addr}{F H:Hp}{ρ ρ':Ro}{σ:L2.St}(G:Good K tg F H ρ σ){i:Nat}{l:List D}(em:mOwn i ρ=some (.ok l,ρ')):ρ'=ρ/\∃t a xs,(ρ:List Sl)[i]? = some (.own t l)/\σ[i]? = some (some (.ref a))/\H a=some (.lst xs)/\IsL K F l xs:=by
 unfold mOwn at em;split at em
 ·rename_i t l' e';cases em;obtain⟨o,ho,a,vs,rfl,hf,hh,hl,_⟩:=G.at e';exact⟨rfl,t,a,vs,e',ho,hh,hl⟩
 ·cases em
noncomputable def abn(i:Nat)(l':List D):M Unit:=fun ρ=>match ρ[i]? with
 | some (.own t _)=>some (.ok (),bA ρ i (.own t l'))
 | _=>none
def mMut(i:Nat)(g:List D->List D->Option (D×List D))(ms:M (List D)):M D:=(mOwn i).bind fun _=>ms.bind fun ds=>(mOwn i).bind fun l=>(lift (g l ds)).bind fun r=>(abn i r.2).bind fun _=>ret r.1
def MutD(K:Fg9)(r:V->List V->Hp->VK->Prop)(g:List D->List D->Option (D×List D)):Prop :=
 ∀(F H:Hp) (a:Addr) (xs vs:List V) (l ds:List D) (d:D) (l':List D) (Q:VK),Same F H->H a=some (.lst xs)->xs.length<=capS->IsL K F l xs->IsL K F ds vs->g l ds=some (d,l')->(∀v ys,Is K F d v->IsL K F l' ys->Q v (upd H a (.lst ys)))->r (.ref a) vs H Q
theorem afy{tg:Nat->Addr}{F H:Hp}{ρ ρ2:Ro}{σ:L2.St}(G:Good K tg F H ρ σ){i:Nat}{l':List D}{u:Unit}{a:Addr}{ys:List V}(e:abn i l' ρ=some (.ok u,ρ2))(q:σ[i]? = some (some (.ref a)))(h:IsL K F l' ys) :
  Good K tg F (upd H a (.lst ys)) ρ2 σ/\Ext (Own ρ σ) (Own ρ2 σ) F H F (upd H a (.lst ys)):=by
 unfold abn at e;split at e
 ·rename_i t l e';cases e;exact G.mut e' q h
 ·cases e
theorem am1{i:Nat}{name:Str}{id:String}{r:V->List V->Hp->VK->Prop}{g:List D->List D->Option (D×List D)}{ms:M (List D)}{apos cpos:Pos}(hr:MutD K r g)(slot:Slot "list" name id)(hty:typeOf (.builtin id)=pure (.type "method_descriptor"))(hm:MtR X id r)(ho:PE X a (tVar i))(ha:ED K X (e::es) ms)
  (hbase:gC a name X.env (eval a X.env)=eval a X.env:=by rfl)
  (hfew:((jA cpos (aW (e::es) X.env)).all (fun x => !x.1)&&(backToKw cpos (keywordEach [] X.env)).all (fun x=>x.1.isSome)
   && decide ((e::es).length+([]:List Keyword).length+(if ([]:List Keyword).isEmpty then 0 else 1) < 30))=true:=by rfl)
  (hline:(apos.endLine==cpos.line)=true:=by rfl) (hs:aW (e::es) X.env=(false,eval e X.env)::aW es X.env:=by rfl) (hplain:(jA cpos (aW es X.env)).any (·.1)=false:=by rfl) :
  EV K X (.Call (.Attribute a name apos) (e::es) [] cpos) (mMut i g ms):=EV.mk fun hk=>by
 intro zv s σ H Q I ⟨tg,F,ρ,d,ρ',G,em,q⟩;obtain⟨l0,ρ0,e0,em1⟩:=bc em;obtain⟨ds,ρ1,e1,em2⟩:=bc em1;obtain⟨l,ρ2,e2,em3⟩:=bc em2;obtain⟨x,ρ3,e3,em4⟩:=bc em3;obtain⟨u,ρ4,e4,em5⟩:=bc em4;obtain⟨rfl,rfl⟩:=mz em5;obtain⟨eg,rfl⟩:=ie e3;obtain⟨rfl,t0,b,xs0,es0,hv,hh0,hl0⟩:=acn G e0;refine axc (r:=fun x vs H Q=>(∀b xs,x=.ref b->H b=some (.lst xs)->xs.length<=capS)->r x vs H Q) sU slot hty (fun zv s σ H x xs v us Q I rx rv h=>hm zv s σ H x xs v us Q I rx rv (h fun b xs _ hb =>?_)) ho (ha hk) hbase hfew hline hs hplain zv s σ H Q I ?_
 ·obtain⟨z,_⟩:=I.lstM hb;rw[gQ] at z;exact z
 refine⟨_,hv,.inl ⟨rfl,_,SqL.of hh0⟩,tg,F,ρ0,ds,ρ1,G,e1,fun vs H1 F1 G1 x1 r1 cap =>?_⟩
 obtain⟨rfl,t,a',xs,es',hv',hh,hl⟩:=acn G1 e2;rw[hv] at hv';cases hv';refine hr F1 H1 _ xs vs l ds x.1 x.2 Q G1.sub hh (cap _ _ rfl hh) hl r1 eg fun w ys iw il =>?_
 obtain⟨G2,x2⟩:=afy G1 e4 hv il;exact q w _ F1 G2 (x1.trans x2) iw
def aek(l ds:List D):Option (D×List D):=match ds with
 | [d]=>if l.length < capS then some (.non,l++[d]) else none
 | _=>none
theorem ab6:MutD K apt aek:=by
 intro F H a xs vs l ds d l' Q g hh hc hl hd eg q
 match ds,eg with
 | [d1],eg =>
  have eg:(if l.length < capS then some (D.non,l++[d1]) else none)=some (d,l'):=eg
  split at eg
  ·rename_i hz;cases eg;cases hd with
   | cons h t =>
    cases t;exact⟨a,xs,_,rfl,rfl,hh,by rw[gQ,<-hl.length];exact hz,q _ _ .non (hl.append (.cons h .nil))⟩
  ·cases eg
def dSub(i:Nat)(mi m:M D):Sd:=dM m fun d=>dM (mOwn i) fun _=>dM mi fun k=>dM (mOwn i) fun l=>dM (lift ((asI k).bind (ixN l.length))) fun j=>dM (abn i (l.set j d)) fun _=>dNx
theorem ac9{i:Nat}{mi m:M D}(h:EV K X e m)(ho:PE X a (tVar i))(hi:EV K X b mi)(hs:swapsWithSole [.Subscript a b p] e pos.line X.env=pure false:=by rfl)(hw:swappedStores [.Subscript a b p] e X.env=pure none:=by rfl)
  (h1:(dY [.Subscript a b p] X.env).map (·.2)=[kZ (.Subscript a b p) X.env]:=by rfl)
  (ha:∀v,kZ (.Subscript a b p) X.env v=(do
   let ov <-jC [v] (eval a X.env)
   let iv <-jC [v,ov] (eval b X.env)
   standAt p
   jC [v,ov,iv] (setItem ov iv v)
   release [v,ov,iv] []):=by intro _;rfl):SV K X (.Assign [.Subscript a b p] e pos) (dSub i mi m):=SV.mk fun hk=>PS.imp (amc (h hk) (avh ho (hi hk) set_list ha) hs hw h1) fun E σ H ⟨tg,F,ρ,fl,ρ',G,em,q⟩ =>
 mj em q fun d ρ1 e1 em=>mj em q fun l0 ρ0 e0 em=>mj em q fun k ρ2 e2 em=>mj em q fun l ρ3 e3 em=>mj em q fun j ρ4 e4 em=>mj em q fun u ρ5 e5 em=>by
 cases em;obtain⟨e6,rfl⟩:=ie e4;refine⟨tg,F,ρ,d,ρ1,G,e1,fun v H1 F1 G1 x1 r1 =>?_⟩
 obtain⟨rfl,t0,a0,xs0,es0,hv,hh0,hl0⟩:=acn G1 e0;refine⟨_,hv,tg,F1,_,k,ρ2,G1,e2,fun w H2 F2 G2 x2 r2 =>?_⟩
 obtain⟨rfl,t,a1,xs,es1,hv',hh,hl⟩:=acn G2 e3;rw[hv] at hv';cases hv';cases ek:asI k with
 | none=>rw[ek] at e6;cases e6
 | some n =>
  rw[ek] at e6;obtain rfl:=ae6 ek;cases r2;obtain⟨G3,x3⟩:=afy G2 e5 hv (hl.set (r1.mono x2.sub) j);exact⟨_,xs,n,j,rfl,rfl,hh,by rw[<-hl.length];exact e6,q _ _ F2 G3 ((x1.trans x2).trans x3)⟩
def dAug(f:Int->Int->Int)(i:Nat)(m:M D):Sd:=dM (mVar i) fun x=>dM m fun y=>dM (lift ((asI x).bind fun n=>(asI y).map fun k=>D.int (f n k))) fun z ρ=>some (.nx,bA ρ i (.val z))
end
section
variable{K:Fg9}{X:Cx}{e a b c tgt iter elt:Expr}{es:List Expr}{pos p p2:Pos}{st:Stmt}{ss:List Stmt}
theorem _root_.Mn.ItOf.imp{J:It}{xs:List V}{S S':Hp->Prop}(Z:ItOf J xs S)(h:∀H,S' H->S H):ItOf J xs S':=⟨fun i H q=>Z.go i H (h H q),fun i H x H' q=>Z.yld i H x H' (h H q),fun i H q=>Z.stop i H (h H q)⟩
def Alt(K:Fg9)(F:Hp)(d:D)(x:V)(H H':Hp):Prop:=(H'=H/\Is K F d x)∨∃q vs ds,H q=none/\x=.ref q/\H'=upd H q (.tup vs)/\d=.tup ds/\IsL K F ds vs
structure ItD (K:Fg9) (J:It) (l:List D) (F:Hp):Prop where
 go:∀i H,Same F H->i < l.length->J.go i H
 yld:∀i H x H' d,Same F H->J.yld i H x H'->l[i]? = some d->Alt K F d x H H'
 stop:∀H,Same F H->J.stop l.length H
theorem ItD.of{J:It}{l:List D}{vs:List V}{F:Hp}(il:IsL K F l vs)(Z:ItOf J vs fun H2=>Same F H2):ItD K J l F where
 go:=fun i H s hi=>Z.go i H s (by rw[<-il.length];exact hi)
 yld:=fun i H x H' d s y hd=>by
  obtain⟨v,hv,iv⟩:=il.get hd;obtain⟨e,z⟩:=Z.yld i H x H' s y;have:=z (aN.mp hv).1;rw[hv] at this;cases this;exact .inl ⟨e,iv⟩
 stop:=fun H s=>Z.stop _ H s (by rw[<-il.length];exact aM _)
theorem anf{tg:Nat->Addr}{O:Addr->Prop}{F H F1 F2 H2 H3:Hp}{ρ2:Ro}{σ2:L2.St}{d:D}{x:V}(G2:Good K tg F2 H2 ρ2 σ2)(x2:Ext O (Own ρ2 σ2) F H F2 H2)(s2:Same F1 F2)(a:Alt K F1 d x H2 H3) :
  ∃F3,Good K tg F3 H3 ρ2 σ2/\Ext O (Own ρ2 σ2) F H F3 H3/\Same F1 F3/\Is K F3 d x/\Ext (Own ρ2 σ2) (Own ρ2 σ2) F2 H2 F3 H3:=by
 rcases a with⟨rfl,id⟩ | ⟨q,vs,ds,hq,rfl,rfl,rfl,il⟩
 ·exact⟨F2,G2,x2,s2,id.mono s2,Ext.refl _ _ _⟩
 ·have z:=G2.newX hq (.tup vs);exact⟨_,G2.new hq _,x2.trans z,s2.trans z.sub,.tup je (il.mono (s2.trans z.sub)),z⟩
theorem ayl{J:It}{l:List D}{F:Hp}(Z:ItD K J l F){g:TG}{tb:TS}{D':Ends}{σ:L2.St}{H:Hp}(Pv:Nat->L2.St->Hp->Prop)(h0:Pv 0 σ H)(hl:∀i σ H,i<=l.length->Pv i σ H->Same F H)
  (hs:∀i d x σ H H',l[i]? = some d->Pv i σ H->Alt K F d x H H'->g x σ H' fun σ2 H2=>tb { D' with nx:=Pv (i+1),ct:=Pv (i+1),bk:=D'.nx } σ2 H2) (hd:∀σ H,Pv l.length σ H->D'.nx σ H) :
  ∃W:Nat->Nat->L2.St->Hp->Prop,(∃m,W 0 m σ H)/\∀i m σ H,W i m σ H ->
   (J.stop i H/\D'.nx σ H)∨(J.go i H/\∃N:L2.St->Hp->Prop,(∀σ' H',N σ' H'->∃m',m' < m/\W (i+1) m' σ' H')/\∀x H',J.yld i H x H'->g x σ H' fun σ2 H2=>tb { D' with nx:=N,ct:=N,bk:=D'.nx } σ2 H2):=by
 refine⟨fun i m σ H=>m=l.length - i/\i<=l.length/\Pv i σ H,⟨l.length,by simp,dI _,h0⟩,?_⟩
 rintro i m σ H ⟨rfl,hi,p⟩
 have q:=hl i σ H hi p
 by_cases hlt:i < l.length
 ·exact .inr ⟨Z.go i H q hlt,Pv (i+1),fun σ' H' p'=>⟨l.length - (i+1),by omega,rfl,hlt,p'⟩,fun x H' y=>hs i _ x σ H H' (aC hlt) p (Z.yld i H x H' _ q y (aC hlt))⟩
 ·have e:i=l.length:=by omega
  subst e;exact .inl ⟨Z.stop H q,hd σ H p⟩
theorem au1{J:It}{l:List D}{F:Hp}(Z:ItD K J l F){d:Addr}{g:TG}{ti:TT}{te:TE}{Q:VK}{σ0:L2.St}{H1:Hp}(Pv:Nat->List V->L2.St->Hp->Prop)(h0:Pv 0 [] σ0 (upd H1 d (.lst [])))
  (hl:∀i ys σ H,i<=l.length->Pv i ys σ H->Same F H/\H d=some (.lst ys))
  (hs:∀i e x ys σ H H' (M:List V->L2.St->Hp->Prop),l[i]? = some e->Pv i ys σ H->Alt K F e x H H'->(∀ys' σ' H',Pv (i+1) ys' σ' H'->M ys' σ' H') ->
   g x σ H' fun σ4 H4=>ti σ4 H4 fun b H5=>if b=true then te σ4 H5 fun y H6=>H6 d=some (.lst ys)/\ys.length < cD/\M (ys++[y]) σ4 (upd H6 d (.lst (ys++[y]))) else M ys σ4 H5)
  (hd:∀ys σ H,Pv l.length ys σ H->Q (.ref d) H):a2x J g ti te Q d σ0 H1:=by
 refine⟨fun i m ys σ H=>m=l.length - i/\i<=l.length/\Pv i ys σ H,⟨l.length,by simp,dI _,h0⟩,?_⟩
 rintro i m ys σ H ⟨rfl,hi,p⟩
 obtain⟨q,e⟩:=hl i ys σ H hi p;refine⟨e,?_⟩
 by_cases hlt:i < l.length
 ·exact .inr ⟨Z.go i H q hlt,fun x H' y=>hs i _ x ys σ H H' (fun ys' σ' H'=>∃m',m' < l.length - i/\(m'=l.length - (i+1)/\i+1<=l.length/\Pv (i+1) ys' σ' H')) (aC hlt) p (Z.yld i H x H' _ q y (aC hlt)) fun ys' σ' H' p'=>⟨l.length - (i+1),by omega,rfl,hlt,p'⟩⟩
 ·have e:i=l.length:=by omega
  subst e;exact .inl ⟨Z.stop H q,hd ys σ H p⟩
def TIt(K:Fg9)(m:M (List D)):TI:=fun σ H R=>∃tg F ρ l ρ',Good K tg F H ρ σ/\m ρ=some (.ok l,ρ')/\∀J H' F',Good K tg F' H' ρ' σ->Ext (Own ρ σ) (Own ρ' σ) F H F' H'->ItD K J l F'->R J H'
structure IT (K:Fg9) (X:Cx) (tgt iter:Expr) (m:M (List D)):Prop where
 go:X.K=K->PI X tgt iter (TIt K m)
instance {K:Fg9} {X:Cx} {tgt iter:Expr} {m:M (List D)}:CoeFun (IT K X tgt iter m) fun _=>X.K=K->PI X tgt iter (TIt K m):=⟨IT.go⟩
def abe(m:M D):M (List D):=m.bind fun d=>lift (itemsD d)
theorem aco{m:M D}(h:EV K X iter m):IT K X tgt iter (abe m):=IT.mk fun hk=>by
 intro zv s σ H R I ⟨tg,F,ρ,l,ρ',G,em,q⟩;obtain⟨d,ρ1,e1,em⟩:=bc em;obtain⟨e2,rfl⟩:=ie em;have h:=h hk;subst hk;cases d with
 | tup k =>
  cases e2;refine a0f h zv s σ H R I ⟨tg,F,ρ,_,_,G,e1,fun v H' F' G' x r =>?_⟩
  cases r with
  | @tup a vs _ e hl=>exact⟨a,rfl,⟨vs,SqT.of (G'.sub _ _ e)⟩,q _ H' F' G' x (.of hl (aue.imp fun H2 g=>SqT.of (g _ _ e)))⟩
 | lst k =>
  cases e2;refine ap0 h zv s σ H R I ⟨tg,F,ρ,_,_,G,e1,fun v H' F' G' x r =>?_⟩
  cases r with
  | @lst a vs _ e hl=>exact⟨a,rfl,⟨vs,SqL.of (G'.sub _ _ e)⟩,q _ H' F' G' x (.of hl (amu.imp fun H2 g=>SqL.of (g _ _ e)))⟩
 | kst k =>
  cases e2;refine ap0 h zv s σ H R I ⟨tg,F,ρ,_,_,G,e1,fun v H' F' G' x r =>?_⟩
  cases r with
  | @kst a vs _ e hl=>exact⟨a,rfl,⟨vs,L2.Same.seq G'.sub e⟩,q _ H' F' G' x (.of hl (amu.imp fun H2 g=>L2.Same.seq g e))⟩
 | _=>cases e2
noncomputable def jy(lo:Int)(n:Nat):List D:=(bG n).map fun i=>D.int (lo+(i:Nat))
theorem amb{F:Hp}(lo:Int)(n:Nat):IsL K F (jy lo n) (ups lo n):=by
 have e1:jy lo n=((bG n).map fun i=>lo+((i:Nat):Int)).map D.int:=by unfold jy;rw[fD];rfl
 have e2:ups lo n=((bG n).map fun i=>lo+((i:Nat):Int)).map V.int:=by unfold ups;rw[fD];rfl
 rw[e1,e2];exact afc _
theorem a2u{j:Int}(h:j.natAbs < 4611686018427387904) : -2 ^ 62<=j/\j < 2 ^ 62:=by
 have e:(2:Int) ^ 62=4611686018427387904:=by decide
 rw[e];omega
def uw:List D->Option (List D)
 | [.int j]=>if j.natAbs < 4611686018427387904 then some (jy 0 j.toNat) else none
 | _=>none
def ax5:List D->Option (List D)
 | [.int i,.int j]=>if i.natAbs < 4611686018427387904/\j.natAbs < 4611686018427387904 then some (jy i (j - i).toNat) else none
 | _=>none
def mGet{α β:Type}(g:α->Option β)(m:M α):M β:=m.bind fun ds=>lift (g ds)
theorem vh{m:M (List D)}(hg:Gl X "range")(hm:X.mg "range" = none)(h:ED K X [a] m)(hs:aW [a] X.env=[(false,eval a X.env)]:=by rfl):IT K X tgt (.Call (.Name "range" p) [a] [] pos) (mGet uw m):=IT.mk fun hk=>by
 intro zv s σ H R I ⟨tg,F,ρ,l,ρ',G,em,q⟩;obtain⟨ds,ρ1,e1,em⟩:=bc em;obtain⟨e2,rfl⟩:=ie em;refine apz hg hm (h hk) hs zv s σ H R I ⟨tg,F,ρ,ds,_,G,e1,fun vs H' F' G' x r =>?_⟩
 unfold uw at e2;split at e2
 ·split at e2
  ·rename_i j hc;cases e2;cases r with
   | cons h t =>
    cases t;cases h;exact⟨_,rfl,(a2u hc).1,(a2u hc).2,q _ H' F' G' x (.of (amb 0 _) (auf.imp fun _ _=>trivial))⟩
  ·cases e2
 ·cases e2
noncomputable def forD(b:D->Ro->Option Ro)(g:Sd):List D->Sd
 | [],ρ=>some (.nx,ρ)
 | d::ds,ρ=>match b d ρ with
  | none=>none
  | some ρ1=>match g ρ1 with
   | some (.nx,ρ2)=>forD b g ds ρ2
   | some (.cont,ρ2)=>forD b g ds ρ2
   | some (.brk,ρ2)=>some (.nx,ρ2)
   | some (.ret r,ρ2)=>some (.ret r,ρ2)
   | some (.exc x,ρ2)=>some (.exc x,ρ2)
   | none=>none
def dFor(m:M (List D))(b:D->Ro->Option Ro)(g:Sd):Sd:=dM m (forD b g)
theorem zr{m:M (List D)}{b:D->Ro->Option Ro}{g:Sd}(hp:tO (model X.prog X.w) X.A X.env X.xe)(hc:X.calm=true)(hi:IT K X tgt iter m)(hg:GV K X tgt b)(hb:SVs K X ss g)
  (hs:∀x,foldedSetIterable iter X.env x=pure x:=by intro _;rfl):SV K X (.For tgt iter ss [] pos) (dFor m b g):=SV.mk fun hk=>PS.imp (a0d hp hc (hi hk) (hg hk) (hb hk) hs) fun E σ H ⟨tg,F,ρ,fl,ρ',G,em,q⟩=>mj em q fun l ρ1 e1 em=>by
 refine⟨tg,F,ρ,l,ρ1,G,e1,fun J H1 F1 G1 x1 Z =>?_⟩
 refine ayl Z (fun i σ2 H2=>∃F2 ρ2,Good K tg F2 H2 ρ2 σ2/\Ext (Own ρ σ) (Own ρ2 σ2) F H F2 H2/\Same F1 F2/\forD b g (l.drop i) ρ2=some (fl,ρ')) ⟨F1,ρ1,G1,x1,Same.refl _,em⟩ (fun i σ2 H2 _ ⟨F2,ρ2,G2,_,s2,_⟩=>s2.trans G2.sub) ?_ ?_
 ·rintro i d x σ2 H2' H2 hd ⟨F2',ρ2,G2',x2',s2',em2⟩ al
  obtain⟨F2,G2,x2,s2,id,_⟩:=anf G2' x2' s2' al;have hlt:i < l.length:=(aN.mp hd).1;have ed:l[i]=d:=(aN.mp hd).2;rw[lU hlt,ed] at em2;unfold forD at em2;split at em2
  ·cases em2
  ·rename_i ρ3 e3;refine⟨tg,F2,ρ2,d,ρ3,G2,id,e3,fun σ3 H3 F3 G3 x3 =>?_⟩
   have again:∀{ρ4:Ro},forD b g (l.drop (i+1)) ρ4=some (fl,ρ')->∀σ' H' F',Good K tg F' H' ρ4 σ'->Ext (Own ρ3 σ3) (Own ρ4 σ') F3 H3 F' H' ->
     ∃F2 ρ2,Good K tg F2 H' ρ2 σ'/\Ext (Own ρ σ) (Own ρ2 σ') F H F2 H'/\Same F1 F2/\forD b g (l.drop (i+1)) ρ2=some (fl,ρ') :=
    fun{ρ4} e4 σ' H' F' G' x'=>⟨F',ρ4,G',(x2.trans x3).trans x',(s2.trans x3.sub).trans x'.sub,e4⟩
   split at em2
   ·rename_i ρ4 e4;exact⟨tg,F3,ρ3,.nx,ρ4,G3,e4,again em2⟩
   ·rename_i ρ4 e4;exact⟨tg,F3,ρ3,.cont,ρ4,G3,e4,again em2⟩
   ·rename_i ρ4 e4;cases em2;exact⟨tg,F3,ρ3,.brk,_,G3,e4,fun σ' H' F' G' x'=>q σ' H' F' G' ((x2.trans x3).trans x')⟩
   ·rename_i r ρ4 e4;cases em2;exact⟨tg,F3,ρ3,.ret r,_,G3,e4,fun v σ' H' F' G' x' rr=>q v σ' H' F' G' ((x2.trans x3).trans x') (n8 (x2.trans x3) rr)⟩
   ·cases em2;exact(show False from q).elim
   ·cases em2
 ·rintro σ2 H2 ⟨F2,ρ2,G2,x2,s2,em2⟩
  rw[tH (aM _)] at em2;cases em2;exact q σ2 H2 F2 G2 x2
noncomputable def whileD(c:M Bool)(g:Sd):Nat->Sd
 | 0,_=>none
 | n+1,ρ=>match c ρ with
  | some (.ok true,ρ1)=>match g ρ1 with
   | some (.nx,ρ2)=>whileD c g n ρ2
   | some (.cont,ρ2)=>whileD c g n ρ2
   | some (.brk,ρ2)=>some (.nx,ρ2)
   | some (.ret r,ρ2)=>some (.ret r,ρ2)
   | some (.exc x,ρ2)=>some (.exc x,ρ2)
   | none=>none
  | some (.ok false,ρ1)=>some (.nx,ρ1)
  | some (.exc x,ρ1)=>some (.exc x,ρ1)
  | none=>none
theorem ac8{m:M Bool}{g:Sd}(n:Nat)(hp:tO (model X.prog X.w) X.A X.env X.xe)(hc:ET K X c m)(hb:SVs K X ss g):SV K X (.While c ss [] pos) (whileD m g n):=SV.mk fun hk=>PS.imp (atg hp (hc hk) (hb hk)) fun E σ H hq0=>by
 obtain⟨tg,F,ρ,fl,ρ',G,em,q⟩:=hq0;refine⟨fun k σ2 H2=>∃F2 ρ2,Good K tg F2 H2 ρ2 σ2/\Ext (Own ρ σ) (Own ρ2 σ2) F H F2 H2/\whileD m g k ρ2=some (fl,ρ'),⟨n,F,ρ,G,Ext.refl _ _ _,em⟩,?_⟩
 rintro k σ2 H2 ⟨F2,ρ2,G2,x2,em2⟩
 cases k with
 | zero=>cases em2
 | succ k =>
  unfold whileD at em2;split at em2
  ·rename_i ρ3 e3;refine⟨tg,F2,ρ2,true,ρ3,G2,e3,fun H3 F3 G3 x3=>iteT ?_⟩
   refine⟨fun σ' H'=>∃F2 ρ2,Good K tg F2 H' ρ2 σ'/\Ext (Own ρ σ) (Own ρ2 σ') F H F2 H'/\whileD m g k ρ2=some (fl,ρ'),fun σ' H' h=>⟨k,gM k,h⟩,?_⟩
   split at em2
   ·rename_i ρ4 e4;exact⟨tg,F3,ρ3,.nx,ρ4,G3,e4,fun σ' H' F' G' x'=>⟨F',ρ4,G',(x2.trans x3).trans x',em2⟩⟩
   ·rename_i ρ4 e4;exact⟨tg,F3,ρ3,.cont,ρ4,G3,e4,fun σ' H' F' G' x'=>⟨F',ρ4,G',(x2.trans x3).trans x',em2⟩⟩
   ·rename_i ρ4 e4;cases em2;exact⟨tg,F3,ρ3,.brk,_,G3,e4,fun σ' H' F' G' x'=>q σ' H' F' G' ((x2.trans x3).trans x')⟩
   ·rename_i r ρ4 e4;cases em2;exact⟨tg,F3,ρ3,.ret r,_,G3,e4,fun v σ' H' F' G' x' rr=>q v σ' H' F' G' ((x2.trans x3).trans x') (n8 (x2.trans x3) rr)⟩
   ·cases em2;exact(show False from q).elim
   ·cases em2
  ·rename_i ρ3 e3;cases em2;exact⟨tg,F2,ρ2,false,_,G2,e3,fun H3 F3 G3 x3=>iteF (q σ2 H3 F3 G3 (x2.trans x3))⟩
  ·cases em2;exact(show False from q).elim
  ·cases em2
end
def ajv(ρ:Ro)(i:Nat)(o:Option Nat)(d:Option D):Sl:=match o with
 | some j=>match ρ[j]? with
  | some (.val d)=>.val d
  | some (.own _ l)=>.own (some i) l
  | _=>.emp
 | none=>match d with
  | some d=>.val d
  | none=>.emp
def lend(ρ:Ro)(js:List (Option Nat))(ds:List (Option D)):Ro:=(sX js ds).mapIdx fun i p=>ajv ρ i p.1 p.2
noncomputable def okJs(ρ:Ro):List (Option Nat)->Bool
 | []=>true
 | none::r=>okJs ρ r
 | some j::r=>(match ρ[j]? with
  | some (.own _ _) => !r.contains (some j)
  | _=>true)&&okJs ρ r
theorem aic{ρ:Ro}:∀{js:List (Option Nat)} {i i' j:Nat} {t:Option Nat} {l:List D},okJs ρ js=true->js[i]? = some (some j)->js[i']? = some (some j)->ρ[j]? = some (.own t l)->i=i'
 | [],_,_,_,_,_,_,h,_,_=>by simp at h
 | o::r,0,0,_,_,_,_,_,_,_=>rfl
 | o::r,0,i'+1,j,t,l,hk,h,h',e=>by
  simp at h h';subst h;unfold okJs at hk;rw[e,bF] at hk;have:=cC h';simp[this] at hk
 | o::r,i+1,0,j,t,l,hk,h,h',e=>by
  simp at h h';subst h';unfold okJs at hk;rw[e,bF] at hk;have:=cC h;simp[this] at hk
 | none::r,i+1,i'+1,j,t,l,hk,h,h',e=>by
  rw[aic (js:=r) (i:=i) (i':=i') (j:=j) (by unfold okJs at hk;exact hk) (by simpa using h) (by simpa using h') e]
 | some k::r,i+1,i'+1,j,t,l,hk,h,h',e=>by
  unfold okJs at hk;rw[bF] at hk;rw[aic (js:=r) (i:=i) (i':=i') (j:=j) hk.2 (by simpa using h) (by simpa using h') e]
noncomputable def putS(js:List (Option Nat))(ps:Ro)(j:Nat)(s:Sl):Sl:=match js.findIdx? (fun o=>o==some j) with
 | none=>s
 | some i=>match s with
  | .own t _=>match ps[i]? with
   | some (.own (some i') l')=>if i'=i then .own t l' else .emp
   | _=>.emp
  | s=>s
def putB(ρ:Ro)(js:List (Option Nat))(ps:Ro):Ro:=ρ.mapIdx fun j s=>putS js ps j s
noncomputable def tgOf(τ:L2.St)(i:Nat):Addr:=match τ[i]? with
 | some (some (.ref a))=>a
 | _=>0
section
variable{K:Fg9}{tg:Nat->Addr}{F H F' H':Hp}{ρ ps:Ro}{σ τ:L2.St}{js:List (Option Nat)}{ds:List (Option D)}{O':Addr->Prop}
theorem amq{i:Nat}{s:Sl}(h:(lend ρ js ds:List Sl)[i]? = some s):∃o d,js[i]? = some o/\ds[i]? = some d/\s=ajv ρ i o d:=by
 unfold lend at h;rw[oH] at h;cases e:(sX js ds)[i]? with
 | none=>rw[e] at h;cases h
 | some p =>
  rw[e] at h;cases h;rw[rQ] at e;exact⟨p.1,p.2,e.1,e.2,rfl⟩
theorem at7{i:Nat}{t:Option Nat}{l:List D}(h:(lend ρ js ds:List Sl)[i]? = some (.own t l)):∃j t',js[i]? = some (some j)/\ρ[j]? = some (.own t' l)/\t=some i:=by
 obtain⟨o,d,e1,e2,e3⟩:=amq h;unfold ajv at e3;cases o with
 | none=>cases d <;> cases e3
 | some j =>
  simp only at e3;cases e:ρ[j]? with
  | none=>rw[e] at e3;cases e3
  | some s =>
   rw[e] at e3;cases s with
   | emp=>cases e3
   | val _=>cases e3
   | box _ _=>cases e3
   | own t' l'=>cases e3;exact⟨j,t',e1,e,rfl⟩
structure Lent (K:Fg9) (F:Hp) (σ τ:L2.St) (js:List (Option Nat)) (ds:List (Option D)):Prop where
 l1:τ.length=js.length
 l2:ds.length=js.length
 h1:∀(i j:Nat) (o:Option V),js[i]? = some (some j)->σ[j]? = some o->τ[i]? = some o
 h2:∀(i:Nat) (d:D),js[i]? = some none->ds[i]? = some (some d)->∃v,τ[i]? = some (some v)/\Is K F d v
theorem Good.σ_at(G:Good K tg F H ρ σ){j:Nat}{s:Sl}(e:(ρ:List Sl)[j]? = some s):∃o,σ[j]? = some o:=by
 obtain⟨o,h,_⟩:=G.at e;exact⟨o,h⟩
theorem ab8(G:Good K tg F H ρ σ)(L:Lent K F σ τ js ds){i:Nat}{a:Addr}(h:Owns (lend ρ js ds) τ i a):∃j,js[i]? = some (some j)/\Owns ρ σ j a:=by
 obtain⟨⟨t,l,e⟩,q⟩:=h;obtain⟨j,t',e1,e2,_⟩:=at7 e;obtain⟨o,ho⟩:=G.σ_at e2;have:=L.h1 i j o e1 ho;rw[q] at this;cases this;exact⟨j,e1,⟨t',l,e2⟩,ho⟩
theorem ado(G:Good K tg F H ρ σ)(hk:okJs ρ js=true)(L:Lent K F σ τ js ds):Good K (tgOf τ) F H (lend ρ js ds) τ where
 sub:=G.sub
 len:=by
  unfold lend;rw[uQ,qW,L.l2,L.l1];omega
 sl:=fun i s o e q=>by
  obtain⟨oj,d,e1,e2,rfl⟩:=amq e;unfold ajv;cases oj with
  | none =>
   cases d with
   | none=>trivial
   | some d =>
    obtain⟨v,h1,h2⟩:=L.h2 i d e1 e2;rw[q] at h1;cases h1;exact⟨v,rfl,h2⟩
  | some j =>
   simp only;cases e3:ρ[j]? with
   | none=>trivial
   | some s =>
    obtain⟨o',ho,w⟩:=G.at e3;have:=L.h1 i j o' e1 ho;rw[q] at this;cases this;cases s with
    | emp=>trivial
    | val d=>exact w
    | box _ _=>trivial
    | own t l =>
     obtain⟨a,vs,rfl,hf,hh,hl,_⟩:=w;refine⟨a,vs,rfl,hf,hh,hl,fun k e =>?_⟩
     cases e;unfold tgOf;rw[q]
 inj:=fun i i' a w w'=>by
  obtain⟨j,e,v⟩:=ab8 G L w;obtain⟨j',e',v'⟩:=ab8 G L w';have:=G.inj j j' a v v';subst this;obtain⟨⟨t,l,z⟩,_⟩:=v;exact aic hk e e' z
structure Fin (K:Fg9) (F' H':Hp) (τ:L2.St) (ps:Ro) (O':Addr->Prop):Prop where
 at':∀(i:Nat) (l:List D),(ps:List Sl)[i]? = some (.own (some i) l)->O' (tgOf τ i)/\F' (tgOf τ i)=none/\∃vs,H' (tgOf τ i)=some (.lst vs)/\IsL K F' l vs
theorem ah1{j:Nat}{s:Sl}(h:(putB ρ js ps:List Sl)[j]? = some s):∃s0:Sl,(ρ:List Sl)[j]? = some s0/\((∃t l,s0=Sl.own t l/\∃i:Nat,js[i]? = some (some j)/\((∃l',(ps:List Sl)[i]? = some (Sl.own (some i) l')/\s=Sl.own t l')∨s=Sl.emp)) ∨
  (s=s0/\∀t l,s0=Sl.own t l->∀i:Nat,js[i]? ≠ some (some j))):=by
 unfold putB at h;rw[oH] at h;cases e:(ρ:List Sl)[j]? with
 | none=>rw[e] at h;cases h
 | some s0 =>
  rw[e] at h;refine⟨s0,rfl,?_⟩;have h:putS js ps j s0=s:=bW h;unfold putS at h;cases ei:js.findIdx? (fun o=>o==some j) with
  | none =>
   rw[ei] at h;have h:s0=s:=h;refine .inr ⟨h.symm,fun _ _ _ i z =>?_⟩
   rw[rR] at ei;have:=ei _ (cC z);simp at this
  | some i =>
   rw[ei] at h;cases s0 with
   | emp=>exact .inr ⟨(show Sl.emp=s from h).symm,fun t l z=>by cases z⟩
   | val d=>exact .inr ⟨(show Sl.val d=s from h).symm,fun t l z=>by cases z⟩
   | box c fs=>exact .inr ⟨(show Sl.box c fs=s from h).symm,fun t l z=>by cases z⟩
   | own t l =>
    refine .inl ⟨t,l,rfl,i,?_,?_⟩
    ·obtain⟨hi,hb,_⟩:=pB.mp ei;rw[aC hi];exact congrArg some (eq_of_beq hb)
    ·have h:(match (ps:List Sl)[i]? with
      | some (.own (some i') l')=>if i'=i then Sl.own t l' else .emp
      | _=>.emp)=s:=h
     cases ep:(ps:List Sl)[i]? with
     | none=>rw[ep] at h;exact .inr h.symm
     | some sp =>
      rw[ep] at h;cases sp with
      | emp=>exact .inr h.symm
      | val _=>exact .inr h.symm
      | box _ _=>exact .inr h.symm
      | own t' l' =>
       cases t' with
       | none=>exact .inr h.symm
       | some i' =>
        have h2:(if i'=i then Sl.own t l' else .emp)=s:=h
        by_cases z:i'=i
        ·subst z;rw[if_pos rfl] at h2;exact .inl ⟨l',rfl,h2.symm⟩
        ·rw[if_neg z] at h2;exact .inr h2.symm
theorem aci{j:Nat}{a:Addr}(h:Owns (putB ρ js ps) σ j a):Owns ρ σ j a:=by
 obtain⟨⟨t,l,e⟩,q⟩:=h;obtain⟨s0,e0,h | ⟨rfl,_⟩⟩:=ah1 e
 ·obtain⟨t',l',rfl,i,_,⟨l2,_,z⟩ | z⟩:=h
  ·exact⟨⟨t',l',e0⟩,q⟩
  ·cases z
 ·exact⟨⟨t,l,e0⟩,q⟩
theorem ad0(G:Good K tg F H ρ σ)(L:Lent K F σ τ js ds)(x:Ext (Own (lend ρ js ds) τ) O' F H F' H')(s':Same F' H')(fin:Fin K F' H' τ ps O'):Good K tg F' H' (putB ρ js ps) σ where
 sub:=s'
 len:=by
  unfold putB;rw[uQ];exact G.len
 sl:=fun j s o e q=>by
  obtain⟨s0,e0,h | ⟨rfl,hn⟩⟩:=ah1 e
  ·obtain⟨t,l,rfl,i,ei,⟨l',ep,rfl⟩ | rfl⟩:=h
   ·obtain⟨a,vs,rfl,hf,hh,hl,ht⟩:=G.sl j _ _ e0 q;obtain⟨_,hf',ws,hh',hl'⟩:=fin.at' i l' ep;have:=L.h1 i j _ ei q;have et:tgOf τ i=a:=by
     unfold tgOf;rw[this]
    rw[et] at hf' hh';exact⟨a,ws,rfl,hf',hh',hl',ht⟩
   ·trivial
  ·have w:=G.sl j _ _ e0 q;cases s with
   | emp=>trivial
   | val d =>
    obtain⟨v,h1,h2⟩:=w;exact⟨v,h1,h2.mono x.sub⟩
   | box c fs =>
    obtain⟨a,C,dx,fvs,e1,e2,e3,e4,e7,e5,e6⟩:=w;have no:¬Own (lend ρ js ds) τ a:=fun⟨i,z⟩=>by
     obtain⟨j',_,v⟩:=ab8 G L z;obtain⟨_,vs,hv⟩:=G.ownAt ⟨j',v⟩;rw[e3] at hv;cases hv
    have hf:F' a=none:=by
     cases z:F' a with
     | none=>rfl
     | some o =>
      rcases x.new a o z with z | z | z
      ·rw[e2] at z;cases z
      ·rw[e3] at z;cases z
      ·exact absurd z no
    exact⟨a,C,dx,fvs,e1,hf,x.keep a _ e3 no,e4,e7,e5,fun f d h=>(e6 f d h).imp fun v h=>⟨h.1,h.2.mono x.sub⟩⟩
   | own t l =>
    obtain⟨a,vs,rfl,hf,hh,hl,ht⟩:=w;have no:¬Own (lend ρ js ds) τ a:=fun⟨i,z⟩=>by
     obtain⟨j',e1,v⟩:=ab8 G L z;have:=G.inj j' j a v ⟨⟨t,l,e0⟩,q⟩;subst this;exact hn t l rfl i e1
    refine⟨a,vs,rfl,?_,x.keep a _ hh no,hl.mono x.sub,ht⟩;cases z:F' a with
    | none=>rfl
    | some o =>
     rcases x.new a o z with z | z | z
     ·rw[hf] at z;cases z
     ·rw[hh] at z;cases z
     ·exact absurd z no
 inj:=fun i j a w w'=>G.inj i j a (aci w) (aci w')
theorem aay(G:Good K tg F H ρ σ)(L:Lent K F σ τ js ds){a:Addr}(h:Own (lend ρ js ds) τ a):Own ρ σ a:=by
 obtain⟨i,h⟩:=h;obtain⟨j,_,h⟩:=ab8 G L h;exact⟨j,h⟩
theorem afe(G:Good K tg F H ρ σ)(L:Lent K F σ τ js ds)(x:Ext (Own (lend ρ js ds) τ) O' F H F' H'):Ext (Own ρ σ) (Own (putB ρ js ps) σ) F H F' H' where
 sub:=x.sub
 new:=fun a o e=>by
  rcases x.new a o e with z | z | z
  ·exact .inl z
  ·exact .inr (.inl z)
  ·exact .inr (.inr (aay G L z))
 keep:=fun a o e n=>x.keep a o e fun z=>n (aay G L z)
 own:=fun a ⟨j,w⟩=>.inl ⟨j,aci w⟩
 there:=x.there
theorem asb(G:Good K tg F H ρ σ)(L:Lent K F σ τ js ds)(fin:Fin K F' H' τ ps O'){a:Addr}(ha:H a=none∨Own (lend ρ js ds) τ a)(hn:¬O' a):¬Own (putB ρ js ps) σ a:=fun⟨j,w⟩=>by
 have v:=aci w;obtain⟨⟨t,l2,e⟩,q⟩:=w;obtain⟨s0,e0,z | ⟨rfl,hno⟩⟩:=ah1 e
 ·obtain⟨t',l',rfl,i,ei,⟨l3,ep,z⟩ | z⟩:=z
  ·have et:tgOf τ i=a:=by
    unfold tgOf;rw[L.h1 i j _ ei q]
   have:=(fin.at' i l3 ep).1;rw[et] at this;exact hn this
  ·cases z
 ·rcases ha with ha | ⟨i,z⟩
  ·obtain⟨a',vs',ea,_,e2,_⟩:=G.sl j _ _ e0 q;cases ea;rw[ha] at e2;cases e2
  ·obtain⟨j',e1,v'⟩:=ab8 G L z;have:=G.inj j' j a v' v;subst this;exact hno t l2 rfl i e1
theorem air(G:Good K tg F H ρ σ)(L:Lent K F σ τ js ds)(fin:Fin K F' H' τ ps O'){r:Rv}{v:V}(h:relR K r v H (Own (lend ρ js ds) τ) F' H' O'):relR K r v H (Own ρ σ) F' H' (Own (putB ρ js ps) σ):=by
 cases r with
 | v d=>exact h
 | fr l =>
  obtain⟨a,vs,rfl,ha,hf,hh,hl,hn⟩:=h;exact⟨a,vs,rfl,ha.imp id (aay G L),hf,hh,hl,asb G L fin ha hn⟩
 | tf d l =>
  obtain⟨t,u,a,vs,rfl,ht,hd,ha,hf,hh,hl,hn⟩:=h;exact⟨t,u,a,vs,rfl,ht,hd,ha.imp id (aay G L),hf,hh,hl,asb G L fin ha hn⟩
end
abbrev Fd:=Ro->Option (Out Rv×Ro)
noncomputable def fnD(nl np:Nat)(g:Sd):Fd:=fun as=>match g (as++aD (nl - np) .emp) with
 | some (.ret r,ρ)=>some (.ok r,ρ.take np)
 | some (.nx,ρ)=>some (.ok (.v .non),ρ.take np)
 | some (.exc x,ρ)=>some (.exc x,ρ.take np)
 | _=>none
def spOf(K:Fg9)(n:Nat)(f:Fd):Sp:=fun vs H Q _=>vs.length=n/\∃F as r ps,Good K (tgOf (vs.map some)) F H as (vs.map some)/\f as=some (.ok r,ps) /\
 ∀v H' F' O',Same F' H'->Ext (Own as (vs.map some)) O' F H F' H'->Fin K F' H' (vs.map some) ps O'->relR K r v H (Own as (vs.map some)) F' H' O'->Q v H'
section
variable{K:Fg9}
theorem axf{as:Ro}{τ:L2.St}{n:Nat}{a:Addr}(hl:as.length=τ.length)(h:Own (as++aD n .emp) (τ++aD n none) a):Own as τ a:=by
 obtain⟨i,⟨t,l,e⟩,q⟩:=h
 by_cases hi:i < as.length
 ·rw[bB hi] at e;rw[bB (by omega)] at q
  exact⟨i,⟨t,l,e⟩,q⟩
 ·rw[cJ (by omega),eH] at e
  split at e <;> cases e
theorem atp{as:Ro}{τ:L2.St}{n:Nat}{a:Addr}(hl:as.length=τ.length)(h:Own as τ a):Own (as++aD n .emp) (τ++aD n none) a:=by
 obtain⟨i,⟨t,l,e⟩,q⟩:=h;have hi:=(aN.mp e).1;exact⟨i,⟨t,l,by rw[bB hi];exact e⟩,by rw[bB (by omega)];exact q⟩
theorem aad{as:Ro}{τ:L2.St}{n:Nat}(hl:as.length=τ.length):Own (as++aD n .emp) (τ++aD n none)=Own as τ:=funext fun a=>propext ⟨axf hl,atp hl⟩
theorem Good.app{tg:Nat->Addr}{F H:Hp}{as:Ro}{τ:L2.St}(G:Good K tg F H as τ)(n:Nat):Good K tg F H (as++aD n .emp) (τ++aD n none) where
 sub:=G.sub
 len:=by rw[bM,bM,G.len,bY,bY]
 sl:=fun i s o e q=>by
  have hl:=G.len
  by_cases hi:i < as.length
  ·rw[bB hi] at e;rw[bB (by omega)] at q
   exact G.sl i s o e q
  ·rw[cJ (by omega),eH] at e
   split at e
   ·cases e;trivial
   ·cases e
 inj:=fun i j a w w'=>by
  have hl:=G.len;have f:∀k,Owns (as++aD n .emp) (τ++aD n none) k a->Owns as τ k a:=fun k ⟨⟨t,l,e⟩,q⟩=>by
   by_cases hi:k < as.length
   ·rw[bB hi] at e;rw[bB (by omega)] at q
    exact⟨⟨t,l,e⟩,q⟩
   ·rw[cJ (by omega),eH] at e
    split at e <;> cases e
  exact G.inj i j a (f i w) (f j w')
theorem a7i{P:aZ}{w:World}{mg:Str->Option Value}{base:Heap}{x qual:Str}{st:Stmt}{f:Addr}{fd:fM}{N ps:List Str}{k:Nat}{g:Sd}(F:Fun K x qual st f fd)(S:FnScope N ps (aj st))
  (body:∀(cdv:Value) (A:cI) (outer:List Env) (s:aJ) (H:Hp) (E:XK),Room k (A.deeper (nG qual (aj st) s.heap.objs.size f cdv))->SVs K (cxOf CX0 P w K mg base N qual (aj st) f cdv A outer s H E).nox (dh st) g) :
  FnOk P w K mg base CX0 (k+1) f fd ps (spOf K ps.length (fnD N.length ps.length g)):=by
 refine F.ok S (fun vs H Q E h=>h.1) (fun cdv A outer s H vs Q E hr h=>⟨_,body cdv A outer s H E hr rfl,?_⟩)
 obtain⟨hn,F,as,r,ps',G,em,q⟩:=h;have hl:as.length=(vs.map some).length:=G.len;have G1:=G.app (N.length - vs.length);have es:start N vs=vs.map some++aD (N.length - vs.length) none:=rfl;rw[es];unfold fnD at em;rw[<-hn] at em;have fin:∀{ρ':Ro} {σ':L2.St} {F' H':Hp},Good K (tgOf (vs.map some)) F' H' ρ' σ'->Fin K F' H' (vs.map some) (ρ'.take vs.length) (Own ρ' σ'):=fun{ρ' σ' F' H'} G'=>⟨fun i l e=>by
  have hi:=(aN.mp e).1;rw[gB] at hi;rw[gW (by omega)] at e
  obtain⟨o,ho,a,ws,rfl,hf,hh,hl,ht⟩:=G'.at e;rw[ht i rfl];exact⟨⟨i,⟨_,_,e⟩,ho⟩,hf,ws,hh,hl⟩⟩
 split at em
 ·rename_i r' ρ' e;cases em;refine⟨_,F,_,.ret r,ρ',G1,e,fun v σ' H' F' G' x' rr =>?_⟩
  rw[aad hl] at x' rr;exact q v H' F' (Own ρ' σ') G'.sub x' (fin G') rr
 ·rename_i ρ' e;cases em;refine⟨_,F,_,.nx,ρ',G1,e,fun σ' H' F' G' x' =>?_⟩
  rw[aad hl] at x';exact q .non H' F' (Own ρ' σ') G'.sub x' (fin G') .non
 ·cases em
 ·cases em
end
section
variable{K:Fg9}{X:Cx}{e a b c tgt iter elt:Expr}{es:List Expr}{pos p p2:Pos}
inductive AR (K:Fg9) (F:Hp) (σ:L2.St):List (Option Nat)->List (Option D)->List V->Prop
 | nil:AR K F σ [] [] []
 | ex {d:D} {v:V} {js:List (Option Nat)} {ds:List (Option D)} {vs:List V} (h:Is K F d v) (t:AR K F σ js ds vs):AR K F σ (none::js) (some d::ds) (v::vs)
 | nm {j:Nat} {v:V} {js:List (Option Nat)} {ds:List (Option D)} {vs:List V} (h:σ[j]? = some (some v)) (t:AR K F σ js ds vs):AR K F σ (some j::js) (none::ds) (v::vs)
theorem AR.lent{F:Hp}{σ:L2.St}:∀{js:List (Option Nat)} {ds:List (Option D)} {vs:List V},AR K F σ js ds vs->Lent K F σ (vs.map some) js ds
 | _,_,_,.nil=>⟨rfl,rfl,fun i j o h=>by simp at h,fun i d h=>by simp at h⟩
 | _,_,_,.ex h t=>by
  have L:=t.lent;refine⟨by simp[by simpa using L.l1],by simp[L.l2],fun i j o h q =>?_,fun i d h q =>?_⟩
  ·cases i with
   | zero=>simp at h
   | succ i=>simpa using L.h1 i j o (by simpa using h) q
  ·cases i with
   | zero=>simp at q;subst q;exact⟨_,rfl,‹_›⟩
   | succ i=>simpa using L.h2 i d (by simpa using h) (by simpa using q)
 | _,_,_,.nm h t=>by
  have L:=t.lent;refine⟨by simp[by simpa using L.l1],by simp[L.l2],fun i j o h' q =>?_,fun i d h' q =>?_⟩
  ·cases i with
   | zero =>
    simp at h';subst h';rw[h] at q;cases q;rfl
   | succ i=>simpa using L.h1 i j o (by simpa using h') q
  ·cases i with
   | zero=>simp at h'
   | succ i=>simpa using L.h2 i d (by simpa using h') (by simpa using q)
theorem AR.length{F:Hp}{σ:L2.St}{js:List (Option Nat)}{ds:List (Option D)}{vs:List V}(h:AR K F σ js ds vs):vs.length=js.length:=by
 have:=h.lent.l1
 simpa using this
theorem AR.mono{F F':Hp}{σ:L2.St}(g:Same F F'):∀{js:List (Option Nat)} {ds:List (Option D)} {vs:List V},AR K F σ js ds vs->AR K F' σ js ds vs
 | _,_,_,.nil=>.nil
 | _,_,_,.ex h t=>.ex (h.mono g) (t.mono g)
 | _,_,_,.nm h t=>.nm h (t.mono g)
def TAg(K:Fg9)(js:List (Option Nat))(m:M (List (Option D))):TA:=fun σ H Q=>∃tg F ρ ds ρ',Good K tg F H ρ σ/\m ρ=some (.ok ds,ρ')/\∀vs H' F',Good K tg F' H' ρ' σ->Ext (Own ρ σ) (Own ρ' σ) F H F' H'->AR K F' σ js ds vs->Q vs H'
structure EG (K:Fg9) (X:Cx) (es:List Expr) (js:List (Option Nat)) (m:M (List (Option D))):Prop where
 go:X.K=K->PA X es (TAg K js m)
instance {K:Fg9} {X:Cx} {es:List Expr} {js:List (Option Nat)} {m:M (List (Option D))}:CoeFun (EG K X es js m) fun _=>X.K=K->PA X es (TAg K js m):=⟨EG.go⟩
def gr:M (List (Option D)):=ret []
def bf(m:M D)(ms:M (List (Option D))):M (List (Option D)):=m.bind fun d=>ms.bind fun ds=>ret (some d::ds)
def bw(j:Nat)(ms:M (List (Option D))):M (List (Option D)):=(gj j).bind fun _=>ms.bind fun ds=>ret (none::ds)
theorem dq:EG K X [] [] gr:=EG.mk fun _=>PA.imp afu fun σ H Q hq0=>by
 obtain⟨tg,F,ρ,ds,ρ',G,em,q⟩:=hq0;obtain⟨rfl,rfl⟩:=mz em;exact q [] H F G (Ext.refl _ _ _) .nil
theorem eg_v{m:M D}{js:List (Option Nat)}{ms:M (List (Option D))}(h:EV K X e m)(t:EG K X es js ms)(hs:aW (e::es) X.env=(false,eval e X.env)::aW es X.env:=by rfl):EG K X (e::es) (none::js) (bf m ms):=EG.mk fun hk=>PA.imp (ut (h hk) (t hk) hs) fun σ H Q hq0=>by
 obtain⟨tg,F,ρ,ds,ρ',G,em,q⟩:=hq0;obtain⟨d,ρ1,e1,em⟩:=bc em;obtain⟨r,ρ2,e2,em⟩:=bc em;obtain⟨rfl,rfl⟩:=mz em;exact⟨tg,F,ρ,d,ρ1,G,e1,fun v H1 F1 G1 x1 r1=>⟨tg,F1,ρ1,r,_,G1,e2,fun vs H2 F2 G2 x2 r2=>q _ H2 F2 G2 (x1.trans x2) (.ex (r1.mono x2.sub) r2)⟩⟩
theorem eg_n{j:Nat}{js:List (Option Nat)}{ms:M (List (Option D))}(h:PE X e (tVar j))(t:EG K X es js ms)(hs:aW (e::es) X.env=(false,eval e X.env)::aW es X.env:=by rfl):EG K X (e::es) (some j::js) (bw j ms):=EG.mk fun hk=>PA.imp (ut h (t hk) hs) fun σ H Q hq0=>by
 obtain⟨tg,F,ρ,ds,ρ',G,em,q⟩:=hq0;obtain⟨d0,ρ0,e0,em⟩:=bc em;obtain⟨r,ρ2,e2,em⟩:=bc em;obtain⟨rfl,rfl⟩:=mz em;obtain⟨rfl,v,hv,_⟩:=qm G e0;exact⟨v,hv,tg,F,ρ0,r,_,G,e2,fun vs H2 F2 G2 x2 r2=>q _ H2 F2 G2 x2 (.nm hv r2)⟩
noncomputable def mFn(f:Fd)(js:List (Option Nat))(ms:M (List (Option D))):M Rv:=ms.bind fun ds ρ=>if okJs ρ js=true then match f (lend ρ js ds) with
  | some (.ok r,ps)=>some (.ok r,putB ρ js ps)
  | some (.exc x,ps)=>some (.exc x,putB ρ js ps)
  | none=>none
 else none
theorem a07{f:Fd}{js:List (Option Nat)}{ms:M (List (Option D))}{ρ ρ':Ro}{r:Rv}(h:mFn f js ms ρ=some (.ok r,ρ')):∃ds ρ1 ps,ms ρ=some (.ok ds,ρ1)/\okJs ρ1 js=true/\f (lend ρ1 js ds)=some (.ok r,ps)/\ρ'=putB ρ1 js ps:=by
 obtain⟨ds,ρ1,e1,em⟩:=bc h;have em:(if okJs ρ1 js=true then match f (lend ρ1 js ds) with
  | some (.ok r,ps)=>some (Out.ok r,putB ρ1 js ps)
  | some (.exc x,ps)=>some (.exc x,putB ρ1 js ps)
  | none=>none
  else none)=some (.ok r,ρ'):=em
 split at em
 ·rename_i hk;split at em
  ·rename_i r' ps e2;cases em;exact⟨ds,ρ1,ps,e1,hk,e2,rfl⟩
  ·cases em
  ·cases em
 ·cases em
theorem jg{f:Fd}{n k:Nat}{x:Str}{pn:List Str}{js:List (Option Nat)}{ms:M (List (Option D))}(F:Dfn X.prog X.w X.K X.mg X.base x pn k (spOf K n f))(hr:Room k X.A)(hg:Gl X x)(ha:EG K X (e::es) js ms)(hn:js.length=n:=by rfl)(hdb:(x==("__debug__" : Str))=false:=by decide)
  (he:aW (e::es) X.env=(false,eval e X.env)::aW es X.env:=by rfl) (hpl:(jA pos (aW es X.env)).any (·.1)=false:=by rfl):ER K X (.Call (.Name x p) (e::es) [] pos) (mFn f js ms):=ER.mk fun hk=>PE.imp (a5m F hr hg (ha hk) hdb he hpl) fun σ H Q hq0=>by
 obtain⟨tg,F,ρ,r,ρ',G,em,q⟩:=hq0;obtain⟨ds,ρ1,ps,e1,hj,e2,rfl⟩:=a07 em;refine⟨tg,F,ρ,ds,ρ1,G,e1,fun vs H1 F1 G1 x1 ar =>?_⟩
 have L:=ar.lent;show spOf K n f (vs++[]) H1 Q E0;rw[cZ];refine⟨by rw[ar.length];exact hn,F1,_,r,ps,ado G1 hj L,e2,fun v H' F' O' s' x' fin rr =>?_⟩
 exact q v H' F' (ad0 G1 L x' s' fin) (x1.trans (afe G1 L x')) (n8 x1 (air G1 L fin rr))
structure EIf (K:Fg9) (X:Cx) (ifs:List Expr) (m:M Bool):Prop where
 go:X.K=K->PIf X ifs (TB K m)
instance {K:Fg9} {X:Cx} {ifs:List Expr} {m:M Bool}:CoeFun (EIf K X ifs m) fun _=>X.K=K->PIf X ifs (TB K m):=⟨EIf.go⟩
theorem uy:EIf K X [] (ret true):=EIf.mk fun _ zv s σ H Q I hq0=>by
 obtain⟨tg,F,ρ,k,ρ',G,em,q⟩:=hq0;obtain⟨rfl,rfl⟩:=mz em;exact aw1 zv s σ H Q I (q H F G (Ext.refl _ _ _))
theorem agm{m:M Bool}(h:ET K X c m):EIf K X [c] m:=EIf.mk fun hk=>aw0 (h hk)
noncomputable def compD(b:D->Ro->Option Ro)(mc:M Bool)(me:M D):List D->List D->M (List D)
 | [],ys=>ret ys
 | d::ds,ys=>fun ρ=>match b d ρ with
  | none=>none
  | some ρ1=>(mc.bind fun k=>if k=true then me.bind fun y=>compD b mc me ds (ys++[y]) else compD b mc me ds ys) ρ1
theorem agq{b:D->Ro->Option Ro}{mc:M Bool}{me:M D}:∀{l ys yf:List D} {ρ ρ':Ro},compD b mc me l ys ρ=some (.ok yf,ρ')->ys.length<=yf.length
 | [],ys,yf,ρ,ρ',h=>by
  obtain⟨rfl,_⟩:=mz (show ret ys ρ=_ from h)
  exact aM _
 | d::ds,ys,yf,ρ,ρ',h=>by
  unfold compD at h;split at h
  ·cases h
  ·obtain⟨k,ρ2,e2,h⟩:=bc h;split at h
   ·obtain⟨y,ρ3,e3,h⟩:=bc h;have:=agq h;rw[bM] at this;omega
   ·exact agq h
def xj(src:List (Option Nat))(mi:M (List D))(b:D->Ro->Option Ro)(mc:M Bool)(me:M D):M Rv:=mi.bind fun l ρ=>if okJs ρ src=true then match compD b mc me l [] (lend ρ src (src.map fun _=>none)) with
  | some (.ok ys,ps)=>if ys.length<=capS then some (.ok (.fr ys),putB ρ src ps) else none
  | some (.exc x,ps)=>some (.exc x,putB ρ src ps)
  | none=>none
 else none
theorem at5{src:List (Option Nat)}{mi:M (List D)}{b:D->Ro->Option Ro}{mc:M Bool}{me:M D}{ρ ρ':Ro}{r:Rv}(h:xj src mi b mc me ρ=some (.ok r,ρ')):∃l ρ1 ys ps,mi ρ=some (.ok l,ρ1)/\okJs ρ1 src=true/\compD b mc me l [] (lend ρ1 src (src.map fun _=>none))=some (.ok ys,ps)/\ys.length<=capS/\r=.fr ys/\ρ'=putB ρ1 src ps:=by
 obtain⟨l,ρ1,e1,em⟩:=bc h;have em:(if okJs ρ1 src=true then match compD b mc me l [] (lend ρ1 src (src.map fun _=>none)) with
  | some (.ok ys,ps)=>if ys.length<=capS then some (Out.ok (Rv.fr ys),putB ρ1 src ps) else none
  | some (.exc x,ps)=>some (.exc x,putB ρ1 src ps)
  | none=>none
  else none)=some (.ok r,ρ'):=em
 split at em
 ·rename_i hk;split at em
  ·rename_i ys ps e2;split at em
   ·rename_i hz;cases em;exact⟨l,ρ1,ys,ps,e1,hk,e2,hz,rfl,rfl⟩
   ·cases em
  ·cases em
  ·cases em
 ·cases em
theorem apx{F:Hp}{σ:L2.St}(src:List (Option Nat)):Lent K F σ (pick src σ) src (src.map fun _=>none):=by
 refine⟨by simp[pick],by simp,fun i j o h q =>?_,fun i d h q =>?_⟩
 ·unfold pick;rw[aO,h];show some ((σ[j]?).bind id)=some o;rw[q];rfl
 ·rw[aO,h] at q;cases q
theorem Ext.upd{O O':Addr->Prop}{F H F' H':Hp}{d:Addr}{o:HO}(x:Ext O O' F H F' H')(h:H d=none):Ext O O' F H F' (upd H' d o) :=
 ⟨x.sub,x.new,fun a u e n=>by rw[di (jb e h)];exact x.keep a u e n,x.own,fun a e=>by
  by_cases ha:a=d
  ·subst ha;exact h
  ·rw[di ha] at e;exact x.there a e⟩
theorem Good.upd{tg:Nat->Addr}{F H:Hp}{ρ:Ro}{σ:L2.St}{d:Addr}(G:Good K tg F H ρ σ)(hf:F d=none)(hn:¬Own ρ σ d)(o:HO)(hi:∀C dx fs,H d≠some (.ins C dx fs)):Good K tg F (upd H d o) ρ σ :=
 G.grow (Same.refl F) (fun b u e=>by
  have hb:b≠d:=fun z=>by
   subst z;rw[hf] at e;cases e
  rw[di hb];exact G.sub b u e) (fun a w=>⟨(G.ownAt w).1,by
  have hb:a≠d:=fun z=>hn (z▸w)
  rw[di hb]⟩) fun a C dx fvs h1 h2=>⟨h1,by
  have hb:a≠d:=fun z=>hi C dx fvs (z▸h2)
  rw[di hb]⟩
theorem am6{mi:M (List D)}{bb:D->Ro->Option Ro}{mc:M Bool}{me:M D}{src:List (Option Nat)}(σ:L2.St)(H:Hp)(Q:VK)(t:T K (relR K) (xj src mi bb mc me) σ H Q):awi (TIt K mi) (TGd K bb) (TB K mc) (T K (relD K) me) src σ H Q:=by
 obtain⟨tg,F,ρ,r,ρ',G,em,q⟩:=t;obtain⟨l,ρ1,yf,ps,e1,hj,e2,hz,rfl,rfl⟩:=at5 em;refine⟨tg,F,ρ,l,ρ1,G,e1,fun J H1 F1 G1 x1 Z dd hd =>?_⟩
 have L:Lent K F1 σ (pick src σ) src (src.map fun _=>none):=apx src
 have Gl:=ado G1 hj L;have own0:¬Own (lend ρ1 src (src.map fun _=>none)) (pick src σ) dd:=fun z=>Gl.own_ne hd z rfl
 refine au1 Z (fun i ys σc Hc=>∃Fc ρc yd,Good K (tgOf (pick src σ)) Fc Hc ρc σc/\Ext (Own (lend ρ1 src (src.map fun _=>none)) (pick src σ)) (Own ρc σc) F1 H1 Fc Hc/\Fc dd=none/\¬Own ρc σc dd/\Hc dd=some (.lst ys)/\IsL K Fc yd ys/\compD bb mc me (l.drop i) yd ρc=some (.ok yf,ps))
  ⟨F1,_,[],Gl.upd (G1.freeF hd) own0 _ (fun _ _ _ z=>by rw[hd] at z;cases z),(Ext.refl _ _ _).upd hd,G1.freeF hd,own0,je,.nil,e2⟩ ?_ ?_ ?_
 ·rintro i ys σc Hc _ ⟨Fc,ρc,yd,Gc,xc,_,_,hdd,_,_⟩
  exact⟨xc.sub.trans Gc.sub,hdd⟩
 ·rintro i d x ys σc Hc0 Hc M hdl ⟨Fc0,ρc,yd,Gc0,xc0,fd0,od0,hdd0,iy0,ec⟩ al hM
  obtain⟨Fc,Gc,xc,_,idl,xa⟩:=anf Gc0 xc0 xc0.sub al;have iy:=iy0.mono xa.sub;have hlt:i < l.length:=(aN.mp hdl).1;have edl:l[i]=d:=(aN.mp hdl).2;rw[lU hlt,edl] at ec;unfold compD at ec;have step:∀{F2 H2:Hp} {ρ2 ρ3:Ro} {σ2 σ3:L2.St} {F3 H3:Hp},F2 dd=none->¬Own ρ2 σ2 dd->H2 dd=some (.lst ys)->Ext (Own ρ2 σ2) (Own ρ3 σ3) F2 H2 F3 H3->F3 dd=none/\¬Own ρ3 σ3 dd/\H3 dd=some (.lst ys):=fun{F2 H2 ρ2 ρ3 σ2 σ3 F3 H3} h1 h2 h3 x3=>by
   refine⟨?_,fun z =>?_,x3.keep _ _ h3 h2⟩
   ·cases z:F3 dd with
    | none=>rfl
    | some o =>
     rcases x3.new _ _ z with z | z | z
     ·rw[h1] at z;cases z
     ·rw[h3] at z;cases z
     ·exact absurd z h2
   ·rcases x3.own _ z with z | z
    ·exact h2 z
    ·rw[h3] at z;cases z
  obtain⟨fd,od,hdd⟩:=step fd0 od0 hdd0 xa;split at ec
  ·cases ec
  ·rename_i ρ2 eb;refine⟨_,Fc,ρc,d,ρ2,Gc,idl,eb,fun σ2 H2 F2 G2 x2 =>?_⟩
   obtain⟨k,ρ3,ek,ec⟩:=bc ec;obtain⟨fd2,od2,hdd2⟩:=step fd od hdd x2;refine⟨_,F2,ρ2,k,ρ3,G2,ek,fun H3 F3 G3 x3 =>?_⟩
   obtain⟨fd3,od3,hdd3⟩:=step fd2 od2 hdd2 x3;cases k with
   | false =>
    refine iteF (hM _ _ _ ⟨F3,ρ3,yd,G3,(xc.trans x2).trans x3,fd3,od3,hdd3,(iy.mono x2.sub).mono x3.sub,ec⟩)
   | true =>
    obtain⟨y,ρ4,ey,ec⟩:=bc ec;refine iteT ⟨_,F3,ρ3,y,ρ4,G3,ey,fun v H4 F4 G4 x4 iv =>?_⟩
    obtain⟨fd4,od4,hdd4⟩:=step fd3 od3 hdd3 x4;refine⟨hdd4,?_,hM _ _ _ ⟨F4,ρ4,yd++[y],G4.upd fd4 od4 _ (fun _ _ _ z=>by rw[hdd4] at z;cases z),(((xc.trans x2).trans x3).trans x4).upd hd,fd4,od4,je,?_,ec⟩⟩
    ·have:=agq ec;rw[bM,iy.length] at this;rw[gQ];exact cA (by simpa using gM ys.length) (cF this hz)
    ·exact(((iy.mono x2.sub).mono x3.sub).mono x4.sub).append (.cons iv .nil)
 ·rintro ys σc Hc ⟨Fc,ρc,yd,Gc,xc,fd,od,hdd,iy,ec⟩
  rw[tH (aM _)] at ec;obtain⟨rfl,rfl⟩:=mz (show ret yd ρc=_ from ec)
  have fin:Fin K Fc Hc (pick src σ) ps (Own ps σc):=⟨fun i l' e=>by
   obtain⟨o,ho,a,ws,rfl,hf,hh,hl,ht⟩:=Gc.at e;rw[ht i rfl];exact⟨⟨i,⟨_,_,e⟩,ho⟩,hf,ws,hh,hl⟩⟩
  refine q _ Hc Fc (ad0 G1 L xc Gc.sub fin) (x1.trans (afe G1 L xc)) ⟨dd,ys,rfl,.inl (x1.there dd hd),fd,hdd,iy,fun⟨j,w⟩ =>?_⟩
  exact G1.own_ne hd ⟨j,aci w⟩ rfl
theorem ou{ifs:List Expr}{scope:Scope}{mi:M (List D)}{bb:D->Ro->Option Ro}{mc:M Bool}{me:M D}(fr N:List Str)(src:List (Option Nat))(hc:X.calm=true)(hi:IT K X tgt iter mi)
  (hg:∀fp s H,GV K (cxC X N scope fr fp s H) tgt bb) (ht:∀fp s H,EIf K (cxC X N scope fr fp s H) ifs mc) (he:∀fp s H,EV K (cxC X N scope fr fp s H) elt me)
  (hok:ahm X.env X.N scope fr N src=true:=by rfl) (hkind:scope.kind=.function:=by rfl) (hclos:closureFor scope X.env=pure (aaq X.env fr):=by rfl)
  (hs:∀x,foldedSetIterable iter X.env x=pure x:=by intro _;rfl):ER K X (.ListComp elt [⟨tgt,iter,ifs,0⟩] scope pos) (xj src mi bb mc me):=ER.mk fun hk=>by
 have hkc:∀fp s H,(cxC X N scope fr fp s H).K=K:=fun _ _ _=>hk
 refine PE.imp (aw9 fr N src hc (hi hk) (fun fp s H=>(hg fp s H).go (hkc _ _ _)) (fun fp s H=>(ht fp s H).go (hkc _ _ _)) (fun fp s H=>(he fp s H).go (hkc _ _ _)) hok hkind hclos hs) am6
end
end Dn
namespace Mn
open L2
theorem awv{X:Cx}{tg iter elt:Expr}{ifs:List Expr}{scope:Scope}{cpos pos px:Pos}{wi:TI}{g:TG}{ti:TT}{te:TE}{i:Nat}{x:Str}(fr N:List Str)(src:List (Option Nat))(hN:X.N.Nodup)(hxi:X.N[i]? = some x)(hx:Loc X.env.scope x)(hc:X.calm=true)(hi:PI X tg iter wi)
  (hg:∀fp s H,PG (cxC X N scope fr fp s H) tg g) (ht:∀fp s H,PIf (cxC X N scope fr fp s H) ifs ti) (he:∀fp s H,PE (cxC X N scope fr fp s H) elt te)
  (hsw:lB (.ListComp elt [⟨tg,iter,ifs,0⟩] scope cpos) (some (.Name x px)) pos.line X.env=pure true:=by rfl)
  (hok:ahm X.env X.N scope fr N src=true:=by rfl) (hkind:scope.kind=.function:=by rfl) (hclos:closureFor scope X.env=pure (aaq X.env fr):=by rfl)
  (hs:∀x,foldedSetIterable iter X.env x=pure x:=by intro _;rfl) (hf:X.fn x=true∨X.env.scope.names.lookup x=some .local:=by first | exact .inl rfl | exact .inr rfl | assumption) :
  PS X (.Assign [.Name x px] (.ListComp elt [⟨tg,iter,ifs,0⟩] scope cpos) pos) (tAsg (awi wi g ti te src) (ax6 i)):=by
 have C:=CompOk.of hok;intro zv s σ H D I h;rw[exec_Assign_Name_used _ _ _ _ hsw];refine aA (wpAny_standAt (aA ?_));show wpAny _ _ (comprehension (.ListComp elt [⟨tg,iter,ifs,0⟩] scope cpos) scope X.env (firstIterPos [⟨tg,iter,ifs,0⟩] cpos) (newList []) (firstAsync [⟨tg,iter,ifs,0⟩]) (firstIter [⟨tg,iter,ifs,0⟩] X.env) (some (kZ (.Name x px) X.env)) >>= fun _=>pure ()) _ _ _
 refine aA (wpAny_comprehension_free (use:=some (kZ (.Name x px) X.env)) (Q:=fun _ s'=>wpAny (model X.prog X.w) X.A (pure ()) (fun _ s''=>wpAny (model X.prog X.w) X.A (pure tY) (SP X zv D) X.xe s'') X.xe s') rfl hs hclos hkind C.loc (dC (hi zv s σ H _ I h) (fun v s1 h1=>dC h1 (fun itv s2 h2 =>?_) fun _ _ e=>e) fun _ _ e=>e))
 obtain⟨it,fp,tn,J,H2,e,I2,T,st2,f2,q2⟩:=h2;subst e;have hd0:H2 s2.heap.objs.size=none:=I2.hok.fresh (aM _);obtain⟨W,⟨m0,w0⟩,turn⟩:=q2 s2.heap.objs.size hd0;refine bU ?_;generalize hs3:({ s2 with heap:=s2.heap.push { cls:=.type "list", dict:=none,data:=.seq ([]:List Value).toArray } }:aJ)=s3
 have keep2:∀b o,s2.heap.get? b=some o->s3.heap.get? b=some o:=fun b o e=>by rw[<-hs3];exact aB _ e
 have I3:Inv X zv σ (upd H2 s2.heap.objs.size (.lst [])) s3:=by
  rw[<-hs3];exact I2.laid (t':=s2.toks) (fun b u q=>aB _ q) (aM _) ⟨Nat.zero_le _,[],0,.nil,aK _ rfl⟩
 have ne0:∀b∈fp,b≠s2.heap.objs.size:=fun b hb=>by
  obtain⟨o,e,_⟩:=T.obj _ _ st2 b hb;exact bD (aQ e)
 have f3:∀b∈fp,FpOk X zv (upd H2 s2.heap.objs.size (.lst [])) b:=fun b hb=>⟨by rw[di (ne0 b hb)];exact(f2 b hb).1,(f2 b hb).2⟩
 have lt3:∀b∈fp,b < s3.heap.objs.size:=fun b hb=>by
  obtain⟨o,e,_⟩:=T.obj _ _ st2 b hb;exact aQ (keep2 b o e)
 refine wpAny_newFunctionEnv C.cell (by intro y hy;simp at hy) (fun h₁ hns₁ hsb₁ =>?_) hkind
 have keep3:∀b o,s3.heap.get? b=some o->h₁.get? b=some o:=fun b o e=>hsb₁.extBut b o (bD (aQ e)) (aB _ e)
 have st4:tn 0 h₁:=T.keep _ _ _ st2 fun b hb o e=>keep3 b o (keep2 b o e)
 have I4:=amx (tk:=s3.toks+([]:List (Str×Value)).length) I3 C hkind f3 lt3 hns₁ keep3;have loop:=akb (X:=cxC X N scope fr fp s3 (upd H2 s2.heap.objs.size (.lst []))) (iter:=iter) (scope:=scope) (pos:=cpos) (d:=s2.heap.objs.size) (Q:=fun v H1=>D.nx (σ.set i (some v)) H1)
  (R:=compPost (model X.prog X.w) X.A X.xe (some (kZ (.Name x px) X.env)) (fun _ s'=>wpAny (model X.prog X.w) X.A (pure ()) (fun _ s''=>wpAny (model X.prog X.w) X.A (pure tY) (SP X zv D) X.xe s'') X.xe s') (.ref s2.heap.objs.size) s3.heap.objs.size) hc rfl T
  (fun H' hn b hb=>⟨hn b hb,bD (lt3 b hb),I4.ok.exfs b hb,.inl hb,(I4.ok.exf b hb).2,fun p hp=>absurd (show p∈([]:List (Addr×Obj)) from hp) (by simp)⟩)
  (hg fp s3 _) (ht fp s3 _) (he fp s3 _) turn w0 I4 st4 (fun b hb=>(f3 b hb).1) (fun σ' H' s' I6 qn=>by
   obtain⟨m6,hn6,_⟩:=I6.loc;have fC:FpOk X zv H' s3.heap.objs.size:=I3.fpOk (aM _) I6.free;have I7:Inv X zv σ H' s':=amy I3 f3 I6 (vL ..);refine wpAny_assign_Name (ai3 I7 hN hxi hx (v:=.ref s2.heap.objs.size) rfl (fun s8 I8 ⟨a,sb,ha⟩ =>?_) hf)
   have hne:s3.heap.objs.size≠a:=by
    rcases ha with rfl | ha
    ·exact fC.2.1
    ·exact(fC.2.2.2.2.1 x a ha).symm
   obtain⟨o6,es6,ep6,g6,r6⟩:=hn6;refine⟨m6,⟨o6,es6,ep6,(sb.2 _ hne).trans g6,r6⟩,fun h9 sb9=>aH (aH ⟨_,H',?_,qn⟩)⟩
   exact I8.turned (t':=s8.toks) (it:=s3.heap.objs.size) (fun b o hb e=>(sb9.2 b hb).trans e) fC.1 fC.2.1 fC.2.2.2.1 fC.2.2.2.2.1 fC.2.2.2.2.2)
 exact codeAny_compStart_list loop (T.self _ 0 _ _ _ st4 loop)
end Mn
namespace Dn
open L2 Mn
section
variable{K:Fg9}{X:Cx}{tgt iter elt:Expr}{pos p:Pos}
theorem awk{i:Nat}{x:Str}{ifs:List Expr}{scope:Scope}{cpos:Pos}{mi:M (List D)}{bb:D->Ro->Option Ro}{mc:M Bool}{me:M D}(fr N:List Str)(src:List (Option Nat))(hN:X.N.Nodup)(hxi:X.N[i]? = some x)(hx:Loc X.env.scope x)(hc:X.calm=true)(hi:IT K X tgt iter mi)
  (hg:∀fp s H,GV K (cxC X N scope fr fp s H) tgt bb) (ht:∀fp s H,EIf K (cxC X N scope fr fp s H) ifs mc) (he:∀fp s H,EV K (cxC X N scope fr fp s H) elt me)
  (hsw:lB (.ListComp elt [⟨tgt,iter,ifs,0⟩] scope cpos) (some (.Name x p)) pos.line X.env=pure true:=by rfl)
  (hok:ahm X.env X.N scope fr N src=true:=by rfl) (hkind:scope.kind=.function:=by rfl) (hclos:closureFor scope X.env=pure (aaq X.env fr):=by rfl)
  (hs:∀x,foldedSetIterable iter X.env x=pure x:=by intro _;rfl) (hf:X.fn x=true∨X.env.scope.names.lookup x=some .local:=by first | exact .inl rfl | exact .inr rfl | assumption) :
  SV K X (.Assign [.Name x p] (.ListComp elt [⟨tgt,iter,ifs,0⟩] scope cpos) pos) (dSet i (xj src mi bb mc me)):=SV.mk fun hk=>by
 have hkc:∀fp s H,(cxC X N scope fr fp s H).K=K:=fun _ _ _=>hk
 refine PS.imp (awv fr N src hN hxi hx hc (hi hk) (fun fp s H=>(hg fp s H).go (hkc _ _ _)) (fun fp s H=>(ht fp s H).go (hkc _ _ _)) (fun fp s H=>(he fp s H).go (hkc _ _ _)) hsw hok hkind hclos hs hf) fun E σ H ⟨tg,F,ρ,fl,ρ',G,em,q⟩=>mj em q fun r ρ1 e1 em =>?_
 cases em;refine am6 σ H _ ⟨tg,F,ρ,r,ρ1,G,e1,fun v H' F' G' x rr =>?_⟩
 obtain⟨G2,x2⟩:=G'.store x i rr;exact q _ H' F' G2 x2
end
@[irreducible] def fuel:Nat:=1000000000
section
variable{K:Fg9}{X:Cx}{e a b c:Expr}{es:List Expr}{pos p p2:Pos}
noncomputable def aqx(neg:Bool):D->List D->Option D
 | .int i,[.int x,.int y]=>some (.bl (if neg then !(decide (x<=i)&&decide (i < y)) else (decide (x<=i)&&decide (i < y))))
 | _,_=>none
def a04(neg:Bool)(m1:M D)(m2:M (List D)):M D:=m1.bind fun x=>m2.bind fun ds=>lift (aqx neg x ds)
def isN:D->Bool
 | .non=>true
 | _=>false
def mIsN(neg:Bool)(m:M D):M D:=m.bind fun d=>ret (.bl (if neg then !isN d else isN d))
end
def al4(f:Fd):Prop:=∀ns:List Int,ns.length<=63->∃ps,f [.val (.kst (ns.map D.int))]=some (.ok (.v (.bl true)),ps)
theorem azu{K:Fg9}{f:Fd}(h:al4 f)(H:Hp)(a:Addr)(ns:List Int)(hn:ns.length<=63)(hS:SqL K H a (ns.map V.int)):spOf K 1 f [.ref a] H (fun v _=>v=.bl true) fun _ _ _=>False:=by
 obtain⟨ps,e⟩:=h ns hn;refine⟨rfl,H,_,_,ps,⟨Same.refl H,rfl,fun i s o e1 e2 =>?_,fun i j b ⟨⟨t,l,e1⟩,_⟩ _=>by cases i <;> simp at e1⟩,e,fun v H' F' O' _ _ _ rr =>?_⟩
 ·cases i with
  | zero =>
   simp at e1 e2;subst e1 e2;exact⟨_,rfl,.kst hS (afc ns)⟩
  | succ i=>simp at e1
 ·have rr:Is K F' (.bl true) v:=rr;cases rr;rfl
theorem walk{l:qT}{q:aZ}{loose:List Str}{XP:(Str->Option Value)->Heap->Prop}{YP:World->Heap->Prop}{d:DefRec}{K:Params->Fg9}{f:Fd}{k:Nat}(ht:al4 f)(hn:l.most=some 63)(hdf:d.params.defaults=[])(hr:Room k pK)
  (hY:∀(w:World) (h:Heap),YP w h->(K w.params).In h)
  (F:∀(w:World) (mg:Str->Option Value) (fa:Addr) (h:Heap),(K w.params).In h->h.Ns aP mg->mg d.name=some (.ref fa) ->
   ∃fd:fM,(∀(s:aJ) (u:Value),pU s fd ⟨[u],[]⟩ [("script", u)])/\∀base:Heap,(K w.params).In base->base.Ns aP mg->FnOk l.prog w (K w.params) mg base CX0 k fa fd ["script"] (spOf (K w.params) 1 f)) :
  wR q loose XP YP l.row.toRowW d [] (fun f vs=>uW f vs) :=
 L2.av6 (n:=63) (k:=k) (x := "script") (CX:=fun _=>CX0) (sp:=fun w=>spOf (K w.params) 1 f) hn (by decide) hdf hr hY F (fun _ H a ns hl _ hS=>azu ht H a ns hl hS) fun _ _ _ _ _ z=>z
section
variable{α β:Type}(ρ:Ro)
@[simp] theorem a8h(a:α):ret a ρ=some (.ok a,ρ):=rfl
@[simp] theorem a6r(o:Option α):lift o ρ=match o with
 | some a=>some (.ok a,ρ)
 | none=>none:=rfl
@[simp] theorem a77(m:M α)(k:α->M β):M.bind m k ρ=match m ρ with
 | some (.ok a,ρ1)=>k a ρ1
 | some (.exc x,ρ1)=>some (.exc x,ρ1)
 | none=>none:=rfl
@[simp] theorem v_ap(m:M D):M.v m ρ=(m.bind fun d=>ret (.v d)) ρ:=rfl
@[simp] theorem d_ap(m:M Rv):M.d m ρ=(m.bind fun r=>ret r.d) ρ:=rfl
@[simp] theorem a80(d:D):(Rv.v d).d=d:=rfl
@[simp] theorem a8g(l:List D):(Rv.fr l).d=.lst l:=rfl
@[simp] theorem a8f(d:D)(l:List D):(Rv.tf d l).d=.tup [d,.lst l]:=rfl
@[simp] theorem a8z(d:D):(Rv.v d).sl=.val d:=rfl
@[simp] theorem a8e(l:List D):(Rv.fr l).sl=.own none l:=rfl
@[simp] theorem a5r(i:Nat):mVar i ρ=match ρ[i]? with
 | some (.val d)=>some (.ok d,ρ)
 | some (.own none l)=>some (.ok (.lst l),ρ.set i (.val (.lst l)))
 | _=>none:=rfl
@[simp] theorem a3a(i:Nat):gj i ρ=match ρ[i]? with
 | some (.val d)=>some (.ok d,ρ)
 | some (.own _ l)=>some (.ok (.lst l),ρ)
 | _=>none:=rfl
@[simp] theorem a3h(i:Nat):aid i ρ=match ρ[i]? with
 | some (.val d)=>some (.ok (.v d),ρ)
 | some (.own none l)=>some (.ok (.fr l),ρ.set i .emp)
 | _=>none:=rfl
@[simp] theorem a5w(i:Nat):mOwn i ρ=match ρ[i]? with
 | some (.own _ l)=>some (.ok l,ρ)
 | _=>none:=rfl
@[simp] theorem a00(i:Nat)(l':List D):abn i l' ρ=match ρ[i]? with
 | some (.own t _)=>some (.ok (),bA ρ i (.own t l'))
 | _=>none:=rfl
@[simp] theorem a3f(m1 m2:M D):gq m1 m2 ρ=(m1.bind fun x=>m2.bind fun y=>ret (x,y)) ρ:=rfl
@[simp] theorem a01(i:Nat)(m2:M D):cu i m2 ρ=((gj i).bind fun _=>m2.bind fun y=>(gj i).bind fun x=>ret (x,y)) ρ:=rfl
@[simp] theorem a8l(g:D->D->Option Rv)(m:M (D×D)):mOp g m ρ=(m.bind fun p=>lift (g p.1 p.2)) ρ:=rfl
@[simp] theorem a8j(g:D->Option D)(m:M D):mUn g m ρ=(m.bind fun d=>lift (g d)) ρ:=rfl
@[simp] theorem a6k(m1 m2:M D):mAnd m1 m2 ρ=(m1.bind fun d=>(lift (asB d)).bind fun k=>if k=true then m2 else ret (.bl false)) ρ:=rfl
@[simp] theorem a8k(m1 m2:M D):mOr m1 m2 ρ=(m1.bind fun d=>(lift (asB d)).bind fun k=>if k=true then ret (.bl true) else m2) ρ:=rfl
@[simp] theorem a3c(m:M D):abm m ρ=(m.bind fun d=>lift (asB d)) ρ:=rfl
@[simp] theorem a0z(g:D->D->Option Rv)(m:M (D×D)):m8 g m ρ=abm (mOp g m).d ρ:=rfl
@[simp] theorem a3g(m:M Bool):ae7 m ρ=(m.bind fun k=>ret (!k)) ρ:=rfl
@[simp] theorem a3p(m1 m2:M Bool):a6l m1 m2 ρ=(m1.bind fun k=>if k=true then m2 else ret false) ρ:=rfl
@[simp] theorem a5x(m1 m2:M Bool):mOrB m1 m2 ρ=(m1.bind fun k=>if k=true then ret true else m2) ρ:=rfl
@[simp] theorem a8m(m:M Bool)(m1 m2:M α):mIf m m1 m2 ρ=(m.bind fun k=>if k=true then m1 else m2) ρ:=rfl
@[simp] theorem a8o(c:Prop)[Decidable c](m1 m2:M α):(if c then m1 else m2) ρ=if c then m1 ρ else m2 ρ:=by split <;> rfl
@[simp] theorem a6w(c:Prop)[Decidable c](m1 m2:Sd):(if c then m1 else m2) ρ=if c then m1 ρ else m2 ρ:=by split <;> rfl
@[simp] theorem a8y(b:Bool):asB (.bl b)=some b:=rfl
@[simp] theorem a8c(b:Int):asI (.int b)=some b:=rfl
@[simp] theorem a68(b:Bool):gNot (.bl b)=some (.bl (!b)):=rfl
@[simp] theorem a3s(b:Int):gNeg (.int b)=some (.int (-b)):=rfl
@[simp] theorem a4h(i j:Int):gAdd (.int i) (.int j)=some (.v (.int (i+j))):=rfl
@[simp] theorem a4f(l k:List D):gAdd (.tup l) (.tup k)=if l.length+k.length<=capS then some (.v (.tup (l++k))) else none:=rfl
@[simp] theorem a4g(l k:List D):gAdd (.lst l) (.lst k)=if l.length+k.length<=capS then some (.fr (l++k)) else none:=rfl
@[simp] theorem a3x(f:Int->Int->Option Int)(i j:Int):gInt f (.int i) (.int j)=(f i j).map fun k=>.v (.int k):=rfl
@[simp] theorem a7m(i j:Int):fSub i j=some (i - j):=rfl
@[simp] theorem a3v(i j:Int):gMul (.int i) (.int j)=(fMul i j).map fun k=>.v (.int k):=rfl
@[simp] theorem a3t(l:List D)(k:Int):gMul (.tup l) (.int k)=if k=1 then some (.v (.tup l)) else if l≠[]/\2<=k/\k < 9223372036854775808/\l.length*k.toNat<=capS then some (.v (.tup (aD k.toNat l).flatten)) else none:=rfl
@[simp] theorem a3u(l:List D)(k:Int):gMul (.lst l) (.int k)=if k.natAbs < 9223372036854775808/\l.length*k.toNat<=capS then some (.fr (aD k.toNat l).flatten) else none:=rfl
@[simp] theorem a4c(f:Int->Int->Bool)(i j:Int):gCmp f (.int i) (.int j)=some (.v (.bl (f i j))):=rfl
@[simp] theorem a6e(t:Ty)(m:M D):mIsi t m ρ=(m.bind fun d=>ret (.bl (isTy t d))) ρ:=rfl
@[simp] theorem a1a(f g:Int->Int->Bool)(m1 m2 m3:M D):ajt f g m1 m2 m3 ρ=(m1.bind fun x=>m2.bind fun y=>match x,y with
 | .int i,.int j=>if f i j=true then m3.bind fun z=>match z with
  | .int k=>ret (.bl (g j k))
  | _=>lift none
  else ret (.bl false)
 | _,_=>lift none) ρ:=rfl
@[simp] theorem a5y:mNil ρ=some (.ok [],ρ):=rfl
@[simp] theorem a3m(m:M D)(ms:M (List D)):bh m ms ρ=(m.bind fun d=>ms.bind fun ds=>ret (d::ds)) ρ:=rfl
@[simp] theorem a09(i:Nat)(ms:M (List D)):dg i ms ρ=((gj i).bind fun _=>ms.bind fun ds=>(gj i).bind fun d=>ret (d::ds)) ρ:=rfl
@[simp] theorem a5s(m:M (List D)):mTup m ρ=(m.bind fun ds=>lift (gTup ds)) ρ:=rfl
@[simp] theorem a6b(m:M (List D)):mLst m ρ=(m.bind fun ds=>lift (gLst ds)) ρ:=rfl
@[simp] theorem a3o(g:List D->Option Rv)(m:M (List D)):dz g m ρ=(m.bind fun ds=>lift (g ds)) ρ:=rfl
@[simp] theorem a8r(f:D->Option Rv)(d:D):g1 f [d]=f d:=rfl
@[simp] theorem a8q(f:D->D->Option Rv)(d d':D):g2 f [d,d']=f d d':=rfl
@[simp] theorem a1l(l:List D):itemsD (.tup l)=some l:=rfl
@[simp] theorem a1m(l:List D):itemsD (.lst l)=some l:=rfl
@[simp] theorem a1n(l:List D):itemsD (.kst l)=some l:=rfl
@[simp] theorem a4e(l:List D):gAll (.lst l)=(uc l).map fun bs=>.v (.bl (bs.all id)):=rfl
@[simp] theorem a1w(i:Int):aur (.int i)=some (.v (.int i)):=rfl
@[simp] theorem a3y(i:Bool):aur (.bl i)=some (.v (.int (if i then 1 else 0))):=rfl
@[simp] theorem a7b(d:D)(k:Int):gIx d (.int k)=(itemsD d).bind fun l=>(atI l k).map fun x=>.v x:=rfl
@[simp] theorem a6j(m:M D)(ml mh:M (Option Int)):mCut m ml mh ρ=(m.bind fun d=>ml.bind fun lo=>mh.bind fun hi=>lift (gCut d lo hi)) ρ:=rfl
@[simp] theorem a3l(i:Nat)(ml mh:M (Option Int)):at4 i ml mh ρ=((gj i).bind fun _=>ml.bind fun lo=>mh.bind fun hi=>(gj i).bind fun d=>lift (gCut d lo hi)) ρ:=rfl
@[simp] theorem a3e(m:M D):ald m ρ=(m.bind fun d=>lift ((asI d).map some)) ρ:=rfl
@[simp] theorem a3z(l:List D)(lo hi:Option Int):gCut (.tup l) lo hi=some (.v (.tup (cutD l lo hi))):=rfl
@[simp] theorem a4a(l:List D)(lo hi:Option Int):gCut (.lst l) lo hi=some (.fr (cutD l lo hi)):=rfl
@[simp] theorem a4b(l:List D)(lo hi:Option Int):gCut (.kst l) lo hi=some (.fr (cutD l lo hi)):=rfl
@[simp] theorem a03(neg:Bool)(m1:M D)(m2:M (List D)):a04 neg m1 m2 ρ=(m1.bind fun x=>m2.bind fun ds=>lift (aqx neg x ds)) ρ:=rfl
@[simp] theorem azg(neg:Bool)(i x y:Int):aqx neg (.int i) [.int x,.int y]=some (.bl (if neg then !(decide (x<=i)&&decide (i < y)) else (decide (x<=i)&&decide (i < y)))):=rfl
@[simp] theorem a6f(neg:Bool)(m:M D):mIsN neg m ρ=(m.bind fun d=>ret (.bl (if neg then !isN d else isN d))) ρ:=rfl
@[simp] theorem a02(m:M D):abe m ρ=(m.bind fun d=>lift (itemsD d)) ρ:=rfl
@[simp] theorem a6h(g:α->Option β)(m:M α):mGet g m ρ=(m.bind fun ds=>lift (g ds)) ρ:=rfl
@[simp] theorem aln(j:Int):uw [.int j]=if j.natAbs < 4611686018427387904 then some (jy 0 j.toNat) else none:=rfl
@[simp] theorem ax4(i j:Int):ax5 [.int i,.int j]=if i.natAbs < 4611686018427387904/\j.natAbs < 4611686018427387904 then some (jy i (j - i).toNat) else none:=rfl
@[simp] theorem aye(i j:Int):aii (.int i) (.int j)=if 0 < j/\j < 1000000000000000000000000000000000000000000000000000000000000 then some (.v (.tup [.int (i / j),.int (i % j)])) else none:=rfl
@[simp] theorem a5z(i:Nat)(g:List D->List D->Option (D×List D))(ms:M (List D)):mMut i g ms ρ=((mOwn i).bind fun _=>ms.bind fun ds=>(mOwn i).bind fun l=>(lift (g l ds)).bind fun r=>(abn i r.2).bind fun _=>ret r.1) ρ:=rfl
@[simp] theorem ayi(l:List D)(d:D):aek l [d]=if l.length < capS then some (.non,l++[d]) else none:=rfl
@[simp] theorem a3k:gr ρ=some (.ok [],ρ):=rfl
@[simp] theorem a06(m:M D)(ms:M (List (Option D))):bf m ms ρ=(m.bind fun d=>ms.bind fun ds=>ret (some d::ds)) ρ:=rfl
@[simp] theorem a05(j:Nat)(ms:M (List (Option D))):bw j ms ρ=((gj j).bind fun _=>ms.bind fun ds=>ret (none::ds)) ρ:=rfl
@[simp] theorem a8n(f:Fd)(js:List (Option Nat))(ms:M (List (Option D))):mFn f js ms ρ=(ms.bind fun ds ρ=>if okJs ρ js=true then match f (lend ρ js ds) with
  | some (.ok r,ps)=>some (.ok r,putB ρ js ps)
  | some (.exc x,ps)=>some (.exc x,putB ρ js ps)
  | none=>none
 else none) ρ:=rfl
@[simp] theorem a3n(src:List (Option Nat))(mi:M (List D))(b:D->Ro->Option Ro)(mc:M Bool)(me:M D):xj src mi b mc me ρ=(mi.bind fun l ρ=>if okJs ρ src=true then match compD b mc me l [] (lend ρ src (src.map fun _=>none)) with
  | some (.ok ys,ps)=>if ys.length<=capS then some (.ok (.fr ys),putB ρ src ps) else none
  | some (.exc x,ps)=>some (.exc x,putB ρ src ps)
  | none=>none
 else none) ρ:=rfl
@[simp] theorem a2z:okJs ρ []=true:=rfl
@[simp] theorem a0x(r:List (Option Nat)):okJs ρ (none::r)=okJs ρ r:=rfl
@[simp] theorem a0w(j:Nat)(r:List (Option Nat)):okJs ρ (some j::r)=((match ρ[j]? with
  | some (.own _ _) => !r.contains (some j)
  | _=>true)&&okJs ρ r):=rfl
@[simp] theorem lend_eq(js:List (Option Nat))(ds:List (Option D)):lend ρ js ds=(sX js ds).mapIdx fun i p=>ajv ρ i p.1 p.2:=rfl
@[simp] theorem aze(i j:Nat)(d:Option D):ajv ρ i (some j) d=match ρ[j]? with
  | some (.val d)=>.val d
  | some (.own _ l)=>.own (some i) l
  | _=>.emp:=rfl
@[simp] theorem a6s(i:Nat)(d:D):ajv ρ i none (some d)=.val d:=rfl
@[simp] theorem a6t(i:Nat):ajv ρ i none none=.emp:=rfl
@[simp] theorem a5h(js:List (Option Nat))(ps:Ro):putB ρ js ps=ρ.mapIdx fun j s=>putS js ps j s:=rfl
@[simp] theorem a5g(js:List (Option Nat))(ps:Ro)(j:Nat)(s:Sl):putS js ps j s=match js.findIdx? (fun o=>o==some j) with
 | none=>s
 | some i=>match s with
  | .own t _=>match ps[i]? with
   | some (.own (some i') l')=>if i'=i then .own t l' else .emp
   | _=>.emp
  | s=>s:=rfl
@[simp] theorem a8t(nl np:Nat)(g:Sd):fnD nl np g ρ=match g (ρ++aD (nl - np) .emp) with
 | some (.ret r,ρ)=>some (.ok r,ρ.take np)
 | some (.nx,ρ)=>some (.ok (.v .non),ρ.take np)
 | some (.exc x,ρ)=>some (.exc x,ρ.take np)
 | _=>none:=rfl
@[simp] theorem a8w:dNx ρ=some (.nx,ρ):=rfl
@[simp] theorem a71:dBrk ρ=some (.brk,ρ):=rfl
@[simp] theorem a4m:a70 ρ=some (.cont,ρ):=rfl
@[simp] theorem a7v(g k:Sd):dSeq g k ρ=match g ρ with
 | some (.nx,ρ1)=>k ρ1
 | r=>r:=rfl
@[simp] theorem a81(m:M α)(k:α->Sd):dM m k ρ=match m ρ with
 | some (.ok x,ρ1)=>k x ρ1
 | some (.exc x,ρ1)=>some (.exc x,ρ1)
 | none=>none:=rfl
@[simp] theorem a7w(m:M Rv):dRet m ρ=dM m (fun r ρ=>some (.ret r,ρ)) ρ:=rfl
@[simp] theorem a8x(m:M Bool)(g k:Sd):dIf m g k ρ=dM m (fun z=>if z=true then g else k) ρ:=rfl
@[simp] theorem a4l(m:M α):abw m ρ=dM m (fun _ ρ=>some (.nx,ρ)) ρ:=rfl
@[simp] theorem a7u(i:Nat)(m:M Rv):dSet i m ρ=dM m (fun r ρ=>some (.nx,bA ρ i r.sl)) ρ:=rfl
@[simp] theorem a74(m:M D)(b:D->Ro->Option Ro):dAsg m b ρ=dM m (fun d ρ=>(b d ρ).map fun ρ'=>(.nx,ρ')) ρ:=rfl
@[simp] theorem a7x(i j:Nat)(m:M (List D)):dPar i j m ρ=dM m (fun ds ρ=>match ds with
 | [d,d']=>some (.nx,bA (bA ρ i (.val d)) j (.val d'))
 | _=>none) ρ:=rfl
@[simp] theorem a7t(i:Nat)(mi m:M D):dSub i mi m ρ=(dM m fun d=>dM (mOwn i) fun _=>dM mi fun k=>dM (mOwn i) fun l=>dM (lift ((asI k).bind (ixN l.length))) fun j=>dM (abn i (l.set j d)) fun _=>dNx) ρ:=rfl
@[simp] theorem a72(f:Int->Int->Int)(i:Nat)(m:M D):dAug f i m ρ=(dM (mVar i) fun x=>dM m fun y=>dM (lift ((asI x).bind fun n=>(asI y).map fun k=>D.int (f n k))) fun z ρ=>some (.nx,bA ρ i (.val z))) ρ:=rfl
@[simp] theorem a7z(m:M (List D))(b:D->Ro->Option Ro)(g:Sd):dFor m b g ρ=dM m (forD b g) ρ:=rfl
@[simp] theorem a4p(i:Nat)(d:D):bu i d ρ=some (bA ρ i (.val d)):=rfl
@[simp] theorem a79:bNil [] ρ=some ρ:=rfl
@[simp] theorem a4q(b:D->Ro->Option Ro)(bs:List D->Ro->Option Ro)(d:D)(r:List D):gk b bs (d::r) ρ=(b d ρ).bind (bs r):=rfl
@[simp] theorem a78(n:Nat)(bs:List D->Ro->Option Ro)(l:List D):bTup n bs (.tup l) ρ=if l.length=n then bs l ρ else none:=rfl
end
section
variable(c:Prop)[Decidable c](b:Bool)(ρ:Ro)
@[simp] theorem a6v:(if c then some (Out.ok (D.bl b),ρ) else some (Out.ok (D.bl false),ρ))=some (.ok (.bl (decide c&&b)),ρ):=by by_cases h:c <;> simp[h]
end
@[simp] theorem bj{n:Nat}(h:n<=1000):n<=capS:=cF h (by decide)
@[simp] theorem a67(ds:List D):gTup ds=if ds.length<=capS then some (.tup ds) else none:=rfl
@[simp] theorem a69(ds:List D):gLst ds=if ds.length<=capS then some (.fr ds) else none:=rfl
@[simp] theorem alz{α:Type}(l:List α)(f:α->Bool):uc (l.map fun d=>D.bl (f d))=some (l.map f):=by
 have:=aas (l.map f);rw[fD] at this;exact this
def abo(s:Sl):List D->Sl
 | []=>s
 | d::r=>abo (.val d) r
theorem aap{me:M D}{rest:Ro}{f:D->D}:∀{l:List D} {ys:List D} {s:Sl},(∀d∈l,me (.val d::rest)=some (.ok (f d),.val d::rest))->compD (bu 0) (ret true) me l ys (s::rest)=some (.ok (ys++l.map f),abo s l::rest)
 | [],ys,s,_=>by simp[compD,abo]
 | d::r,ys,s,h=>by
  have h1:=h d (aR ..);have ih:=aap (me:=me) (rest:=rest) (f:=f) (l:=r) (ys:=ys++[f d]) (s:=.val d) fun x hx=>h x (aL _ hx)
  simp[compD,h1,ih,abo]
theorem rz{mc:M Bool}{me:M D}{rest:Ro}{p:D->Bool}{f:D->D}:∀{l:List D} {ys:List D} {s:Sl},(∀d∈l,mc (.val d::rest)=some (.ok (p d),.val d::rest))->(∀d∈l,p d=true->me (.val d::rest)=some (.ok (f d),.val d::rest)) ->
  compD (bu 0) mc me l ys (s::rest)=some (.ok (ys++(l.filter p).map f),abo s l::rest)
 | [],ys,s,_,_=>by simp[compD,abo]
 | d::r,ys,s,hc,h=>by
  have h0:=hc d (aR ..);cases hp:p d with
  | true =>
   have h1:=h d (aR ..) hp;have ih:=rz (mc:=mc) (me:=me) (rest:=rest) (p:=p) (f:=f) (l:=r) (ys:=ys++[f d]) (s:=.val d) (fun x hx=>hc x (aL _ hx)) fun x hx=>h x (aL _ hx)
   simp[compD,h0,h1,ih,abo,hp]
  | false =>
   have ih:=rz (mc:=mc) (me:=me) (rest:=rest) (p:=p) (f:=f) (l:=r) (ys:=ys) (s:=.val d) (fun x hx=>hc x (aL _ hx)) fun x hx=>h x (aL _ hx)
   simp[compD,h0,ih,abo,hp]
@[simp] theorem a4i(b:D->Ro->Option Ro)(g:Sd)(ρ:Ro):forD b g [] ρ=some (.nx,ρ):=rfl
theorem vm(b:D->Ro->Option Ro)(g:Sd)(d:D)(ds:List D)(ρ:Ro):forD b g (d::ds) ρ=match b d ρ with
  | none=>none
  | some ρ1=>match g ρ1 with
   | some (.nx,ρ2)=>forD b g ds ρ2
   | some (.cont,ρ2)=>forD b g ds ρ2
   | some (.brk,ρ2)=>some (.nx,ρ2)
   | some (.ret r,ρ2)=>some (.ret r,ρ2)
   | some (.exc x,ρ2)=>some (.exc x,ρ2)
   | none=>none:=rfl
@[simp] theorem a7l{α:Type}(p:α->Bool)(a:α)(l:List α):pC p (a::l)=if p a=true then some 0 else (pC p l).map (· + 1):=by
 rw[List.findIdx?_cons]
@[simp] theorem a8u{α:Type}(p:α->Bool):pC p ([]:List α)=none:=rfl
theorem arn(ns:List Int)(lo hi:Option Int):∃ms:List Int,cutD (ns.map D.int) lo hi=ms.map D.int/\ms.length<=ns.length:=by
 refine⟨(ns.drop (HT.sIx ns.length 0 lo)).take (HT.sIx ns.length ns.length hi - HT.sIx ns.length 0 lo),?_,?_⟩
 ·unfold cutD;rw[aF,pA,wX]
 ·rw[gB,jG];omega
theorem yw{b:D->Ro->Option Ro}{g:Sd}(Inv:Nat->Ro->Prop):∀{l:List D} {ρ:Ro} (k:Nat),Inv k ρ->(∀i d ρ,l[i]? = some d->Inv (k+i) ρ->∃ρ1 ρ2,b d ρ=some ρ1/\(g ρ1=some (.nx,ρ2)∨g ρ1=some (.cont,ρ2))/\Inv (k+i+1) ρ2) ->
  ∃ρ',forD b g l ρ=some (.nx,ρ')/\Inv (k+l.length) ρ'
 | [],ρ,k,h0,_=>⟨ρ,rfl,h0⟩
 | d::r,ρ,k,h0,hs=>by
  obtain⟨ρ1,ρ2,e1,e2,h1⟩:=hs 0 d ρ rfl h0;obtain⟨ρ',e3,h3⟩:=yw (b:=b) (g:=g) Inv (l:=r) (ρ:=ρ2) (k+1) h1 fun i x ρ hx hi=>by
   have:=hs (i+1) x ρ (by simpa using hx) ((show k+(i+1)=k+1+i by omega)▸hi)
   have e:k+(i+1)+1=k+1+i+1:=by omega
   rw[e] at this;exact this
  refine⟨ρ',?_,?_⟩
  ·rw[vm,e1];rcases e2 with e2 | e2 <;> simp only[e2] <;> exact e3
  ·have e:k+(d::r).length=k+1+r.length:=by simp;omega
   rw[e];exact h3
theorem t8{b:D->Ro->Option Ro}{mc:M Bool}{me:M D}(Inv:Nat->List D->Ro->Prop):∀{l:List D} {ys:List D} {ρ:Ro} (k:Nat),Inv k ys ρ ->
  (∀i d ys ρ,l[i]? = some d->Inv (k+i) ys ρ->∃ρ1 ρ2 z,b d ρ=some ρ1/\mc ρ1=some (.ok z,ρ2)/\((z=false/\Inv (k+i+1) ys ρ2)∨(z=true/\∃y ρ3,me ρ2=some (.ok y,ρ3)/\Inv (k+i+1) (ys++[y]) ρ3))) ->
  ∃ys' ρ',compD b mc me l ys ρ=some (.ok ys',ρ')/\Inv (k+l.length) ys' ρ'
 | [],ys,ρ,k,h0,_=>⟨ys,ρ,rfl,h0⟩
 | d::r,ys,ρ,k,h0,hs=>by
  obtain⟨ρ1,ρ2,z,e1,e2,h1⟩:=hs 0 d ys ρ rfl h0;have nxt:∀{ys':List D} {ρ':Ro},Inv (k+0+1) ys' ρ'->∃ys2 ρ2,compD b mc me r ys' ρ'=some (.ok ys2,ρ2)/\Inv (k+1+r.length) ys2 ρ2:=fun{ys' ρ'} hi =>
   t8 (b:=b) (mc:=mc) (me:=me) Inv (l:=r) (ys:=ys') (ρ:=ρ') (k+1) hi fun i x ys ρ hx hi=>by
    have:=hs (i+1) x ys ρ (by simpa using hx) ((show k+(i+1)=k+1+i by omega)▸hi)
    have e:k+(i+1)+1=k+1+i+1:=by omega
    rw[e] at this;exact this
  have el:k+(d::r).length=k+1+r.length:=by simp;omega
  rw[el];rcases h1 with⟨rfl,h1⟩ | ⟨rfl,y,ρ3,e3,h1⟩
  ·obtain⟨ys2,ρ4,e4,h4⟩:=nxt h1;exact⟨ys2,ρ4,by simp[compD,e1,e2,e4],h4⟩
  ·obtain⟨ys2,ρ4,e4,h4⟩:=nxt h1;exact⟨ys2,ρ4,by simp[compD,e1,e2,e3,e4],h4⟩
@[simp] theorem a7c(neg:Bool)(a b:Int):gEq neg (.int a) (.int b)=some (.v (.bl (if neg then !(a==b) else (a==b)))):=rfl
@[simp] theorem a8p(neg:Bool)(a b:Bool):gEq neg (.bl a) (.bl b)=some (.v (.bl (if neg then !(a==b) else (a==b)))):=rfl
section
variable{K:Fg9}{X:Cx}{e a b c:Expr}{es:List Expr}{pos p p2:Pos}
noncomputable def qu:List D->Option (List Int)
 | []=>some []
 | .int i::r=>(qu r).map (i :: ·)
 | _::_=>none
theorem aca:∀{l:List D} {ns:List Int},qu l=some ns->l=ns.map D.int
 | [],_,h=>by cases h;rfl
 | .int b::r,bs,h=>by
  have h':(qu r).map (b :: ·)=some bs:=h;cases e:qu r with
  | none=>rw[e] at h';cases h'
  | some t =>
   rw[e] at h';cases h';rw[aca e];rfl
 | .non::_,_,h=>by cases h
 | .bl _::_,_,h=>by cases h
 | .str _::_,_,h=>by cases h
 | .tup _::_,_,h=>by cases h
 | .lst _::_,_,h=>by cases h
 | .kst _::_,_,h=>by cases h
 | .dct _::_,_,h=>by cases h
@[simp] theorem aah(ns:List Int):qu (ns.map D.int)=some ns:=by
 induction ns with
 | nil=>rfl
 | cons b r ih=>show(qu (r.map D.int)).map (b :: ·)=_;rw[ih];rfl
theorem awm{prog:aZ}{w:World}{A:cI}{E:Value->aJ->Prop}{s:aJ}{l:Addr}{xs:Array (Int×Tok)}{Q:Value->aJ->Prop}(hh:A.handled=none)(ht:s.heap.IsTuple l (jY xs))
  (h:∀h' tk t',(∀b o,s.heap.get? b=some o->h'.get? b=some o)->Q (.int (PySem.preSum (PySem.numAt xs) xs.size) t') { s with heap:=h',toks:=tk }):wpAny (model prog w) A (call (.builtin "sum") [.ref l]) Q E s:=by
 have hlt:l < s.heap.objs.size:=by obtain⟨_,e,_⟩:=ht;exact aQ e
 refine PySem.call_sum_walkG (wpAny_pyIter_tuple ht ?_);refine⟨s.heap.objs.size,[s.heap.objs.size,l],[s.heap.objs.size],(jY xs).size,_,_,PySem.numAt xs,rfl,qO (A:=A.in1) hh _ l (bD hlt) (jY xs),⟨⟨_,aK _ rfl,rfl,rfl⟩,Heap.IsTuple.push ht _⟩,fun b hb =>?_,fun _ _ z=>PySem.intItems_at z,fun h' tk t' hk =>?_⟩
 ·have hb:b=s.heap.objs.size∨b=l:=by simpa using hb
  rw[bJ];rcases hb with rfl | rfl
  ·exact gM _
  ·exact mH hlt
 ·have:=h h' tk t' fun b o e=>hk b o (fun z=>by rw[cV] at z;exact absurd (aQ e) (by rw[z];exact iW _)) (aB _ e)
  simpa[jY] using this
def gSum:D->Option Rv
 | .lst l=>(qu l).map fun ns=>.v (.int ns.sum)
 | .tup l=>(qu l).map fun ns=>.v (.int ns.sum)
 | _=>none
theorem avz(hc:X.calm=true):CallD K X (.builtin "sum") (g1 gSum):=adz fun hk zv s σ0 H x u Q tg F ρ σ d r I ru G bd eg q=>by
 subst hk;cases d with
 | lst l =>
  have eg:(qu l).map (fun ns=>Rv.v (.int ns.sum))=some r:=eg
  cases e:qu l with
  | none=>rw[e] at eg;cases eg
  | some ns =>
   rw[e] at eg;cases eg;obtain⟨a,vs,rfl,ea,hl⟩:=bd.lst G.sub;rw[aca e] at hl;rw[hl.int_inv] at ea;cases ru;obtain⟨its,rv,pl,_⟩:=I.list (SqL.of ea);obtain⟨xs,hxs⟩:∃xs:Array (Int×Tok),its.toArray=jY xs:=(qL (intsAre_of rv)).items
   have hl':=pl.isList;rw[hxs] at hl';refine PySem.sum_intListG (I.ok.hd hc) hl' fun h' tk t' hk=>⟨.int ns.sum,H,I.kept hk,⟨t',?_⟩,Res.same G q (.int _)⟩
   have h1:numsOf its=ns:=(intsAre_of rv).numsOf;have h2:=uH xs;rw[<-hxs] at h2;have h3:xs.toList.map (·.1)=ns:=by
    rw[<-h2];exact h1
   rw[vY,nF (by simp),h3]
 | tup l =>
  have eg:(qu l).map (fun ns=>Rv.v (.int ns.sum))=some r:=eg
  cases e:qu l with
  | none=>rw[e] at eg;cases eg
  | some ns =>
   rw[e] at eg;cases eg;obtain⟨a,vs,rfl,ea,hl⟩:=bd.tup;rw[aca e] at hl;rw[hl.int_inv] at ea;cases ru;obtain⟨its,rv,pl,_⟩:=I.tuple (SqT.of (G.sub _ _ ea));obtain⟨xs,hxs⟩:∃xs:Array (Int×Tok),its.toArray=jY xs:=(qL (intsAre_of rv)).items
   have hl':s.heap.IsTuple a its.toArray:=pl;rw[hxs] at hl';refine awm (I.ok.hd hc) hl' fun h' tk t' hk=>⟨.int ns.sum,H,I.kept hk,⟨t',?_⟩,Res.same G q (.int _)⟩
   have h1:numsOf its=ns:=(intsAre_of rv).numsOf;have h2:=uH xs;rw[<-hxs] at h2;have h3:xs.toList.map (·.1)=ns:=by
    rw[<-h2];exact h1
   rw[vY,nF (by simp),h3]
 | _=>cases eg
noncomputable def insI(x:Int):List Int->List Int
 | []=>[x]
 | y::r=>if x<=y then x::y::r else y::insI x r
def sortI:List Int->List Int
 | []=>[]
 | x::r=>insI x (sortI r)
theorem insI_perm(x:Int):∀l:List Int,(insI x l).Perm (x::l)
 | []=>.refl _
 | y::r=>by
  unfold insI;split
  ·exact .refl _
  ·exact((insI_perm x r).cons y).trans (.swap x y r)
theorem sortI_perm:∀l:List Int,(sortI l).Perm l
 | []=>.refl _
 | x::r=>(insI_perm x (sortI r)).trans ((sortI_perm r).cons x)
theorem af7(x:Int):∀{l:List Int},l.Pairwise (· <= ·)->(insI x l).Pairwise (· <= ·)
 | [],_=>by simp[insI]
 | y::r,h=>by
  unfold insI;rw[fL] at h;split
  ·rename_i hxy;rw[fL,fL];refine⟨fun z hz =>?_,h⟩
   rcases aY.mp hz with rfl | hz
   ·exact hxy
   ·exact Int.le_trans hxy (h.1 z hz)
  ·rename_i hxy;rw[fL];refine⟨fun z hz =>?_,af7 x h.2⟩
   rcases aY.mp ((insI_perm x r).mem_iff.mp hz) with rfl | hz
   ·omega
   ·exact h.1 z hz
theorem aeq:∀l:List Int,(sortI l).Pairwise (· <= ·)
 | []=>.nil
 | x::r=>af7 x (aeq r)
theorem ag7:∀{l k:List Int},l.Perm k->l.Pairwise (· <= ·)->k.Pairwise (· <= ·)->l=k
 | [],k,h,_,_=>h.nil_eq
 | x::r,[],h,_,_=>absurd h.length_eq (by simp)
 | x::r,y::t,h,hl,hk=>by
  rw[fL] at hl hk;have e:x=y:=by
   have h1:x∈y::t:=h.mem_iff.mp (aR ..);have h2:y∈x::r:=h.mem_iff.mpr (aR ..);rcases aY.mp h1 with h1 | h1
   ·exact h1
   ·rcases aY.mp h2 with h2 | h2
    ·exact h2.symm
    ·have a:=hk.1 x h1;have b:=hl.1 y h2;omega
  subst e;rw[ag7 ((List.perm_cons x).mp h) hl.2 hk.2]
theorem as8{l k:List Int}(h:l.Perm k)(hs:l.Pairwise (· <= ·)):l=sortI k:=ag7 (h.trans (sortI_perm k).symm) hs (aeq k)
theorem aep:∀{ns:List Int} {us:List Value},mV us ns->Vals (ns.map V.int) us
 | _,_,.nil=>.nil
 | _,_,.cons n t h=>.cons ⟨t,rfl⟩ (aep h)
def aqv:D->Option Rv
 | .lst l=>(qu l).bind fun ns=>if ns.length < 64 then some (.fr ((sortI ns).map D.int)) else none
 | _=>none
def aqy(l ds:List D):Option (D×List D):=match ds with
 | [.lst k]=>if l.length+k.length<=capS then some (.non,l++k) else none
 | [.tup k]=>if l.length+k.length<=capS then some (.non,l++k) else none
 | _=>none
@[simp] theorem ayd(l k:List D):aqy l [.lst k]=if l.length+k.length<=capS then some (.non,l++k) else none:=rfl
@[simp] theorem ayc(l k:List D):aqy l [.tup k]=if l.length+k.length<=capS then some (.non,l++k) else none:=rfl
end
section
variable{K:Fg9}{X:Cx}{e a b c:Expr}{es:List Expr}{pos p p2:Pos}
noncomputable def acl(lt:Int->Int->Bool):List Int->Int
 | []=>0
 | x::r=>r.foldl (fun m y=>if lt y m=true then y else m) x
theorem asa(lt:Int->Int->Bool)(ns:List Int):∀k,k < ns.length->nH (fun i j=>lt (ns.getD i 0) (ns.getD j 0)) k<=k/\ns.getD (nH (fun i j=>lt (ns.getD i 0) (ns.getD j 0)) k) 0=acl lt (ns.take (k+1))
 | 0,h=>by
  cases ns with
  | nil=>simp at h
  | cons x r=>exact⟨Nat.le_refl _,rfl⟩
 | k+1,h=>by
  obtain⟨h1,h2⟩:=asa lt ns k (by omega)
  have ht:ns.take (k+1+1)=ns.take (k+1)++[ns.getD (k+1) 0]:=by
   rw[vB,aC h];simp[List.getD,aC h]
  have hb:acl lt (ns.take (k+1+1))=if lt (ns.getD (k+1) 0) (acl lt (ns.take (k+1)))=true then ns.getD (k+1) 0 else acl lt (ns.take (k+1)):=by
   rw[ht];cases ns with
   | nil=>simp at h
   | cons x r=>simp[acl,List.foldl_append]
  have ha:nH (fun i j=>lt (ns.getD i 0) (ns.getD j 0)) (k+1)=if lt (ns.getD (k+1) 0) (ns.getD (nH (fun i j=>lt (ns.getD i 0) (ns.getD j 0)) k) 0)=true then k+1 else nH (fun i j=>lt (ns.getD i 0) (ns.getD j 0)) k:=rfl
  rw[hb,<-h2,ha]
  by_cases hc:lt (ns.getD (k+1) 0) (ns.getD (nH (fun i j=>lt (ns.getD i 0) (ns.getD j 0)) k) 0)=true
  ·rw[if_pos hc,if_pos hc];exact⟨Nat.le_refl _,rfl⟩
  ·rw[if_neg hc,if_neg hc];exact⟨by omega,rfl⟩
theorem anc(lt:Int->Int->Bool)(ns:List Int)(h:ns≠[]):nH (fun i j=>lt (ns.getD i 0) (ns.getD j 0)) (ns.length - 1) < ns.length/\ns.getD (nH (fun i j=>lt (ns.getD i 0) (ns.getD j 0)) (ns.length - 1)) 0=acl lt ns:=by
 have hl:0 < ns.length:=iD.mpr h;obtain⟨h1,h2⟩:=asa lt ns (ns.length - 1) (by omega)
 refine⟨by omega,?_⟩
 rw[h2,show ns.length - 1+1=ns.length by omega,kO]
def ayh(lt:Int->Int->Bool):D->Option Rv
 | .lst l=>(qu l).bind fun ns=>if ns=[] then none else some (.v (.int (acl lt ns)))
 | .tup l=>(qu l).bind fun ns=>if ns=[] then none else some (.v (.int (acl lt ns)))
 | _=>none
theorem agh{lt:Int->Int->Bool}{d:D}{r:Rv}(h:ayh lt d=some r):∃ns:List Int,ns≠[]/\r=.v (.int (acl lt ns))/\(d=.lst (ns.map D.int)∨d=.tup (ns.map D.int)):=by
 have go:∀l,(qu l).bind (fun ns=>if ns=[] then none else some (Rv.v (.int (acl lt ns))))=some r->∃ns:List Int,ns≠[]/\r=.v (.int (acl lt ns))/\l=ns.map D.int:=fun l h=>by
  cases e:qu l with
  | none=>rw[e] at h;cases h
  | some ns =>
   rw[e] at h;have h:(if ns=[] then none else some (Rv.v (.int (acl lt ns))))=some r:=h
   split at h
   ·cases h
   ·rename_i hn;cases h;exact⟨ns,hn,rfl,aca e⟩
 cases d with
 | lst l=>obtain⟨ns,h1,h2,rfl⟩:=go l h;exact⟨ns,h1,h2,.inl rfl⟩
 | tup l=>obtain⟨ns,h1,h2,rfl⟩:=go l h;exact⟨ns,h1,h2,.inr rfl⟩
 | _=>cases h
theorem aai{ns:List Int}{its:List Value}(rv:Vals (ns.map V.int) its)(i:Nat)(v:Value)(h:its.toArray[i]? = some v):∃t,v=.int (ns.getD i 0) t:=by
 have h:its[i]? = some v:=by simpa using h
 have hi:i < its.length:=(aN.mp h).1;have hl:=rv.length;rw[aF] at hl;have hi':i < ns.length:=by omega
 obtain⟨u,hu,t,rfl⟩:=rv.get (i:=i) (x:=V.int ns[i]) (by rw[aO,aC hi'];rfl)
 rw[h] at hu;cases hu;exact⟨t,by simp[List.getD,aC hi']⟩
def ax7:D->Option Rv:=ayh fun i j=>decide (i < j)
def ax8:D->Option Rv:=ayh fun i j=>decide (i > j)
theorem ayz(hc:X.calm=true):CallD K X (.builtin "min") (g1 ax7):=adz fun hk zv s σ0 H x u Q tg F ρ σ d r I ru G bd eg q=>by
 subst hk;obtain⟨ns,hn,rfl,hd⟩:=agh eg;have q':=Res.same G q (.int _);obtain⟨hb1,hb2⟩:=anc (fun i j=>decide (i < j)) ns hn
 have fin:∀{its:List Value} (rv:Vals (ns.map V.int) its) {v:Value} {h':Heap} {tk:Nat},its.toArray[nH (fun i j=>decide (ns.getD i 0 < ns.getD j 0)) (its.toArray.size - 1)]? = some v->(∀b o,s.heap.get? b=some o->h'.get? b=some o)->EP X zv σ0 Q v { s with heap:=h',toks:=tk }:=fun{its} rv {v h' tk} hv hk=>by
  have hl:=rv.length;rw[aF] at hl;rw[aV,<-hl] at hv;obtain⟨t,rfl⟩:=aai rv _ v hv;exact⟨.int (acl (fun i j=>decide (i < j)) ns),H,I.kept hk,⟨t,by rw[hb2]⟩,q'⟩
 rcases hd with rfl | rfl
 ·obtain⟨a,vs,rfl,ea,hl⟩:=bd.lst G.sub;rw[hl.int_inv] at ea;cases ru;obtain⟨its,rv,pl,_⟩:=I.list (SqL.of ea);have hl':=pl.isList;have hlt:a < s.heap.objs.size:=by obtain⟨_,e,_⟩:=hl';exact aQ e
  have hlen:=rv.length;rw[aF] at hlen;refine call_min_walk (wpAny_pyIter_list hl' ⟨s.heap.objs.size,[s.heap.objs.size,a],[s.heap.objs.size],its.toArray.size,_,_,_,rfl,rZ (A:=X.A.in1) (I.ok.hd hc) _ a (bD hlt) its.toArray,
   ⟨⟨_,aK _ rfl,rfl,rfl⟩,hl'.push _⟩,fun b hb =>?_,?_,wZ (fun i=>ns.getD i 0) (fun i v=>aai rv i v),fun v h' tk hP hk=>fin rv hP (lA hk)⟩)
  ·have hs:∀o:Obj,(s.heap.push o).objs.size=s.heap.objs.size+1:=fun o=>bJ ..
   show b < (s.heap.push _).objs.size;rw[hs];rcases aY.mp hb with hb | hb
   ·exact hb▸Nat.lt_succ_self _
   ·have hb:b=a:=by simpa using hb
    exact hb▸Nat.lt_succ_of_lt hlt
  ·rw[aV,<-hlen];exact iD.mpr hn
 ·obtain⟨a,vs,rfl,ea,hl⟩:=bd.tup;rw[hl.int_inv] at ea;cases ru;obtain⟨its,rv,pl,_⟩:=I.tuple (SqT.of (G.sub _ _ ea));have hlt:a < s.heap.objs.size:=by obtain⟨_,e,_⟩:=pl;exact aQ e
  have hlen:=rv.length;rw[aF] at hlen;refine call_min_walk (wpAny_pyIter_tuple pl ⟨s.heap.objs.size,[s.heap.objs.size,a],[s.heap.objs.size],its.toArray.size,_,_,_,rfl,qO (A:=X.A.in1) (I.ok.hd hc) _ a (bD hlt) its.toArray,
   ⟨⟨_,aK _ rfl,rfl,rfl⟩,pl.push _⟩,fun b hb =>?_,?_,wZ (fun i=>ns.getD i 0) (fun i v=>aai rv i v),fun v h' tk hP hk=>fin rv hP (lA hk)⟩)
  ·have hs:∀o:Obj,(s.heap.push o).objs.size=s.heap.objs.size+1:=fun o=>bJ ..
   show b < (s.heap.push _).objs.size;rw[hs];rcases aY.mp hb with hb | hb
   ·exact hb▸Nat.lt_succ_self _
   ·have hb:b=a:=by simpa using hb
    exact hb▸Nat.lt_succ_of_lt hlt
  ·rw[aV,<-hlen];exact iD.mpr hn
theorem ay0(hc:X.calm=true):CallD K X (.builtin "max") (g1 ax8):=adz fun hk zv s σ0 H x u Q tg F ρ σ d r I ru G bd eg q=>by
 subst hk;obtain⟨ns,hn,rfl,hd⟩:=agh eg;have q':=Res.same G q (.int _);obtain⟨hb1,hb2⟩:=anc (fun i j=>decide (i > j)) ns hn
 have fin:∀{its:List Value} (rv:Vals (ns.map V.int) its) {v:Value} {h':Heap} {tk:Nat},its.toArray[nH (fun i j=>decide (ns.getD i 0 > ns.getD j 0)) (its.toArray.size - 1)]? = some v->(∀b o,s.heap.get? b=some o->h'.get? b=some o)->EP X zv σ0 Q v { s with heap:=h',toks:=tk }:=fun{its} rv {v h' tk} hv hk=>by
  have hl:=rv.length;rw[aF] at hl;rw[aV,<-hl] at hv;obtain⟨t,rfl⟩:=aai rv _ v hv;exact⟨.int (acl (fun i j=>decide (i > j)) ns),H,I.kept hk,⟨t,by rw[hb2]⟩,q'⟩
 rcases hd with rfl | rfl
 ·obtain⟨a,vs,rfl,ea,hl⟩:=bd.lst G.sub;rw[hl.int_inv] at ea;cases ru;obtain⟨its,rv,pl,_⟩:=I.list (SqL.of ea);have hl':=pl.isList;have hlt:a < s.heap.objs.size:=by obtain⟨_,e,_⟩:=hl';exact aQ e
  have hlen:=rv.length;rw[aF] at hlen;refine call_max_walk (wpAny_pyIter_list hl' ⟨s.heap.objs.size,[s.heap.objs.size,a],[s.heap.objs.size],its.toArray.size,_,_,_,rfl,rZ (A:=X.A.in1) (I.ok.hd hc) _ a (bD hlt) its.toArray,
   ⟨⟨_,aK _ rfl,rfl,rfl⟩,hl'.push _⟩,fun b hb =>?_,?_,xF (fun i=>ns.getD i 0) (fun i v=>aai rv i v),fun v h' tk hP hk=>fin rv hP (lA hk)⟩)
  ·have hs:∀o:Obj,(s.heap.push o).objs.size=s.heap.objs.size+1:=fun o=>bJ ..
   show b < (s.heap.push _).objs.size;rw[hs];rcases aY.mp hb with hb | hb
   ·exact hb▸Nat.lt_succ_self _
   ·have hb:b=a:=by simpa using hb
    exact hb▸Nat.lt_succ_of_lt hlt
  ·rw[aV,<-hlen];exact iD.mpr hn
 ·obtain⟨a,vs,rfl,ea,hl⟩:=bd.tup;rw[hl.int_inv] at ea;cases ru;obtain⟨its,rv,pl,_⟩:=I.tuple (SqT.of (G.sub _ _ ea));have hlt:a < s.heap.objs.size:=by obtain⟨_,e,_⟩:=pl;exact aQ e
  have hlen:=rv.length;rw[aF] at hlen;refine call_max_walk (wpAny_pyIter_tuple pl ⟨s.heap.objs.size,[s.heap.objs.size,a],[s.heap.objs.size],its.toArray.size,_,_,_,rfl,qO (A:=X.A.in1) (I.ok.hd hc) _ a (bD hlt) its.toArray,
   ⟨⟨_,aK _ rfl,rfl,rfl⟩,pl.push _⟩,fun b hb =>?_,?_,xF (fun i=>ns.getD i 0) (fun i v=>aai rv i v),fun v h' tk hP hk=>fin rv hP (lA hk)⟩)
  ·have hs:∀o:Obj,(s.heap.push o).objs.size=s.heap.objs.size+1:=fun o=>bJ ..
   show b < (s.heap.push _).objs.size;rw[hs];rcases aY.mp hb with hb | hb
   ·exact hb▸Nat.lt_succ_self _
   ·have hb:b=a:=by simpa using hb
    exact hb▸Nat.lt_succ_of_lt hlt
  ·rw[aV,<-hlen];exact iD.mpr hn
end
section
variable{K:Fg9}{X:Cx}{e a b c:Expr}{es:List Expr}{pos p p2:Pos}
def rmOf(K:Fg9)(g:D->List D->Option D):V->List V->Hp->VK->Prop:=fun x vs H Q=>∃F d ds r,Same F H/\Bor K F H d x/\IsL K F ds vs/\g d ds=some r/\∀v,Is K F r v->Q v H
def a6a(i:Nat)(g:D->List D->Option D)(ms:M (List D)):M D:=(gj i).bind fun d0=>(lift (match d0 with
 | .lst _=>some ()
 | _=>none)).bind fun _=>ms.bind fun ds=>(gj i).bind fun d=>lift (g d ds)
def aq1(d:D)(ds:List D):Option D:=match d,ds with
 | .lst l,[x]=>if okD 30 x&&l.all (okD 30) then some (.int (l.countP fun y=>eqD y x)) else none
 | _,_=>none
theorem abx{zv:List (Addr×Obj)}{σ:L2.St}{F H:Hp}{s:aJ}(I:Inv X zv σ H s)(g:Same F H){a:D}{n:Nat}:∀{ds:List D} {vs:List V} {us:List Value},IsL X.K F ds vs->ds.all (okD n)=true->Vals vs us ->
  us.countP (aa2 s.heap (toPy a))=ds.countP (fun y=>eqD y a)
 | _,_,_,.nil,_,r=>by cases r;rfl
 | _,_,_,.cons h t,k,r=>by
  rw[iZ,bF] at k;cases r with
  | cons r1 r2 =>
   obtain⟨as,ra⟩:=ab4 I g h k.1 r1;obtain⟨c,p⟩:=abk _ _ k.1;rw[qI,qI,abx I g t k.2 r2,aik ra c];rfl
theorem atw(hu:X.A.units+64 < cLine):X.K=K->MtR X "list.count" (rmOf K aq1):=fun hk=>by
 subst hk;intro zv s σ H x vs v us Q I rx rv ⟨F,d,ds,r,g,bd,il,eg,q⟩
 match d,ds,eg with
 | .lst l,[y],eg =>
  have eg:(if okD 30 y&&l.all (okD 30) then some (D.int (l.countP fun z=>eqD z y)) else none)=some r:=eg
  split at eg
  ·rename_i ho;rw[bF] at ho;cases eg;cases il with
   | cons hy t =>
    cases t;obtain⟨u,rfl,ru⟩:=rv.one;obtain⟨p,ws,rfl,ea,hl⟩:=bd.lst g;cases rx;obtain⟨its,rw',pl,_⟩:=I.list (SqL.of ea);obtain⟨as,ra⟩:=ab4 I g hy ho.1 ru;obtain⟨_,z⟩:=yj I g (a:=y) hl ho.2 rw';obtain⟨⟨cls,dd,data,sl⟩,h1,hc,n,hd⟩:=pl.isList;simp only at hc hd;subst hc hd;refine jU sO ⟨_,h1,rfl⟩ PySem.F.entry_list_count (PySem.F.args_list_count_2 _ _) (SeqAt.list_countAt p its.toArray n dd sl u (aa2 s.heap (toPy y))) ⟨h1,fun w hw =>?_,?_⟩
    ·exact w6 (A:=X.A) hu ra ho.1 z w (by simpa using hw)
    ·refine⟨.int (l.countP fun z=>eqD z y),H,I.tok _,⟨s.toks,?_⟩,q _ (.int _)⟩
     rw[abx I g (a:=y) hl ho.2 rw']
  ·cases eg
def aq0(d:D)(ds:List D):Option D:=match d,ds with
 | .tup l,[x]=>if okD 30 x&&l.all (okD 30) then some (.int (l.countP fun y=>eqD y x)) else none
 | _,_=>none
theorem aqb(hu:X.A.units+64 < cLine):X.K=K->MtR X "tuple.count" (rmOf K aq0):=fun hk=>by
 subst hk;intro zv s σ H x vs v us Q I rx rv ⟨F,d,ds,r,g,bd,il,eg,q⟩
 match d,ds,eg with
 | .tup l,[y],eg =>
  have eg:(if okD 30 y&&l.all (okD 30) then some (D.int (l.countP fun z=>eqD z y)) else none)=some r:=eg
  split at eg
  ·rename_i ho;rw[bF] at ho;cases eg;cases il with
   | cons hy t =>
    cases t;obtain⟨u,rfl,ru⟩:=rv.one;obtain⟨p,ws,rfl,ea,hl⟩:=bd.tup;cases rx;obtain⟨its,rw',pl,_⟩:=I.tuple (SqT.of (g _ _ ea));obtain⟨as,ra⟩:=ab4 I g hy ho.1 ru;obtain⟨_,z⟩:=yj I g (a:=y) hl ho.2 rw';obtain⟨⟨cls,dd,data,sl⟩,h1,hc,n,hd⟩:=pl;simp only at hc hd;subst hc hd;refine jU sE ⟨_,h1,rfl⟩ PySem.F.entry_tuple_count (PySem.F.args_tuple_count_2 _ _) (SeqAt.tuple_countAt p its.toArray n dd sl u (aa2 s.heap (toPy y))) ⟨h1,fun w hw =>?_,?_⟩
    ·exact w6 (A:=X.A) hu ra ho.1 z w (by simpa using hw)
    ·refine⟨.int (l.countP fun z=>eqD z y),H,I.tok _,⟨s.toks,?_⟩,q _ (.int _)⟩
     rw[abx I g (a:=y) hl ho.2 rw']
  ·cases eg
theorem PE.or{t1 t2:TE}(h1:PE X e t1)(h2:PE X e t2):PE X e fun σ H Q=>t1 σ H Q∨t2 σ H Q:=fun zv s σ H Q I h=>h.elim (h1 zv s σ H Q I) (h2 zv s σ H Q I)
def aij(d:D)(ds:List D):Option D:=match d with
 | .lst _=>aq1 d ds
 | .tup _=>aq0 d ds
 | _=>none
def aqf(i:Nat)(ms:M (List D)):M D:=(gj i).bind fun d0=>ms.bind fun ds=>(gj i).bind fun d=>(lift (match d0,d with
 | .lst _,.lst _=>some ()
 | .tup _,.tup _=>some ()
 | _,_=>none)).bind fun _=>lift (aij d ds)
theorem auw{i:Nat}{ms:M (List D)}{apos cpos:Pos}(hu:X.A.units+64 < cLine)(ho:PE X a (tVar i))(ha:ED K X (e::es) ms)
  (hbase:gC a "count" X.env (eval a X.env)=eval a X.env:=by rfl)
  (hfew:((jA cpos (aW (e::es) X.env)).all (fun x => !x.1)&&(backToKw cpos (keywordEach [] X.env)).all (fun x=>x.1.isSome)
   && decide ((e::es).length+([]:List Keyword).length+(if ([]:List Keyword).isEmpty then 0 else 1) < 30))=true:=by rfl)
  (hline:(apos.endLine==cpos.line)=true:=by rfl) (hs:aW (e::es) X.env=(false,eval e X.env)::aW es X.env:=by rfl) (hplain:(jA cpos (aW es X.env)).any (·.1)=false:=by rfl) :
  EV K X (.Call (.Attribute a "count" apos) (e::es) [] cpos) (aqf i ms):=EV.mk fun hk=>PE.imp (PE.or (axc sU sO PySem.F.type_list_count (atw hu hk) ho (ha hk) hbase hfew hline hs hplain) (axc PySem.F.plainAttrs_tuple sE PySem.F.type_tuple_count (aqb hu hk) ho (ha hk) hbase hfew hline hs hplain)) fun σ H Q hq0=>by
 obtain⟨tg,F,ρ,d,ρ',G,em,q⟩:=hq0;obtain⟨d0,ρ0,e0,em1⟩:=bc em;obtain⟨ds,ρ1,e1,em3⟩:=bc em1;obtain⟨d1,ρ2,e2,em4⟩:=bc em3;obtain⟨u0,ρ9,e9,em5⟩:=bc em4;obtain⟨e3,rfl⟩:=ie em5;obtain⟨g9,rfl⟩:=ie e9;obtain⟨rfl,v,hv,bv⟩:=qm G e0;cases d0 with
 | lst l =>
  cases d1 with
  | lst l1 =>
   obtain⟨b,xs,rfl,hb,_⟩:=bv.lst G.sub;refine .inl ⟨_,hv,.inl ⟨rfl,xs,SqL.of hb⟩,tg,F,_,ds,ρ1,G,e1,fun vs H1 F1 G1 x1 r1 =>?_⟩
   obtain⟨rfl,v',hv',b'⟩:=qm G1 e2;rw[hv] at hv';cases hv';exact⟨F1,.lst l1,ds,d,G1.sub,b',r1,e3,fun w iw=>q w H1 F1 G1 x1 iw⟩
  | _=>cases g9
 | tup l =>
  cases d1 with
  | tup l1 =>
   obtain⟨b,xs,rfl,hb,_⟩:=bv.tup;refine .inr ⟨_,hv,.inr (.inl ⟨rfl,.inr ⟨xs,G.sub _ _ hb⟩⟩),tg,F,_,ds,ρ1,G,e1,fun vs H1 F1 G1 x1 r1 =>?_⟩
   obtain⟨rfl,v',hv',b'⟩:=qm G1 e2;rw[hv] at hv';cases hv';exact⟨F1,.tup l1,ds,d,G1.sub,b',r1,e3,fun w iw=>q w H1 F1 G1 x1 iw⟩
  | _=>cases g9
 | _=>cases d1 <;> cases g9
def a1x(d:D)(ds:List D):Option D:=match d,ds with
 | .lst l,[x]=>if okD 30 x&&l.all (okD 30) then (l.findIdx? fun y=>eqD y x).map fun i=>.int i else none
 | _,_=>none
def insD(l:List D)(k:Int)(d:D):List D:=let j:=if k < 0 then (k+(l.length:Int)).toNat else min k.toNat l.length;l.take j++d::l.drop j
def aya(l ds:List D):Option (D×List D):=match ds with
 | [.int k,d]=>if -9223372036854775808<=k/\k < 9223372036854775808/\l.length < capS then some (.non,insD l k d) else none
 | _=>none
section
variable(ρ:Ro)
@[simp] theorem a3i(i:Nat)(g:D->List D->Option D)(ms:M (List D)):a6a i g ms ρ=((gj i).bind fun d0=>(lift (match d0 with
 | .lst _=>some ()
 | _=>none)).bind fun _=>ms.bind fun ds=>(gj i).bind fun d=>lift (g d ds)) ρ:=rfl
@[simp] theorem azh(l:List D)(x:D):aq1 (.lst l) [x]=if okD 30 x&&l.all (okD 30) then some (.int (l.countP fun y=>eqD y x)) else none:=rfl
@[simp] theorem azf(l:List D)(x:D):a1x (.lst l) [x]=if okD 30 x&&l.all (okD 30) then (l.findIdx? fun y=>eqD y x).map (fun i=>D.int i) else none:=rfl
@[simp] theorem ax9(l:List D)(k:Int)(d:D):aya l [.int k,d]=if -9223372036854775808<=k/\k < 9223372036854775808/\l.length < capS then some (.non,insD l k d) else none:=rfl
end
end
end Dn
namespace En
open PySem PySem.Builtin
def It1(k:Bool)(h:Heap)(it l:Addr)(i:Nat):Prop:=cond k (h.IsTupleIter it l i) (h.IsListIter it l i)
def Sq1(k:Bool)(h:Heap)(l:Addr)(xs:Array Value):Prop:=cond k (h.IsTuple l xs) (h.IsList l xs)
section
variable{prog:aZ}{w:World}{A:cI}{E:Value->aJ->Prop}{s:aJ}
theorem axm{it t:Addr}{i:Nat}{xs:Array Value}{x:Value}{Q:Value->aJ->Prop}(h1:s.heap.IsTupleIter it t i)(h2:s.heap.IsTuple t xs)(hx:xs[i]? = some x)
  (q:∀h',h'.IsTupleIter it t (i+1)->cH it s.heap h'->Q x { s with heap:=h' }):wpAny (model prog w) A (SmallTypes.nextOf (.ref it)) Q E s:=by
 obtain⟨o1,e1,c1,d1⟩:=id h1;obtain⟨o2,e2,_,k2,d2⟩:=h2;have nn:¬((dN t==gA)=true):=dX;unfold SmallTypes.nextOf;refine aA (dH (name:=iM "__next__") h1.typeIs jB (eF jB h1.typeIs rB ?_ (qM _)));refine aA (m:=field (.ref it) 0) (dB e1 d1 (x:=.ref t) rfl ?_);show wpAny _ _ (if (dN t==gA)=true then _ else (field (.ref it) 1 >>= _)) _ _ s;rw[if_neg nn]
 refine aA (m:=field (.ref it) 1) (dB e1 d1 (x:=.int i 0) rfl ?_);refine aA (m:=seqItems? (.ref t)) (dO e2 d2 ?_);simp only[aX,hx];refine aA (iG e1 d1 (by simp) (aH ⟨x,rfl,aH (q _ ?_ (cB ..))⟩))
 refine⟨_,bZ _ e1 (iQ (dF d1 _)),(mG ..).trans c1,?_⟩;rw[dF d1];simp[lC]
theorem ays{it t:Addr}{i:Nat}{xs:Array Value}{Q:Value->aJ->Prop}(hh:A.handled=none)(h1:s.heap.IsTupleIter it t i)(h2:s.heap.IsTuple t xs)(hx:xs[i]? = none)
  (q:∀h' e,uL it s.heap h'->(∃o,h'.get? e=some o/\o.cls=.type "StopIteration")->E (.ref e) { s with heap:=h' }):wpAny (model prog w) A (SmallTypes.nextOf (.ref it)) Q E s:=by
 obtain⟨o1,e1,c1,d1⟩:=id h1;obtain⟨o2,e2,_,k2,d2⟩:=h2;have nn:¬((dN t==gA)=true):=dX;unfold SmallTypes.nextOf;refine aA (dH (name:=iM "__next__") h1.typeIs jB (eF jB h1.typeIs rB ?_ (qM _)));refine aA (m:=field (.ref it) 0) (dB e1 d1 (x:=.ref t) rfl ?_);show wpAny _ _ (if (dN t==gA)=true then _ else (field (.ref it) 1 >>= _)) _ _ s;rw[if_neg nn]
 refine aA (m:=field (.ref it) 1) (dB e1 d1 (x:=.int i 0) rfl ?_);refine aA (m:=seqItems? (.ref t)) (dO e2 d2 ?_);simp only[aX,hx];refine aA (iH (aA (iG e1 d1 (by simp) ?_)))
 refine aA (m:=newExc (.type "StopIteration") []) ?_;simp only[newExc,newTuple];refine aA (bU ?_ (by size_fits))
 refine aA (m:=firstArgMember _ _) (wpAny_of_eq (a:=gA) (by first | rfl | (simp only[firstArgMember];rfl)) (bU ?_ (by size_fits)))
 simp only[raiseNew];refine aA (wpAny_handled ?_);first | rw[show A.in1.handled=none from hh] | rw[hh]
 refine aA (aH (wpAny_throw (q _ _ ?_ ⟨_,aK _ rfl,rfl⟩)));exact((cB ..).extBut.push _).push _
theorem src(hh:A.handled=none)(k:Bool)(it l:Addr)(ne:l≠it)(xs:Array Value):Draws prog w A it [it,l] xs.size (fun i v=>xs[i]? = some v) (fun i h=>It1 k h it l i/\Sq1 k h l xs):=by
 cases k with
 | false=>exact Draws.list hh it l ne xs
 | true=>exact{
   live:=fun _ _ z=>let ⟨o,e,_⟩:=z.1;⟨o,e⟩
   frame:=fun _ _ _ z kk=>⟨(let ⟨o,e,r⟩:=z.1;⟨o,kk it (by simp) o e,r⟩),(let ⟨o,e,r⟩:=z.2;⟨o,kk l (by simp) o e,r⟩)⟩
   item:=fun i s Q E hi z q=>axm z.1 z.2 (x:=xs[i]) (by simp[hi]) fun h' z' sb=>q _ h' s.toks (by simp[hi]) ⟨z',Heap.IsTuple.extBut z.2 sb.extBut ne⟩ sb
   done:=fun s Q E z q=>ays hh z.1 z.2 (by simp) q }
theorem It1.at{k:Bool}{h h':Heap}{it l:Addr}{i:Nat}(x:It1 k h it l i)(e:∀o,h.get? it=some o->h'.get? it=some o):It1 k h' it l i:=by
 cases k <;> exact(let ⟨o,z,r⟩:=x;⟨o,e _ z,r⟩)
theorem It1.got{k:Bool}{h:Heap}{it l:Addr}{i:Nat}(x:It1 k h it l i):∃o,h.get? it=some o/\∀v,o.data≠.cell v:=by
 cases k <;> exact(let ⟨o,z,_,r⟩:=x;⟨o,z,fun v e=>by rw[r] at e;cases e⟩)
theorem Sq1.at{k:Bool}{h h':Heap}{l:Addr}{xs:Array Value}(x:Sq1 k h l xs)(e:∀o,h.get? l=some o->h'.get? l=some o):Sq1 k h' l xs:=by
 cases k <;> exact(let ⟨o,z,r⟩:=x;⟨o,e _ z,r⟩)
theorem Sq1.got{k:Bool}{h:Heap}{l:Addr}{xs:Array Value}(x:Sq1 k h l xs):∃o,h.get? l=some o:=by
 cases k <;> exact(let ⟨o,z,_⟩:=x;⟨o,z⟩)
theorem ali{k:Bool}{l:Addr}{xs:Array Value}{Q:Value->aJ->Prop}(h:Sq1 k s.heap l xs)
  (q:Q (.ref s.heap.objs.size) { s with heap:=s.heap.push { cls:=.type (cond k "tuple_iterator" "list_iterator"),data:=.fields #[.ref l,.int 0 0] } }):wpAny (model prog w) A (pyIter (.ref l)) Q E s:=by
 cases k with
 | false=>exact wpAny_pyIter_list h q
 | true=>exact wpAny_pyIter_tuple h q
theorem aeg{k:Bool}{h:Heap}{l a:Addr}(e:h.get? a=some { cls:=.type (cond k "tuple_iterator" "list_iterator"),data:=.fields #[.ref l,.int 0 0] }):It1 k h a l 0:=by
 cases k <;> exact⟨_,e,rfl,rfl⟩
end
set_option maxRecDepth 100000
abbrev eh1(k:Bool)(h:Heap)(l:Addr):Heap:=h.push { cls:=.type (cond k "tuple_iterator" "list_iterator"),data:=.fields #[.ref l,.int 0 0] }
abbrev eh2(k:Bool)(h:Heap)(l:Addr):Heap:=(eh1 k h l).push { cls:=.type "enumerate", data:=.fields #[.none,.bool false,.ref h.objs.size,lC 0,.none,.none] }
theorem axs(k:Bool)(l:Addr)(o:Obj)(xs:Array Value) :
  Meets (iJ.«enumerate.__new__» ⟨[.type "enumerate", .ref l],[]⟩) (fun _ R s=>s.heap.get? l=some o/\Sq1 k s.heap l xs/\R (.ok (.ret (.ref (eh1 k s.heap l).objs.size))) { s with heap:=eh2 k s.heap l }) :=
 .of_wp fun prog w A R s h=>by
  obtain⟨hp,g,d,tk,os⟩:=s;obtain⟨ho,r1,h⟩:=h;have sb:=sub_enumerate;have r1:Sq1 k (mO ⟨hp,g,d,tk,os⟩) l xs:=r1;wp_walk using mJ ho;refine wpAny_stack_any fun st=>aH ?_
  split
  ·rename_i c _ _ _ _ _;cases(c==iV "enumerate") <;> (wp_walk using mJ ho,ali r1;exact⟨_,rfl,h⟩)
  ·wp_walk using mJ ho,ali r1;exact⟨_,rfl,h⟩
theorem ar5{prog:aZ}{w:World}{A:cI}{E:Value->aJ->Prop}{s:aJ}{k:Bool}{l:Addr}{xs:Array Value}{Q:Value->aJ->Prop}(s1:Sq1 k s.heap l xs)
  (q:∀h',IsEnum h' (s.heap.objs.size+1) s.heap.objs.size 0 .none->It1 k h' s.heap.objs.size l 0->h'.objs.size=s.heap.objs.size+2->(∀b o,s.heap.get? b=some o->h'.get? b=some o)->Q (.ref (s.heap.objs.size+1)) { s with heap:=h' }) :
  wpAny (model prog w) A (call (.type "enumerate") [.ref l]) Q E s:=by
 obtain⟨o,ho⟩:=s1.got;refine callType_new F.called_enumerate (by decide) (F.typeCall_enumerate_1 _) (F.newCall_enumerate_1 _) (fun obj=>F.args_object_init_2 obj _) F.entry_enumerate_new (axs k l o xs) ⟨ho,s1,?_⟩
 have z1:(eh1 k s.heap l).objs.size=s.heap.objs.size+1:=bJ ..
 have g2:(eh2 k s.heap l).get? (eh1 k s.heap l).objs.size=some _:=aK _ rfl;have g1:(eh2 k s.heap l).get? s.heap.objs.size=some _:=aB _ (aK _ rfl);rw[z1] at g2;show _/\_;rw[z1];exact⟨⟨_,g2,rfl⟩,q _ g2 (aeg g1) (by rw[bJ,z1]) fun b o x=>aB _ (aB _ x)⟩
end En
namespace En
open PySem PySem.Builtin
set_option maxRecDepth 100000
theorem awe(v1 v2:Value):checkTypeCall "zip" ⟨[v1,v2],[]⟩=pure ():=by kernel_rfl
theorem axp(v1 v2:Value):checkBuiltinCall "zip.__new__" ⟨[.type "zip", v1,v2],[]⟩=pure ():=by kernel_rfl
theorem azc(o v1 v2:Value):rY "object.__init__" ⟨[o,v1,v2],[]⟩:=by
 unfold rY;rw[signature?_of (id := "object.__init__") (n:=['_','_','t','i','n','i','_','_']) (o:=['t','c','e','j','b','o']) (by kernel_rfl) wN];kernel_rfl
abbrev Row2(h:Heap)(T:Addr)(v1 v2:Value):Prop:=h.get? T=some { cls:=.type "tuple", data:=.seq #[v1,v2] }
structure Apart2 (z TI TO i1 i2 l1 l2:Addr):Prop where
 nTIz:TI≠z
 nTOz:TO≠z
 nTOTI:TO≠TI
 ni1z:i1≠z
 ni1TI:i1≠TI
 ni1TO:i1≠TO
 ni2z:i2≠z
 ni2TI:i2≠TI
 ni2TO:i2≠TO
 ni2i1:i2≠i1
 nl1z:l1≠z
 nl1TO:l1≠TO
 nl1i1:l1≠i1
 nl1i2:l1≠i2
 nl2z:l2≠z
 nl2TO:l2≠TO
 nl2i1:l2≠i1
 nl2i2:l2≠i2
section
variable{prog:aZ}{w:World}{A:cI}{E:Value->aJ->Prop}{s:aJ}
theorem az8{T:Addr}{v1 v2 x:Value}{Q:Unit->aJ->Prop}(h:Row2 s.heap T v1 v2)(q:∀h',Row2 h' T x v2->cH T s.heap h'->Q () { s with heap:=h' }):wpAny (model prog w) A (updateSeq T (·.setIfInBounds 0 x)) Q E s:=by
 refine wpAny_updateSeq h rfl (q _ (show qZ _ T=_ from ?_) (cB ..))
 rw[bZ _ h rfl];simp[gK]
theorem az7{T:Addr}{v1 v2 x:Value}{Q:Unit->aJ->Prop}(h:Row2 s.heap T v1 v2)(q:∀h',Row2 h' T v1 x->cH T s.heap h'->Q () { s with heap:=h' }):wpAny (model prog w) A (updateSeq T (·.setIfInBounds 1 x)) Q E s:=by
 refine wpAny_updateSeq h rfl (q _ (show qZ _ T=_ from ?_) (cB ..))
 rw[bZ _ h rfl];simp[gK]
theorem aox{z TI TO i1 i2 l1 l2:Addr}{k1 k2:Bool}{i:Nat}{x1 x2:Array Value}{v1 v2:Value}{Q:Value->aJ->Prop}(hh:A.handled=none)(D:Apart2 z TI TO i1 i2 l1 l2)
  (hz:IsZip s.heap z TI TO .none) (hI:Row2 s.heap TI (.ref i1) (.ref i2)) (hO:Row2 s.heap TO v1 v2) (h1:It1 k1 s.heap i1 l1 i) (s1:Sq1 k1 s.heap l1 x1) (h2:It1 k2 s.heap i2 l2 i) (s2:Sq1 k2 s.heap l2 x2) (b1:i < x1.size) (b2:i < x2.size)
  (q:∀h' tk y1 y2,x1[i]? = some y1->x2[i]? = some y2->IsZip h' z TI TO (lC s.heap.objs.size)->Row2 h' TO y1 y2->It1 k1 h' i1 l1 (i+1)->It1 k2 h' i2 l2 (i+1)->Row2 h' s.heap.objs.size y1 y2->h'.objs.size=s.heap.objs.size+1 ->
   (∀c o,c≠z->c≠TO->c≠i1->c≠i2->s.heap.get? c=some o->h'.get? c=some o)->Q (.ref s.heap.objs.size) { s with heap:=h',toks:=tk }) :
  wpAny (model prog w) A (iJ.«zip.__next__» ⟨[.ref z],[]⟩) (fun fin s'=>∃v,fin=.done (.ret v)/\Q v s') E s:=by
 refine aA (m:=field (.ref z) 2) (dB hz rfl (x:=.bool false) rfl ?_);refine aA (m:=field (.ref z) 3) (dB hz rfl (x:=.ref TI) rfl ?_);refine aA (dO hI rfl ?_);refine aA (m:=SmallTypes.ownedTupleIsFree (.ref z)) ?_;unfold SmallTypes.ownedTupleIsFree;refine aA (dB hz rfl (x:=.none) rfl (aH ?_));simp only[if_true];refine aA (iH (aA (dB hz rfl (x:=.ref TO) rfl ?_)));refine aA (eU hz (by simp) fun g0 z0 a0 =>?_)
 have z0:IsZip g0 z TI TO .ellipsis:=z0;refine aA ?_;simp only[mZ,nU,lE,oN];refine aA (aA (wpAny_onRaise ?_));refine aA (m:=SmallTypes.nextOf (.ref i1)) ((src hh k1 i1 l1 D.nl1i1 x1).item i _ _ _ b1 ⟨(h1.at fun _ e=>(a0.extBut _ _ D.ni1z e)),(s1.at fun _ e=>(a0.extBut _ _ D.nl1z e))⟩ fun y1 f1 t1 p1 q1 c1=>aH ?_)
 have c1:cH i1 g0 f1:=c1;have P1:Row2 f1 TO v1 v2:=(c1.extBut _ _ D.ni1TO.symm (a0.extBut _ _ D.nTOz hO));refine aA (dO P1 rfl ?_);refine aA (az8 P1 fun g1 O1 a1 =>?_)
 have a1:cH TO f1 g1:=a1;refine aA (wpAny_letGo (aH ?_));refine aA (aA (wpAny_onRaise ?_));refine aA (m:=SmallTypes.nextOf (.ref i2)) ((src hh k2 i2 l2 D.nl2i2 x2).item i _ _ _ b2 ⟨(h2.at fun _ e=>(a1.extBut _ _ D.ni2TO (c1.extBut _ _ D.ni2i1 (a0.extBut _ _ D.ni2z e)))),(s2.at fun _ e=>(a1.extBut _ _ D.nl2TO (c1.extBut _ _ D.nl2i1 (a0.extBut _ _ D.nl2z e))))⟩ fun y2 f2 t2 p2 q2 c2=>aH ?_)
 have c2:cH i2 g1 f2:=c2;have P2:Row2 f2 TO y1 v2:=(c2.extBut _ _ D.ni2TO.symm O1);refine aA (dO P2 rfl ?_);refine aA (az7 P2 fun g2 O2 a2 =>?_)
 have a2:cH TO f2 g2:=a2;refine aA (wpAny_letGo (aH (aH ?_)));refine aA (dO O2 rfl (aA (wpAny_newTuple ?_)));have sz:g2.objs.size=s.heap.objs.size:=by rw[a2.1,c2.1,a1.1,c1.1,a0.1]
 have zn:IsZip g2 z TI TO .ellipsis:=(a2.extBut _ _ D.nTOz.symm (c2.extBut _ _ D.ni2z.symm (a1.extBut _ _ D.nTOz.symm (c1.extBut _ _ D.ni1z.symm z0))));have kn:∀c o,c≠z->c≠TO->c≠i1->c≠i2->s.heap.get? c=some o->g2.get? c=some o:=fun c o n0 n1 n2 n3 e=>(a2.extBut _ _ n1 (c2.extBut _ _ n3 (a1.extBut _ _ n1 (c1.extBut _ _ n2 (a0.extBut _ _ n0 e)))))
 have j1:It1 k1 g2 i1 l1 (i+1):=q1.1.at fun _ e=>(a2.extBut _ _ D.ni1TO (c2.extBut _ _ D.ni2i1.symm (a1.extBut _ _ D.ni1TO e)))
 have j2:It1 k2 g2 i2 l2 (i+1):=q2.1.at fun _ e=>(a2.extBut _ _ D.ni2TO e)
 have lz:z < g2.objs.size:=aQ zn;refine aA (m:=SmallTypes.ownedTupleHandOut (.ref z) (.ref g2.objs.size)) ?_;unfold SmallTypes.ownedTupleHandOut;have zp:IsZip (g2.push { cls:=.type "tuple", data:=.seq #[y1,y2] }) z TI TO .ellipsis:=aB _ zn;refine aA (eU zp (by simp) fun e1 z1 b1' =>?_)
 have z1:IsZip e1 z TI TO (lC g2.objs.size):=z1;refine eU z1 (by simp) fun e2 z2 b2' =>?_
 have z2:IsZip e2 z TI TO (lC g2.objs.size):=z2;have up:∀c o,c≠z->g2.get? c=some o->e2.get? c=some o:=fun c o n1 e=>b2'.extBut _ _ n1 (b1'.extBut _ _ n1 (aB _ e))
 have t2:Row2 e2 g2.objs.size y1 y2:=b2'.extBut _ _ (gP lz) (b1'.extBut _ _ (gP lz) (aK _ rfl));have s2':e2.objs.size=g2.objs.size+1:=by rw[b2'.1,b1'.1,bJ]
 rw[sz] at z2 t2 s2';refine aH ⟨_,rfl,?_⟩;show Q (.ref g2.objs.size) _;rw[sz];exact q e2 _ y1 y2 p1 p2 z2 (up _ _ D.nTOz O2) (j1.at fun _ e=>up _ _ D.ni1z e) (j2.at fun _ e=>up _ _ D.ni2z e) t2 s2' fun c o n0 n1 n2 n3 e=>up c o n0 (kn c o n0 n1 n2 n3 e)
theorem asl{z TI TO i1 i2 l1 l2:Addr}{k1:Bool}{x1:Array Value}{v1 v2:Value}{Q:Fin->aJ->Prop}(hh:A.handled=none)(D:Apart2 z TI TO i1 i2 l1 l2)
  (hz:IsZip s.heap z TI TO .none) (hI:Row2 s.heap TI (.ref i1) (.ref i2)) (hO:Row2 s.heap TO v1 v2) (h1:It1 k1 s.heap i1 l1 x1.size) (s1:Sq1 k1 s.heap l1 x1)
  (q:∀h' e,(∀c o,c≠z->c≠i1->s.heap.get? c=some o->h'.get? c=some o)->(∃o,h'.get? e=some o/\o.cls=.type "StopIteration")->E (.ref e) { s with heap:=h' }) :
  wpAny (model prog w) A (iJ.«zip.__next__» ⟨[.ref z],[]⟩) Q E s:=by
 refine aA (m:=field (.ref z) 2) (dB hz rfl (x:=.bool false) rfl ?_);refine aA (m:=field (.ref z) 3) (dB hz rfl (x:=.ref TI) rfl ?_);refine aA (dO hI rfl ?_);refine aA (m:=SmallTypes.ownedTupleIsFree (.ref z)) ?_;unfold SmallTypes.ownedTupleIsFree;refine aA (dB hz rfl (x:=.none) rfl (aH ?_));simp only[if_true];refine aA (iH (aA (dB hz rfl (x:=.ref TO) rfl ?_)));refine aA (eU hz (by simp) fun g0 z0 a0 =>?_)
 have z0:IsZip g0 z TI TO .ellipsis:=z0;refine aA ?_;simp only[mZ,nU,lE,oN];refine aA (aA (wpAny_onRaise ?_));refine aA (m:=SmallTypes.nextOf (.ref i1)) ((src hh k1 i1 l1 D.nl1i1 x1).done _ _ _ ⟨(h1.at fun _ e=>a0.extBut _ _ D.ni1z e),(s1.at fun _ e=>a0.extBut _ _ D.nl1z e)⟩ fun f1 e c1 ⟨oe,he,ce⟩ =>?_)
 have zf:IsZip f1 z TI TO .ellipsis:=c1 _ _ D.ni1z.symm z0;have ez:e≠z:=fun x=>by subst x;rw[zf] at he;cases he;simp at ce
 refine eU zf (by simp) fun f2 _ a1=>q f2 e (fun c o n1 n2 y=>a1.extBut _ _ n1 (c1 _ _ n2 (a0.extBut _ _ n1 y))) ⟨oe,a1.extBut _ _ ez he,ce⟩
abbrev ao0(h:Heap)(k1 k2:Bool)(l1 l2:Addr):Heap:=h.push { cls:=.type (cond k1 "tuple_iterator" "list_iterator"),data:=.fields #[.ref l1,.int 0 0] }
abbrev asr(h:Heap)(k1 k2:Bool)(l1 l2:Addr):Heap:=(ao0 h k1 k2 l1 l2).push { cls:=.type (cond k2 "tuple_iterator" "list_iterator"),data:=.fields #[.ref l2,.int 0 0] }
abbrev asp(h:Heap)(k1 k2:Bool)(l1 l2:Addr):Heap:=(asr h k1 k2 l1 l2).push { cls:=.type "tuple", data:=.seq #[.ref h.objs.size,.ref (ao0 h k1 k2 l1 l2).objs.size] }
abbrev asn(h:Heap)(k1 k2:Bool)(l1 l2:Addr):Heap:=(asp h k1 k2 l1 l2).push { cls:=.type "tuple", data:=.seq #[.none,.none] }
abbrev aks(h:Heap)(k1 k2:Bool)(l1 l2:Addr):Heap:=(asn h k1 k2 l1 l2).push { cls:=.type "zip", data:=.fields #[.none,.bool false,.bool false,.ref (asr h k1 k2 l1 l2).objs.size,.ref (asp h k1 k2 l1 l2).objs.size] }
theorem axr(k1 k2:Bool)(l1 l2:Addr)(x1 x2:Array Value) :
  Meets (iJ.«zip.__new__» ⟨[.type "zip", .ref l1,.ref l2],[]⟩) (fun _ R s=>Sq1 k1 s.heap l1 x1/\Sq1 k2 s.heap l2 x2/\R (.ok (.ret (.ref (asn s.heap k1 k2 l1 l2).objs.size))) { s with heap:=aks s.heap k1 k2 l1 l2 }) :=
 .of_wp fun prog w A R s h=>by
  obtain⟨hp,g,d,tk,os⟩:=s;obtain⟨s1,s2,h⟩:=h;have sb:=sub_zip;have r1:Sq1 k1 (mO ⟨hp,g,d,tk,os⟩) l1 x1:=s1.at fun _ e=>e
  have r2:Sq1 k2 (mO ⟨ao0 hp k1 k2 l1 l2,g,d,tk,os⟩) l2 x2:=s2.at fun _ e=>aB _ (e)
  wp_walk using ali r1,ali r2;exact⟨_,rfl,h⟩
theorem arz{k1 k2:Bool}{l1 l2:Addr}{x1 x2:Array Value}{Q:Value->aJ->Prop}(s1:Sq1 k1 s.heap l1 x1)(s2:Sq1 k2 s.heap l2 x2)
  (q:∀h',IsZip h' (s.heap.objs.size+4) (s.heap.objs.size+2) (s.heap.objs.size+3) .none->Row2 h' (s.heap.objs.size+2) (.ref s.heap.objs.size) (.ref (s.heap.objs.size+1))->Row2 h' (s.heap.objs.size+3) .none .none->It1 k1 h' s.heap.objs.size l1 0->It1 k2 h' (s.heap.objs.size+1) l2 0->h'.objs.size=s.heap.objs.size+5->(∀c o,s.heap.get? c=some o->h'.get? c=some o)->Q (.ref (s.heap.objs.size+4)) { s with heap:=h' }) :
  wpAny (model prog w) A (call (.type "zip") [.ref l1,.ref l2]) Q E s:=by
 refine callType_new F.called_zip (by decide) (awe _ _) (axp _ _) (fun obj=>azc obj _ _) wH (axr k1 k2 l1 l2 x1 x2) ⟨s1,s2,?_⟩
 have e1:(ao0 s.heap k1 k2 l1 l2).objs.size=s.heap.objs.size+1:=by rw[bJ]
 have e2:(asr s.heap k1 k2 l1 l2).objs.size=s.heap.objs.size+2:=by rw[bJ,e1]
 have eI:(asp s.heap k1 k2 l1 l2).objs.size=s.heap.objs.size+3:=by rw[bJ,e2]
 have eO:(asn s.heap k1 k2 l1 l2).objs.size=s.heap.objs.size+4:=by rw[bJ,eI]
 have eZ:(aks s.heap k1 k2 l1 l2).objs.size=s.heap.objs.size+5:=by rw[bJ,eO]
 have gZ:(aks s.heap k1 k2 l1 l2).get? (asn s.heap k1 k2 l1 l2).objs.size=some _:=aK _ rfl;have gO:(aks s.heap k1 k2 l1 l2).get? (asp s.heap k1 k2 l1 l2).objs.size=some _:=aB _ (aK _ rfl);have gI:(aks s.heap k1 k2 l1 l2).get? (asr s.heap k1 k2 l1 l2).objs.size=some _:=aB _ (aB _ (aK _ rfl));have j1:(aks s.heap k1 k2 l1 l2).get? s.heap.objs.size=some _:=aB _ (aB _ (aB _ (aB _ (aK _ rfl))));have j2:(aks s.heap k1 k2 l1 l2).get? (ao0 s.heap k1 k2 l1 l2).objs.size=some _:=aB _ (aB _ (aB _ (aK _ rfl)));show _/\_;rw[e2,eI,eO] at gZ;rw[e1,e2] at gI;rw[eI] at gO;rw[e1] at j2;rw[eO];exact⟨⟨_,gZ,rfl⟩,q _ gZ gI gO (aeg j1) (aeg j2) eZ fun c o x=>aB _ (aB _ (aB _ (aB _ (aB _ (x)))))⟩
end
theorem awd(v1 v2 v3:Value):checkTypeCall "zip" ⟨[v1,v2,v3],[]⟩=pure ():=by kernel_rfl
theorem axo(v1 v2 v3:Value):checkBuiltinCall "zip.__new__" ⟨[.type "zip", v1,v2,v3],[]⟩=pure ():=by kernel_rfl
theorem azb(o v1 v2 v3:Value):rY "object.__init__" ⟨[o,v1,v2,v3],[]⟩:=by
 unfold rY;rw[signature?_of (id := "object.__init__") (n:=['_','_','t','i','n','i','_','_']) (o:=['t','c','e','j','b','o']) (by kernel_rfl) wN];kernel_rfl
abbrev Row3(h:Heap)(T:Addr)(v1 v2 v3:Value):Prop:=h.get? T=some { cls:=.type "tuple", data:=.seq #[v1,v2,v3] }
structure Apart3 (z TI TO i1 i2 i3 l1 l2 l3:Addr):Prop where
 nTIz:TI≠z
 nTOz:TO≠z
 nTOTI:TO≠TI
 ni1z:i1≠z
 ni1TI:i1≠TI
 ni1TO:i1≠TO
 ni2z:i2≠z
 ni2TI:i2≠TI
 ni2TO:i2≠TO
 ni2i1:i2≠i1
 ni3z:i3≠z
 ni3TI:i3≠TI
 ni3TO:i3≠TO
 ni3i1:i3≠i1
 ni3i2:i3≠i2
 nl1z:l1≠z
 nl1TO:l1≠TO
 nl1i1:l1≠i1
 nl1i2:l1≠i2
 nl1i3:l1≠i3
 nl2z:l2≠z
 nl2TO:l2≠TO
 nl2i1:l2≠i1
 nl2i2:l2≠i2
 nl2i3:l2≠i3
 nl3z:l3≠z
 nl3TO:l3≠TO
 nl3i1:l3≠i1
 nl3i2:l3≠i2
 nl3i3:l3≠i3
section
variable{prog:aZ}{w:World}{A:cI}{E:Value->aJ->Prop}{s:aJ}
theorem az6{T:Addr}{v1 v2 v3 x:Value}{Q:Unit->aJ->Prop}(h:Row3 s.heap T v1 v2 v3)(q:∀h',Row3 h' T x v2 v3->cH T s.heap h'->Q () { s with heap:=h' }):wpAny (model prog w) A (updateSeq T (·.setIfInBounds 0 x)) Q E s:=by
 refine wpAny_updateSeq h rfl (q _ (show qZ _ T=_ from ?_) (cB ..))
 rw[bZ _ h rfl];simp[gK]
theorem az5{T:Addr}{v1 v2 v3 x:Value}{Q:Unit->aJ->Prop}(h:Row3 s.heap T v1 v2 v3)(q:∀h',Row3 h' T v1 x v3->cH T s.heap h'->Q () { s with heap:=h' }):wpAny (model prog w) A (updateSeq T (·.setIfInBounds 1 x)) Q E s:=by
 refine wpAny_updateSeq h rfl (q _ (show qZ _ T=_ from ?_) (cB ..))
 rw[bZ _ h rfl];simp[gK]
theorem az4{T:Addr}{v1 v2 v3 x:Value}{Q:Unit->aJ->Prop}(h:Row3 s.heap T v1 v2 v3)(q:∀h',Row3 h' T v1 v2 x->cH T s.heap h'->Q () { s with heap:=h' }):wpAny (model prog w) A (updateSeq T (·.setIfInBounds 2 x)) Q E s:=by
 refine wpAny_updateSeq h rfl (q _ (show qZ _ T=_ from ?_) (cB ..))
 rw[bZ _ h rfl];simp[gK]
theorem aow{z TI TO i1 i2 i3 l1 l2 l3:Addr}{k1 k2 k3:Bool}{i:Nat}{x1 x2 x3:Array Value}{v1 v2 v3:Value}{Q:Value->aJ->Prop}(hh:A.handled=none)(D:Apart3 z TI TO i1 i2 i3 l1 l2 l3)
  (hz:IsZip s.heap z TI TO .none) (hI:Row3 s.heap TI (.ref i1) (.ref i2) (.ref i3)) (hO:Row3 s.heap TO v1 v2 v3) (h1:It1 k1 s.heap i1 l1 i) (s1:Sq1 k1 s.heap l1 x1) (h2:It1 k2 s.heap i2 l2 i) (s2:Sq1 k2 s.heap l2 x2) (h3:It1 k3 s.heap i3 l3 i) (s3:Sq1 k3 s.heap l3 x3) (b1:i < x1.size) (b2:i < x2.size) (b3:i < x3.size)
  (q:∀h' tk y1 y2 y3,x1[i]? = some y1->x2[i]? = some y2->x3[i]? = some y3->IsZip h' z TI TO (lC s.heap.objs.size)->Row3 h' TO y1 y2 y3->It1 k1 h' i1 l1 (i+1)->It1 k2 h' i2 l2 (i+1)->It1 k3 h' i3 l3 (i+1)->Row3 h' s.heap.objs.size y1 y2 y3->h'.objs.size=s.heap.objs.size+1 ->
   (∀c o,c≠z->c≠TO->c≠i1->c≠i2->c≠i3->s.heap.get? c=some o->h'.get? c=some o)->Q (.ref s.heap.objs.size) { s with heap:=h',toks:=tk }) :
  wpAny (model prog w) A (iJ.«zip.__next__» ⟨[.ref z],[]⟩) (fun fin s'=>∃v,fin=.done (.ret v)/\Q v s') E s:=by
 refine aA (m:=field (.ref z) 2) (dB hz rfl (x:=.bool false) rfl ?_);refine aA (m:=field (.ref z) 3) (dB hz rfl (x:=.ref TI) rfl ?_);refine aA (dO hI rfl ?_);refine aA (m:=SmallTypes.ownedTupleIsFree (.ref z)) ?_;unfold SmallTypes.ownedTupleIsFree;refine aA (dB hz rfl (x:=.none) rfl (aH ?_));simp only[if_true];refine aA (iH (aA (dB hz rfl (x:=.ref TO) rfl ?_)));refine aA (eU hz (by simp) fun g0 z0 a0 =>?_)
 have z0:IsZip g0 z TI TO .ellipsis:=z0;refine aA ?_;simp only[mZ,nU,lE,oN];refine aA (aA (wpAny_onRaise ?_));refine aA (m:=SmallTypes.nextOf (.ref i1)) ((src hh k1 i1 l1 D.nl1i1 x1).item i _ _ _ b1 ⟨(h1.at fun _ e=>(a0.extBut _ _ D.ni1z e)),(s1.at fun _ e=>(a0.extBut _ _ D.nl1z e))⟩ fun y1 f1 t1 p1 q1 c1=>aH ?_)
 have c1:cH i1 g0 f1:=c1;have P1:Row3 f1 TO v1 v2 v3:=(c1.extBut _ _ D.ni1TO.symm (a0.extBut _ _ D.nTOz hO));refine aA (dO P1 rfl ?_);refine aA (az6 P1 fun g1 O1 a1 =>?_)
 have a1:cH TO f1 g1:=a1;refine aA (wpAny_letGo (aH ?_));refine aA (aA (wpAny_onRaise ?_));refine aA (m:=SmallTypes.nextOf (.ref i2)) ((src hh k2 i2 l2 D.nl2i2 x2).item i _ _ _ b2 ⟨(h2.at fun _ e=>(a1.extBut _ _ D.ni2TO (c1.extBut _ _ D.ni2i1 (a0.extBut _ _ D.ni2z e)))),(s2.at fun _ e=>(a1.extBut _ _ D.nl2TO (c1.extBut _ _ D.nl2i1 (a0.extBut _ _ D.nl2z e))))⟩ fun y2 f2 t2 p2 q2 c2=>aH ?_)
 have c2:cH i2 g1 f2:=c2;have P2:Row3 f2 TO y1 v2 v3:=(c2.extBut _ _ D.ni2TO.symm O1);refine aA (dO P2 rfl ?_);refine aA (az5 P2 fun g2 O2 a2 =>?_)
 have a2:cH TO f2 g2:=a2;refine aA (wpAny_letGo (aH ?_));refine aA (aA (wpAny_onRaise ?_));refine aA (m:=SmallTypes.nextOf (.ref i3)) ((src hh k3 i3 l3 D.nl3i3 x3).item i _ _ _ b3 ⟨(h3.at fun _ e=>(a2.extBut _ _ D.ni3TO (c2.extBut _ _ D.ni3i2 (a1.extBut _ _ D.ni3TO (c1.extBut _ _ D.ni3i1 (a0.extBut _ _ D.ni3z e)))))),(s3.at fun _ e=>(a2.extBut _ _ D.nl3TO (c2.extBut _ _ D.nl3i2 (a1.extBut _ _ D.nl3TO (c1.extBut _ _ D.nl3i1 (a0.extBut _ _ D.nl3z e))))))⟩ fun y3 f3 t3 p3 q3 c3=>aH ?_)
 have c3:cH i3 g2 f3:=c3;have P3:Row3 f3 TO y1 y2 v3:=(c3.extBut _ _ D.ni3TO.symm O2);refine aA (dO P3 rfl ?_);refine aA (az4 P3 fun g3 O3 a3 =>?_)
 have a3:cH TO f3 g3:=a3;refine aA (wpAny_letGo (aH (aH ?_)));refine aA (dO O3 rfl (aA (wpAny_newTuple ?_)));have sz:g3.objs.size=s.heap.objs.size:=by rw[a3.1,c3.1,a2.1,c2.1,a1.1,c1.1,a0.1]
 have zn:IsZip g3 z TI TO .ellipsis:=(a3.extBut _ _ D.nTOz.symm (c3.extBut _ _ D.ni3z.symm (a2.extBut _ _ D.nTOz.symm (c2.extBut _ _ D.ni2z.symm (a1.extBut _ _ D.nTOz.symm (c1.extBut _ _ D.ni1z.symm z0))))));have kn:∀c o,c≠z->c≠TO->c≠i1->c≠i2->c≠i3->s.heap.get? c=some o->g3.get? c=some o:=fun c o n0 n1 n2 n3 n4 e=>(a3.extBut _ _ n1 (c3.extBut _ _ n4 (a2.extBut _ _ n1 (c2.extBut _ _ n3 (a1.extBut _ _ n1 (c1.extBut _ _ n2 (a0.extBut _ _ n0 e)))))))
 have j1:It1 k1 g3 i1 l1 (i+1):=q1.1.at fun _ e=>(a3.extBut _ _ D.ni1TO (c3.extBut _ _ D.ni3i1.symm (a2.extBut _ _ D.ni1TO (c2.extBut _ _ D.ni2i1.symm (a1.extBut _ _ D.ni1TO e)))))
 have j2:It1 k2 g3 i2 l2 (i+1):=q2.1.at fun _ e=>(a3.extBut _ _ D.ni2TO (c3.extBut _ _ D.ni3i2.symm (a2.extBut _ _ D.ni2TO e)))
 have j3:It1 k3 g3 i3 l3 (i+1):=q3.1.at fun _ e=>(a3.extBut _ _ D.ni3TO e)
 have lz:z < g3.objs.size:=aQ zn;refine aA (m:=SmallTypes.ownedTupleHandOut (.ref z) (.ref g3.objs.size)) ?_;unfold SmallTypes.ownedTupleHandOut;have zp:IsZip (g3.push { cls:=.type "tuple", data:=.seq #[y1,y2,y3] }) z TI TO .ellipsis:=aB _ zn;refine aA (eU zp (by simp) fun e1 z1 b1' =>?_)
 have z1:IsZip e1 z TI TO (lC g3.objs.size):=z1;refine eU z1 (by simp) fun e2 z2 b2' =>?_
 have z2:IsZip e2 z TI TO (lC g3.objs.size):=z2;have up:∀c o,c≠z->g3.get? c=some o->e2.get? c=some o:=fun c o n1 e=>b2'.extBut _ _ n1 (b1'.extBut _ _ n1 (aB _ e))
 have t2:Row3 e2 g3.objs.size y1 y2 y3:=b2'.extBut _ _ (gP lz) (b1'.extBut _ _ (gP lz) (aK _ rfl));have s2':e2.objs.size=g3.objs.size+1:=by rw[b2'.1,b1'.1,bJ]
 rw[sz] at z2 t2 s2';refine aH ⟨_,rfl,?_⟩;show Q (.ref g3.objs.size) _;rw[sz];exact q e2 _ y1 y2 y3 p1 p2 p3 z2 (up _ _ D.nTOz O3) (j1.at fun _ e=>up _ _ D.ni1z e) (j2.at fun _ e=>up _ _ D.ni2z e) (j3.at fun _ e=>up _ _ D.ni3z e) t2 s2' fun c o n0 n1 n2 n3 n4 e=>up c o n0 (kn c o n0 n1 n2 n3 n4 e)
theorem asj{z TI TO i1 i2 i3 l1 l2 l3:Addr}{k1:Bool}{x1:Array Value}{v1 v2 v3:Value}{Q:Fin->aJ->Prop}(hh:A.handled=none)(D:Apart3 z TI TO i1 i2 i3 l1 l2 l3)
  (hz:IsZip s.heap z TI TO .none) (hI:Row3 s.heap TI (.ref i1) (.ref i2) (.ref i3)) (hO:Row3 s.heap TO v1 v2 v3) (h1:It1 k1 s.heap i1 l1 x1.size) (s1:Sq1 k1 s.heap l1 x1)
  (q:∀h' e,(∀c o,c≠z->c≠i1->s.heap.get? c=some o->h'.get? c=some o)->(∃o,h'.get? e=some o/\o.cls=.type "StopIteration")->E (.ref e) { s with heap:=h' }) :
  wpAny (model prog w) A (iJ.«zip.__next__» ⟨[.ref z],[]⟩) Q E s:=by
 refine aA (m:=field (.ref z) 2) (dB hz rfl (x:=.bool false) rfl ?_);refine aA (m:=field (.ref z) 3) (dB hz rfl (x:=.ref TI) rfl ?_);refine aA (dO hI rfl ?_);refine aA (m:=SmallTypes.ownedTupleIsFree (.ref z)) ?_;unfold SmallTypes.ownedTupleIsFree;refine aA (dB hz rfl (x:=.none) rfl (aH ?_));simp only[if_true];refine aA (iH (aA (dB hz rfl (x:=.ref TO) rfl ?_)));refine aA (eU hz (by simp) fun g0 z0 a0 =>?_)
 have z0:IsZip g0 z TI TO .ellipsis:=z0;refine aA ?_;simp only[mZ,nU,lE,oN];refine aA (aA (wpAny_onRaise ?_));refine aA (m:=SmallTypes.nextOf (.ref i1)) ((src hh k1 i1 l1 D.nl1i1 x1).done _ _ _ ⟨(h1.at fun _ e=>a0.extBut _ _ D.ni1z e),(s1.at fun _ e=>a0.extBut _ _ D.nl1z e)⟩ fun f1 e c1 ⟨oe,he,ce⟩ =>?_)
 have zf:IsZip f1 z TI TO .ellipsis:=c1 _ _ D.ni1z.symm z0;have ez:e≠z:=fun x=>by subst x;rw[zf] at he;cases he;simp at ce
 refine eU zf (by simp) fun f2 _ a1=>q f2 e (fun c o n1 n2 y=>a1.extBut _ _ n1 (c1 _ _ n2 (a0.extBut _ _ n1 y))) ⟨oe,a1.extBut _ _ ez he,ce⟩
abbrev aoz(h:Heap)(k1 k2 k3:Bool)(l1 l2 l3:Addr):Heap:=h.push { cls:=.type (cond k1 "tuple_iterator" "list_iterator"),data:=.fields #[.ref l1,.int 0 0] }
abbrev aoy(h:Heap)(k1 k2 k3:Bool)(l1 l2 l3:Addr):Heap:=(aoz h k1 k2 k3 l1 l2 l3).push { cls:=.type (cond k2 "tuple_iterator" "list_iterator"),data:=.fields #[.ref l2,.int 0 0] }
abbrev asq(h:Heap)(k1 k2 k3:Bool)(l1 l2 l3:Addr):Heap:=(aoy h k1 k2 k3 l1 l2 l3).push { cls:=.type (cond k3 "tuple_iterator" "list_iterator"),data:=.fields #[.ref l3,.int 0 0] }
abbrev aso(h:Heap)(k1 k2 k3:Bool)(l1 l2 l3:Addr):Heap:=(asq h k1 k2 k3 l1 l2 l3).push { cls:=.type "tuple", data:=.seq #[.ref h.objs.size,.ref (aoz h k1 k2 k3 l1 l2 l3).objs.size,.ref (aoy h k1 k2 k3 l1 l2 l3).objs.size] }
abbrev asm(h:Heap)(k1 k2 k3:Bool)(l1 l2 l3:Addr):Heap:=(aso h k1 k2 k3 l1 l2 l3).push { cls:=.type "tuple", data:=.seq #[.none,.none,.none] }
abbrev aiw(h:Heap)(k1 k2 k3:Bool)(l1 l2 l3:Addr):Heap:=(asm h k1 k2 k3 l1 l2 l3).push { cls:=.type "zip", data:=.fields #[.none,.bool false,.bool false,.ref (asq h k1 k2 k3 l1 l2 l3).objs.size,.ref (aso h k1 k2 k3 l1 l2 l3).objs.size] }
set_option maxHeartbeats 2000000 in
theorem axq(k1 k2 k3:Bool)(l1 l2 l3:Addr)(x1 x2 x3:Array Value) :
  Meets (iJ.«zip.__new__» ⟨[.type "zip", .ref l1,.ref l2,.ref l3],[]⟩) (fun _ R s=>Sq1 k1 s.heap l1 x1/\Sq1 k2 s.heap l2 x2/\Sq1 k3 s.heap l3 x3/\R (.ok (.ret (.ref (asm s.heap k1 k2 k3 l1 l2 l3).objs.size))) { s with heap:=aiw s.heap k1 k2 k3 l1 l2 l3 }) :=
 .of_wp fun prog w A R s h=>by
  obtain⟨hp,g,d,tk,os⟩:=s;obtain⟨s1,s2,s3,h⟩:=h;have sb:=sub_zip;have r1:Sq1 k1 (mO ⟨hp,g,d,tk,os⟩) l1 x1:=s1.at fun _ e=>e
  have r2:Sq1 k2 (mO ⟨aoz hp k1 k2 k3 l1 l2 l3,g,d,tk,os⟩) l2 x2:=s2.at fun _ e=>aB _ (e)
  have r3:Sq1 k3 (mO ⟨aoy hp k1 k2 k3 l1 l2 l3,g,d,tk,os⟩) l3 x3:=s3.at fun _ e=>aB _ (aB _ (e))
  wp_walk using ali r1,ali r2,ali r3;exact⟨_,rfl,h⟩
theorem arx{k1 k2 k3:Bool}{l1 l2 l3:Addr}{x1 x2 x3:Array Value}{Q:Value->aJ->Prop}(s1:Sq1 k1 s.heap l1 x1)(s2:Sq1 k2 s.heap l2 x2)(s3:Sq1 k3 s.heap l3 x3)
  (q:∀h',IsZip h' (s.heap.objs.size+5) (s.heap.objs.size+3) (s.heap.objs.size+4) .none->Row3 h' (s.heap.objs.size+3) (.ref s.heap.objs.size) (.ref (s.heap.objs.size+1)) (.ref (s.heap.objs.size+2))->Row3 h' (s.heap.objs.size+4) .none .none .none->It1 k1 h' s.heap.objs.size l1 0->It1 k2 h' (s.heap.objs.size+1) l2 0->It1 k3 h' (s.heap.objs.size+2) l3 0->h'.objs.size=s.heap.objs.size+6->(∀c o,s.heap.get? c=some o->h'.get? c=some o)->Q (.ref (s.heap.objs.size+5)) { s with heap:=h' }) :
  wpAny (model prog w) A (call (.type "zip") [.ref l1,.ref l2,.ref l3]) Q E s:=by
 refine callType_new F.called_zip (by decide) (awd _ _ _) (axo _ _ _) (fun obj=>azb obj _ _ _) wH (axq k1 k2 k3 l1 l2 l3 x1 x2 x3) ⟨s1,s2,s3,?_⟩
 have e1:(aoz s.heap k1 k2 k3 l1 l2 l3).objs.size=s.heap.objs.size+1:=by rw[bJ]
 have e2:(aoy s.heap k1 k2 k3 l1 l2 l3).objs.size=s.heap.objs.size+2:=by rw[bJ,e1]
 have e3:(asq s.heap k1 k2 k3 l1 l2 l3).objs.size=s.heap.objs.size+3:=by rw[bJ,e2]
 have eI:(aso s.heap k1 k2 k3 l1 l2 l3).objs.size=s.heap.objs.size+4:=by rw[bJ,e3]
 have eO:(asm s.heap k1 k2 k3 l1 l2 l3).objs.size=s.heap.objs.size+5:=by rw[bJ,eI]
 have eZ:(aiw s.heap k1 k2 k3 l1 l2 l3).objs.size=s.heap.objs.size+6:=by rw[bJ,eO]
 have gZ:(aiw s.heap k1 k2 k3 l1 l2 l3).get? (asm s.heap k1 k2 k3 l1 l2 l3).objs.size=some _:=aK _ rfl;have gO:(aiw s.heap k1 k2 k3 l1 l2 l3).get? (aso s.heap k1 k2 k3 l1 l2 l3).objs.size=some _:=aB _ (aK _ rfl);have gI:(aiw s.heap k1 k2 k3 l1 l2 l3).get? (asq s.heap k1 k2 k3 l1 l2 l3).objs.size=some _:=aB _ (aB _ (aK _ rfl));have j1:(aiw s.heap k1 k2 k3 l1 l2 l3).get? s.heap.objs.size=some _:=aB _ (aB _ (aB _ (aB _ (aB _ (aK _ rfl)))));have j2:(aiw s.heap k1 k2 k3 l1 l2 l3).get? (aoz s.heap k1 k2 k3 l1 l2 l3).objs.size=some _:=aB _ (aB _ (aB _ (aB _ (aK _ rfl))));have j3:(aiw s.heap k1 k2 k3 l1 l2 l3).get? (aoy s.heap k1 k2 k3 l1 l2 l3).objs.size=some _:=aB _ (aB _ (aB _ (aK _ rfl)));show _/\_;rw[e3,eI,eO] at gZ;rw[e1,e2,e3] at gI;rw[eI] at gO;rw[e1] at j2;rw[e2] at j3;rw[eO];exact⟨⟨_,gZ,rfl⟩,q _ gZ gI gO (aeg j1) (aeg j2) (aeg j3) eZ fun c o x=>aB _ (aB _ (aB _ (aB _ (aB _ (aB _ (x))))))⟩
end
end En
namespace Mn
open L2 En
def SqK(k:Bool)(K:Fg9)(H:Hp)(a:Addr)(xs:List V):Prop:=cond k (SqT K H a xs) (SqL K H a xs)
theorem zm{xs:List V}{us:List Value}(r:Vals xs us){i:Nat}{x:V}{u:Value}(h:xs[i]? = some x)(h':us.toArray[i]? = some u):RelV x u:=by
 obtain⟨u',e,z⟩:=r.get h;have:us[i]? = some u:=by simpa using h'
 rw[this] at e;cases e;exact z
section
variable{X:Cx}{zv:List (Addr×Obj)}{σ:L2.St}{H:Hp}{s:aJ}{h':Heap}{a:Addr}{xs ys:List V}{k:Bool}
theorem xm(I:Inv X zv σ H s)(h:SqK k X.K H a xs):∃its:List Value,Vals xs its/\Sq1 k s.heap a its.toArray:=by
 cases k with
 | false =>
  obtain⟨its,r,p,_⟩:=I.list h;exact⟨its,r,p.isList⟩
 | true =>
  obtain⟨its,r,p,_⟩:=I.tuple h;exact⟨its,r,p⟩
theorem aei(I:Inv X zv σ H s)(h:SqK k X.K H a xs)(h2:SqK k X.K H a ys):xs=ys:=by
 cases k with
 | false=>exact I.list_inj h h2
 | true=>exact I.tuple_inj h h2
theorem ab9{t':Nat}{fp:List Addr}(I:Inv X zv σ H s)(kk:∀b o,b∉fp->s.heap.get? b=some o->h'.get? b=some o)(hf:∀b∈fp,FpOk X zv H b):Inv X zv σ H { s with heap:=h',toks:=t' }:=by
 have nit:∀b u,H b=some u->b∉fp:=fun b u e z=>by rw[(hf b z).1] at e;cases e
 have nL:X.env.locals∉fp:=fun z=>(hf _ z).2.1 rfl
 refine I.step (g':=s.gens) (d':=s.drawn) (ch:=fp) (fun b hb=>⟨(hf b hb).2.2.2.1,(hf b hb).2.1,(hf b hb).2.2.2.2.1,(hf b hb).2.2.2.2.2⟩) (fun b o _ _ hc e _=>kk b o hc e) (fun b o _ _ hc e _=>⟨o.slots,kk b o hc e⟩) (fun _ _ _ _ n=>n)
  (fun b o hc e=>⟨o,kk b o hc e⟩) (fun _ _ e=>e) (fun _ _ _ e=>e) (fun b ps e=>⟨#[],by rw[e];simp⟩) (fun m hm =>?_) (fun b u e =>?_) I.bare
 ·obtain⟨o,es,ep,ho,r⟩:=hm;exact⟨o,es,ep,kk _ o nL ho,r⟩
 ·refine(I.hok b u e).stay (fun c v hc q=>kk c v ?_ q) (fun _ q=>q) fun _ _ q=>q
  rcases hc with z | z
  ·rw[z];exact nit b u e
  ·exact nit c _ z
theorem alm{t':Nat}{fp:List Addr}{vs:List V}{us:List Value}(I:Inv X zv σ H s)(kk:∀b o,b∉fp->s.heap.get? b=some o->h'.get? b=some o)(hf:∀b∈fp,FpOk X zv H b)(hb:∀b∈fp,b < s.heap.objs.size)
  (r:Vals vs us) (hz:vs.length<=cD) (ht:h'.get? s.heap.objs.size=some { cls:=.type "tuple", data:=.seq us.toArray }):Inv X zv σ (upd H s.heap.objs.size (.tup vs)) { s with heap:=h',toks:=t' }:=by
 have I1:=I.laid (h':=s.heap.push { cls:=.type "tuple", data:=.seq us.toArray }) (t':=s.toks) (a:=s.heap.objs.size) (o:=.tup vs) (fun b u e=>aB _ e) (aM _) ⟨hz,us,r,⟨_,aK _ rfl,rfl,rfl,_,rfl⟩⟩
 have k2:∀b o,b∉fp->(s.heap.push { cls:=.type "tuple", data:=.seq us.toArray }).get? b=some o->h'.get? b=some o:=fun b o hn e=>by
  rcases Heap.get?_push_cases e with⟨rfl,rfl⟩ | e
  ·exact ht
  ·exact kk b o hn e
 have f2:∀b∈fp,FpOk X zv (upd H s.heap.objs.size (.tup vs)) b:=fun b hb'=>by
  obtain⟨f0,f⟩:=hf b hb';exact⟨by rw[di (bD (hb b hb'))];exact f0,f⟩
 have R:=ab9 (t':=t') (h':=h') (fp:=fp) I1 k2 f2;exact R
end
theorem avo{k:Bool}{h:Heap}{it a l:Addr}{i:Nat}{xs:Array Value}(x:It1 k h it l i){k':Bool}(y:Sq1 k' h a xs):a≠it:=fun e=>by
 subst e;cases k <;> cases k' <;> exact(by
  obtain⟨o,e1,c1,_⟩:=x;obtain⟨o',e2,c2,_⟩:=y;rw[e1] at e2;cases e2;rw[c1] at c2;simp at c2)
theorem a5b{h:Heap}{a b:Addr}{o:Obj}{n:String}{k:Bool}{xs:Array Value}(e:h.get? b=some o)(c:o.cls=.type n)(hn:n ≠ "list" /\ n ≠ "tuple")(y:Sq1 k h a xs):a≠b:=fun z=>by
 subst z;cases k <;> exact(by
  obtain⟨o',e2,c2,_⟩:=y;rw[e] at e2;cases e2;rw[c] at c2;simp at c2
  first | exact hn.1 c2 | exact hn.2 c2)
def Ite(K:Fg9)(k:Bool)(a:Addr):It :=
 ⟨fun i H=>∃xs x,SqK k K H a xs/\xs[i]? = some x,fun i H x H'=>∃q v,H q=none/\x=.ref q/\H'=upd H q (.tup [.int i,v])/\∀xs,SqK k K H a xs->xs[i]? = some v,fun i H=>∃xs,SqK k K H a xs/\xs.length=i⟩
theorem apb{P:aZ}{w:World}{K:Fg9}{elts:List Expr}{n:Nat}{pos:Pos}(k:Bool)(a e it:Addr)(ne:e≠it) :
  Turn P w K (.Tuple elts n pos) (Ite K k a) [e,it] e (fun i h=>(∃old,IsEnum h e it i old)/\It1 k h it a i) where
 mem:=by simp
 obj:=fun i h st b hb=>by
  have hb:b=e∨b=it:=by simpa using hb
  rcases hb with rfl | rfl
  ·obtain⟨old,z⟩:=st.1;exact⟨_,z,fun v z=>by cases z⟩
  ·exact st.2.got
 keep:=fun i h h' st kk=>by
  obtain⟨⟨old,z⟩,y⟩:=st;exact⟨⟨old,kk e (by simp) _ z⟩,y.at fun o z=>kk it (by simp) o z⟩
 item:=by
  intro X hP hw hK hc i zv s σ H E I hf st hg;subst hP hw hK;obtain⟨⟨old,he⟩,hi⟩:=st;obtain⟨xs,x,hq,hx⟩:=hg;obtain⟨its,rv,sq⟩:=xm I hq;obtain⟨u,hu,ru⟩:=rv.get hx;have hlt:i < its.toArray.size:=by simpa using (aN.mp hu).1
  have nai:=avo hi sq;have nae:a≠e:=a5b he rfl (by decide) sq
  have D:=En.src (prog:=X.prog) (w:=X.w) (A:=X.A.in1) (I.ok.hd hc) k it a nai its.toArray;refine wpAny_pyNext_enum_itemD D he ⟨hi,sq⟩ hlt ne (by simp[ne,nae.symm]) fun y g tk hy ho hs hT hz hk =>?_
  refine⟨_,rfl,wpAny_letOwnedTupleGo_enum ho fun g2 he2 sb =>?_⟩
  have ry:=zm rv hx hy;have lte:e < s.heap.objs.size:=aQ he;have lti:it < s.heap.objs.size:=by obtain⟨o,z,_⟩:=hi.got;exact aQ z
  have fr:H s.heap.objs.size=none:=I.hok.fresh (aM _);refine⟨.ref s.heap.objs.size,upd H s.heap.objs.size (.tup [.int i,x]),?_,rfl,⟨_,x,fr,rfl,rfl,fun ys hy=>by rw[aei I hy hq];exact hx⟩,⟨⟨_,he2⟩,hs.1.at fun o z=>sb.extBut _ _ ne.symm z⟩,fun b hb =>?_⟩
  ·refine alm (fp:=[e,it]) (us:=[.int i tk,y]) I (fun b o hn z =>?_) hf (fun b hb =>?_) (.cons ⟨tk,rfl⟩ (.cons ry .nil)) (by rw[gQ];simp) (sb.extBut _ _ (gP lte) hT)
   ·have h1:b≠e:=fun z=>hn (by simp[z])
    have h2:b≠it:=fun z=>hn (by simp[z])
    exact sb.extBut _ _ h1 (hk b o h1 h2 z)
   ·have hb:b=e∨b=it:=by simpa using hb
    rcases hb with rfl | rfl
    ·exact lte
    ·exact lti
  ·have hb':b=e∨b=it:=by simpa using hb
   rw[di (by rcases hb' with rfl | rfl;exact bD lte;exact bD lti)]
   exact(hf b hb).1
 done:=by
  intro X hP hw hK hc i zv s σ H E I hf st hg;subst hP hw hK;obtain⟨⟨old,he⟩,hi⟩:=st;obtain⟨xs,hq,hx⟩:=hg;obtain⟨its,rv,sq⟩:=xm I hq;have hl:i=its.toArray.size:=by have:=rv.length;simp;omega
  subst hl;have D:=En.src (prog:=X.prog) (w:=X.w) (A:=X.A.in1) (I.ok.hd hc) k it a (avo hi sq) its.toArray;refine wpAny_pyNext_enum_endD D he ⟨hi,sq⟩ fun g eb=>⟨rfl,ab9 (t':=s.toks) (fp:=[e,it]) I (fun b o hn z=>eb b o (fun z=>hn (by simp[z])) z) hf⟩
 self:=fun _ _ _ _ _ st h=>let ⟨_,z⟩:=st.1;wpAny_pyIter_enum z h
theorem av1:bV "zip" = some (.type "zip"):=by decide +kernel
section
variable{X:Cx}
def a66(K:Fg9)(ta:TA):TI:=fun σ H R=>ta σ H fun vs H1=>∃a k,vs=[.ref a]/\(∃xs,SqK k K H1 a xs)/\R (Ite K k a) H1
theorem aw4{a:Expr}{ta:TA}{p pos:Pos}{elts:List Expr}{n:Nat}{tp:Pos}(hg:Gl X "enumerate")(hm:X.mg "enumerate" = none)(ha:PA X [a] ta)(hs:aW [a] X.env=[(false,eval a X.env)]:=by rfl) :
  PI X (.Tuple elts n tp) (.Call (.Name "enumerate" p) [a] [] pos) (a66 X.K ta):=by
 intro zv s σ H R I h;refine Call_ (af3 I hg hm aki (gH (thn (ha pos zv s σ H _ I h) fun us s1 ⟨vs,H1,I1,r1,q1⟩ =>?_) hs rfl))
 obtain⟨b,k,rfl,⟨xs,hq⟩,q⟩:=q1;obtain⟨u,rfl,ru⟩:=vals1 r1;cases ru;obtain⟨its,rv,sq⟩:=xm I1 hq;refine ar5 sq fun g he hi hz kk=>wpAny_pyIter_enum he ?_
 have I2:Inv X zv σ H1 { s1 with heap:=g }:=I1.kept (t':=s1.toks) kk
 refine⟨_,[s1.heap.objs.size+1,s1.heap.objs.size],_,_,H1,rfl,I2,apb k b _ _ (Nat.succ_ne_self _),⟨⟨_,he⟩,hi⟩,fun c hc =>?_,q⟩
 have hc:c=s1.heap.objs.size+1∨c=s1.heap.objs.size:=by simpa using hc
 rcases hc with rfl | rfl
 ·exact I1.fpOk (jW _) (I1.hok.fresh (jW _))
 ·exact I1.fpOk (aM _) (I1.hok.fresh (aM _))
end
end Mn
namespace En
open PySem PySem.Builtin
theorem amj{prog:aZ}{w:World}{A:cI}{E:Value->aJ->Prop}{s:aJ}{z TI TO:Addr}{f0:Value}{Q:Option Value->aJ->Prop}(hz:IsZip s.heap z TI TO f0)
  (h:wpAny (model prog w) A.in1 (iJ.«zip.__next__» ⟨[.ref z],[]⟩) (fun fin s'=>∃v,fin=.done (.ret v)/\Q (some v) s') (fun e s'=>∃a o,e=.ref a/\s'.heap.get? a=some o/\o.cls=.type "StopIteration" /\ Q none s') s) :
  wpAny (model prog w) A (lY (.ref z)) Q E s:=by
 have tz:s.TypeIs (.ref z) "zip" := ⟨_,hz,rfl⟩;unfold lY;refine aA (wpAny_attempt (dH (name:=iM "__next__") tz wD (eF wD tz F.entry_zip_next (dC h (fun fin s' ⟨v,e,q⟩=>⟨v,e,aH q⟩) fun e s' ⟨a,o,e1,e2,e3,q⟩ =>?_) (F.args_zip_next_1 _))))
 subst e1;exact aA (wpAny_isInstance (T := "StopIteration") (b:=true) ⟨o,e2,e3⟩ isSubtype_stop (aH q))
end En
namespace Mn
open L2 En
def Itz2(K:Fg9)(k1 k2:Bool)(a1 a2:Addr):It :=
 ⟨fun i H=>∃x1 x2 v1 v2,(SqK k1 K H a1 x1/\x1[i]? = some v1)/\(SqK k2 K H a2 x2/\x2[i]? = some v2),fun i H x H'=>∃q v1 v2,H q=none/\x=.ref q/\H'=upd H q (.tup [v1,v2])/\(∀xs,SqK k1 K H a1 xs->xs[i]? = some v1)/\(∀xs,SqK k2 K H a2 xs->xs[i]? = some v2),fun i H=>∃xs,SqK k1 K H a1 xs/\xs.length=i⟩
theorem ao8{P:aZ}{w:World}{K:Fg9}{elts:List Expr}{n:Nat}{pos:Pos}(k1 k2:Bool)(a1 a2 z TI TO i1 i2:Addr)(D:Apart2 z TI TO i1 i2 a1 a2) :
  Turn P w K (.Tuple elts n pos) (Itz2 K k1 k2 a1 a2) [z,TI,TO,i1,i2] z (fun i h=>IsZip h z TI TO .none/\Row2 h TI (.ref i1) (.ref i2)/\(∃v1 v2,Row2 h TO v1 v2)/\It1 k1 h i1 a1 i/\It1 k2 h i2 a2 i) where
 mem:=by simp
 obj:=fun i h ⟨hz,hI,⟨v1,v2,hO⟩,h1,h2⟩ b hb=>by
  have hb:b=z∨b=TI∨b=TO∨b=i1∨b=i2:=by simpa using hb
  rcases hb with rfl | rfl | rfl | rfl | rfl
  ·exact⟨_,hz,fun v z=>by cases z⟩
  ·exact⟨_,hI,fun v z=>by cases z⟩
  ·exact⟨_,hO,fun v z=>by cases z⟩
  ·exact h1.got
  ·exact h2.got
 keep:=fun i h h' ⟨hz,hI,⟨v1,v2,hO⟩,h1,h2⟩ kk=>⟨kk z (by simp) _ hz,kk TI (by simp) _ hI,⟨v1,v2,kk TO (by simp) _ hO⟩,h1.at fun o e=>kk i1 (by simp) o e,h2.at fun o e=>kk i2 (by simp) o e⟩
 item:=by
  intro X hP hw hK hc i zv s σ H E I hf st hg;subst hP hw hK;obtain⟨hz,hI,⟨o1,o2,hO⟩,h1,h2⟩:=st;obtain⟨x1,x2,v1,v2,⟨hq1,hx1⟩,⟨hq2,hx2⟩⟩:=hg;obtain⟨t1,r1,s1⟩:=xm I hq1;obtain⟨u1,hu1,_⟩:=r1.get hx1;have b1:i < t1.toArray.size:=by simpa using (aN.mp hu1).1
  obtain⟨t2,r2,s2⟩:=xm I hq2;obtain⟨u2,hu2,_⟩:=r2.get hx2;have b2:i < t2.toArray.size:=by simpa using (aN.mp hu2).1
  refine amj hz (aox (I.ok.hd hc) D hz hI hO h1 s1 h2 s2 b1 b2 fun g tk y1 y2 p1 p2 z2 O2 j1 j2 T2 hsz hk =>?_)
  refine⟨_,rfl,wpAny_letOwnedTupleGo_zip z2 fun g2 he2 sb =>?_⟩
  have fr:H s.heap.objs.size=none:=I.hok.fresh (aM _);have lt:∀b∈[z,TI,TO,i1,i2],b < s.heap.objs.size:=fun b hb=>by
   have hb:b=z∨b=TI∨b=TO∨b=i1∨b=i2:=by simpa using hb
   rcases hb with rfl | rfl | rfl | rfl | rfl
   ·exact aQ hz
   ·exact aQ hI
   ·exact aQ hO
   ·obtain⟨o,e,_⟩:=h1.got;exact aQ e
   ·obtain⟨o,e,_⟩:=h2.got;exact aQ e
  have up:∀b o,b∉[z,TI,TO,i1,i2]->s.heap.get? b=some o->g2.get? b=some o:=fun b o hn e=>sb.extBut _ _ (fun x=>hn (by simp[x])) (hk b o (fun x=>hn (by simp[x])) (fun x=>hn (by simp[x])) (fun x=>hn (by simp[x])) (fun x=>hn (by simp[x])) e)
  have TI2:g2.get? TI=_:=sb.extBut _ _ D.nTIz (hk TI _ D.nTIz D.nTOTI.symm D.ni1TI.symm D.ni2TI.symm hI);refine⟨.ref s.heap.objs.size,upd H s.heap.objs.size (.tup [v1,v2]),?_,rfl,⟨_,v1,v2,fr,rfl,rfl,fun ys hy=>by rw[aei I hy hq1];exact hx1,fun ys hy=>by rw[aei I hy hq2];exact hx2⟩,⟨he2,TI2,⟨y1,y2,sb.extBut _ _ D.nTOz O2⟩,(j1.at fun o e=>sb.extBut _ _ D.ni1z e),(j2.at fun o e=>sb.extBut _ _ D.ni2z e)⟩,fun b hb =>?_⟩
  ·exact alm (fp:=[z,TI,TO,i1,i2]) (us:=[y1,y2]) I up hf lt (.cons (zm r1 hx1 p1) (.cons (zm r2 hx2 p2) .nil)) (by rw[gQ];simp) (sb.extBut _ _ (gP (lt z (by simp))) T2)
  ·rw[di (bD (lt b hb))];exact(hf b hb).1
 done:=by
  intro X hP hw hK hc i zv s σ H E I hf st hg;subst hP hw hK;obtain⟨hz,hI,⟨o1,o2,hO⟩,h1,h2⟩:=st;obtain⟨xs,hq,hx⟩:=hg;obtain⟨its,rv,sq⟩:=xm I hq;have hl:i=its.toArray.size:=by have:=rv.length;simp;omega
  subst hl;refine amj hz (asl (I.ok.hd hc) D hz hI hO h1 sq fun g e kk ⟨o,he,ce⟩=>⟨e,o,rfl,he,ce,rfl,ab9 (t':=s.toks) (fp:=[z,TI,TO,i1,i2]) I (fun b o hn z=>kk b o (fun z=>hn (by simp[z])) (fun z=>hn (by simp[z])) z) hf⟩)
 self:=fun _ _ _ _ _ st h=>wpAny_pyIter_zip st.1 h
theorem apart2{N l1 l2:Nat}(h1:l1 < N)(h2:l2 < N):Apart2 (N+4) (N+2) (N+3) N (N+1) l1 l2:=by
 constructor <;> (intro e;have e:(_:Nat)=_:=e;omega)
section
variable{X:Cx}
def a6y(K:Fg9)(ta:TA):TI:=fun σ H R=>ta σ H fun vs H1=>∃a1 a2 k1 k2,vs=[.ref a1,.ref a2]/\(∃xs,SqK k1 K H1 a1 xs)/\(∃xs,SqK k2 K H1 a2 xs)/\R (Itz2 K k1 k2 a1 a2) H1
theorem aw3{e1 e2:Expr}{ta:TA}{p pos:Pos}{elts:List Expr}{n:Nat}{tp:Pos}(hg:Gl X "zip")(hm:X.mg "zip" = none)(ha:PA X [e1,e2] ta)(hs:aW [e1,e2] X.env=[(false,eval e1 X.env),(false,eval e2 X.env)]:=by rfl)(hs2:aW [e2] X.env=[(false,eval e2 X.env)]:=by rfl) :
  PI X (.Tuple elts n tp) (.Call (.Name "zip" p) [e1,e2] [] pos) (a6y X.K ta):=by
 intro zv s σ H R I h;refine Call_ (af3 I hg hm av1 (gH (thn (ha pos zv s σ H _ I h) fun us s1 ⟨vs,H1,I1,r1,q1⟩ =>?_) (by rw[hs,hs2]) (by rw[hs2];rfl)))
 obtain⟨a1,a2,k1,k2,rfl,⟨x1,hq1⟩,⟨x2,hq2⟩,q⟩:=q1;obtain⟨u1,u2,rfl,ru1,ru2⟩:=vals2 r1;cases ru1;cases ru2;obtain⟨t1,r1',sq1⟩:=xm I1 hq1;have b1:a1 < s1.heap.objs.size:=by obtain⟨o,e⟩:=sq1.got;exact aQ e
 obtain⟨t2,r2',sq2⟩:=xm I1 hq2;have b2:a2 < s1.heap.objs.size:=by obtain⟨o,e⟩:=sq2.got;exact aQ e
 refine arz sq1 sq2 fun g hz hI hO h1 h2 hsz kk=>wpAny_pyIter_zip hz ?_
 have I2:Inv X zv σ H1 { s1 with heap:=g }:=I1.kept (t':=s1.toks) kk
 refine⟨_,[s1.heap.objs.size+4,s1.heap.objs.size+2,s1.heap.objs.size+3,s1.heap.objs.size,s1.heap.objs.size+1],_,_,H1,rfl,I2,ao8 k1 k2 a1 a2 _ _ _ _ _ (apart2 b1 b2),⟨hz,hI,⟨_,_,hO⟩,h1,h2⟩,fun c hc =>?_,q⟩
 have hc:s1.heap.objs.size<=c:=by
  simp only[aY,cQ,or_false] at hc;rcases hc with rfl | rfl | rfl | rfl | rfl <;> first | exact aM _ | exact vX _ _
 exact I1.fpOk hc (I1.hok.fresh hc)
end
def Itz3(K:Fg9)(k1 k2 k3:Bool)(a1 a2 a3:Addr):It :=
 ⟨fun i H=>∃x1 x2 x3 v1 v2 v3,(SqK k1 K H a1 x1/\x1[i]? = some v1)/\(SqK k2 K H a2 x2/\x2[i]? = some v2)/\(SqK k3 K H a3 x3/\x3[i]? = some v3),fun i H x H'=>∃q v1 v2 v3,H q=none/\x=.ref q/\H'=upd H q (.tup [v1,v2,v3])/\(∀xs,SqK k1 K H a1 xs->xs[i]? = some v1)/\(∀xs,SqK k2 K H a2 xs->xs[i]? = some v2)/\(∀xs,SqK k3 K H a3 xs->xs[i]? = some v3),fun i H=>∃xs,SqK k1 K H a1 xs/\xs.length=i⟩
theorem ao7{P:aZ}{w:World}{K:Fg9}{elts:List Expr}{n:Nat}{pos:Pos}(k1 k2 k3:Bool)(a1 a2 a3 z TI TO i1 i2 i3:Addr)(D:Apart3 z TI TO i1 i2 i3 a1 a2 a3) :
  Turn P w K (.Tuple elts n pos) (Itz3 K k1 k2 k3 a1 a2 a3) [z,TI,TO,i1,i2,i3] z (fun i h=>IsZip h z TI TO .none/\Row3 h TI (.ref i1) (.ref i2) (.ref i3)/\(∃v1 v2 v3,Row3 h TO v1 v2 v3)/\It1 k1 h i1 a1 i/\It1 k2 h i2 a2 i/\It1 k3 h i3 a3 i) where
 mem:=by simp
 obj:=fun i h ⟨hz,hI,⟨v1,v2,v3,hO⟩,h1,h2,h3⟩ b hb=>by
  have hb:b=z∨b=TI∨b=TO∨b=i1∨b=i2∨b=i3:=by simpa using hb
  rcases hb with rfl | rfl | rfl | rfl | rfl | rfl
  ·exact⟨_,hz,fun v z=>by cases z⟩
  ·exact⟨_,hI,fun v z=>by cases z⟩
  ·exact⟨_,hO,fun v z=>by cases z⟩
  ·exact h1.got
  ·exact h2.got
  ·exact h3.got
 keep:=fun i h h' ⟨hz,hI,⟨v1,v2,v3,hO⟩,h1,h2,h3⟩ kk=>⟨kk z (by simp) _ hz,kk TI (by simp) _ hI,⟨v1,v2,v3,kk TO (by simp) _ hO⟩,h1.at fun o e=>kk i1 (by simp) o e,h2.at fun o e=>kk i2 (by simp) o e,h3.at fun o e=>kk i3 (by simp) o e⟩
 item:=by
  intro X hP hw hK hc i zv s σ H E I hf st hg;subst hP hw hK;obtain⟨hz,hI,⟨o1,o2,o3,hO⟩,h1,h2,h3⟩:=st;obtain⟨x1,x2,x3,v1,v2,v3,⟨hq1,hx1⟩,⟨hq2,hx2⟩,⟨hq3,hx3⟩⟩:=hg;obtain⟨t1,r1,s1⟩:=xm I hq1;obtain⟨u1,hu1,_⟩:=r1.get hx1;have b1:i < t1.toArray.size:=by simpa using (aN.mp hu1).1
  obtain⟨t2,r2,s2⟩:=xm I hq2;obtain⟨u2,hu2,_⟩:=r2.get hx2;have b2:i < t2.toArray.size:=by simpa using (aN.mp hu2).1
  obtain⟨t3,r3,s3⟩:=xm I hq3;obtain⟨u3,hu3,_⟩:=r3.get hx3;have b3:i < t3.toArray.size:=by simpa using (aN.mp hu3).1
  refine amj hz (aow (I.ok.hd hc) D hz hI hO h1 s1 h2 s2 h3 s3 b1 b2 b3 fun g tk y1 y2 y3 p1 p2 p3 z2 O2 j1 j2 j3 T2 hsz hk =>?_)
  refine⟨_,rfl,wpAny_letOwnedTupleGo_zip z2 fun g2 he2 sb =>?_⟩
  have fr:H s.heap.objs.size=none:=I.hok.fresh (aM _);have lt:∀b∈[z,TI,TO,i1,i2,i3],b < s.heap.objs.size:=fun b hb=>by
   have hb:b=z∨b=TI∨b=TO∨b=i1∨b=i2∨b=i3:=by simpa using hb
   rcases hb with rfl | rfl | rfl | rfl | rfl | rfl
   ·exact aQ hz
   ·exact aQ hI
   ·exact aQ hO
   ·obtain⟨o,e,_⟩:=h1.got;exact aQ e
   ·obtain⟨o,e,_⟩:=h2.got;exact aQ e
   ·obtain⟨o,e,_⟩:=h3.got;exact aQ e
  have up:∀b o,b∉[z,TI,TO,i1,i2,i3]->s.heap.get? b=some o->g2.get? b=some o:=fun b o hn e=>sb.extBut _ _ (fun x=>hn (by simp[x])) (hk b o (fun x=>hn (by simp[x])) (fun x=>hn (by simp[x])) (fun x=>hn (by simp[x])) (fun x=>hn (by simp[x])) (fun x=>hn (by simp[x])) e)
  have TI2:g2.get? TI=_:=sb.extBut _ _ D.nTIz (hk TI _ D.nTIz D.nTOTI.symm D.ni1TI.symm D.ni2TI.symm D.ni3TI.symm hI);refine⟨.ref s.heap.objs.size,upd H s.heap.objs.size (.tup [v1,v2,v3]),?_,rfl,⟨_,v1,v2,v3,fr,rfl,rfl,fun ys hy=>by rw[aei I hy hq1];exact hx1,fun ys hy=>by rw[aei I hy hq2];exact hx2,fun ys hy=>by rw[aei I hy hq3];exact hx3⟩,⟨he2,TI2,⟨y1,y2,y3,sb.extBut _ _ D.nTOz O2⟩,(j1.at fun o e=>sb.extBut _ _ D.ni1z e),(j2.at fun o e=>sb.extBut _ _ D.ni2z e),(j3.at fun o e=>sb.extBut _ _ D.ni3z e)⟩,fun b hb =>?_⟩
  ·exact alm (fp:=[z,TI,TO,i1,i2,i3]) (us:=[y1,y2,y3]) I up hf lt (.cons (zm r1 hx1 p1) (.cons (zm r2 hx2 p2) (.cons (zm r3 hx3 p3) .nil))) (by rw[gQ];simp) (sb.extBut _ _ (gP (lt z (by simp))) T2)
  ·rw[di (bD (lt b hb))];exact(hf b hb).1
 done:=by
  intro X hP hw hK hc i zv s σ H E I hf st hg;subst hP hw hK;obtain⟨hz,hI,⟨o1,o2,o3,hO⟩,h1,h2,h3⟩:=st;obtain⟨xs,hq,hx⟩:=hg;obtain⟨its,rv,sq⟩:=xm I hq;have hl:i=its.toArray.size:=by have:=rv.length;simp;omega
  subst hl;refine amj hz (asj (I.ok.hd hc) D hz hI hO h1 sq fun g e kk ⟨o,he,ce⟩=>⟨e,o,rfl,he,ce,rfl,ab9 (t':=s.toks) (fp:=[z,TI,TO,i1,i2,i3]) I (fun b o hn z=>kk b o (fun z=>hn (by simp[z])) (fun z=>hn (by simp[z])) z) hf⟩)
 self:=fun _ _ _ _ _ st h=>wpAny_pyIter_zip st.1 h
theorem a2r{N l1 l2 l3:Nat}(h1:l1 < N)(h2:l2 < N)(h3:l3 < N):Apart3 (N+5) (N+3) (N+4) N (N+1) (N+2) l1 l2 l3:=by
 constructor <;> (intro e;have e:(_:Nat)=_:=e;omega)
section
variable{X:Cx}
def a6x(K:Fg9)(ta:TA):TI:=fun σ H R=>ta σ H fun vs H1=>∃a1 a2 a3 k1 k2 k3,vs=[.ref a1,.ref a2,.ref a3]/\(∃xs,SqK k1 K H1 a1 xs)/\(∃xs,SqK k2 K H1 a2 xs)/\(∃xs,SqK k3 K H1 a3 xs)/\R (Itz3 K k1 k2 k3 a1 a2 a3) H1
theorem aw2{e1 e2 e3:Expr}{ta:TA}{p pos:Pos}{elts:List Expr}{n:Nat}{tp:Pos}(hg:Gl X "zip")(hm:X.mg "zip" = none)(ha:PA X [e1,e2,e3] ta)(hs:aW [e1,e2,e3] X.env=[(false,eval e1 X.env),(false,eval e2 X.env),(false,eval e3 X.env)]:=by rfl)(hs2:aW [e2,e3] X.env=[(false,eval e2 X.env),(false,eval e3 X.env)]:=by rfl) :
  PI X (.Tuple elts n tp) (.Call (.Name "zip" p) [e1,e2,e3] [] pos) (a6x X.K ta):=by
 intro zv s σ H R I h;refine Call_ (af3 I hg hm av1 (gH (thn (ha pos zv s σ H _ I h) fun us s1 ⟨vs,H1,I1,r1,q1⟩ =>?_) (by rw[hs,hs2]) (by rw[hs2];rfl)))
 obtain⟨a1,a2,a3,k1,k2,k3,rfl,⟨x1,hq1⟩,⟨x2,hq2⟩,⟨x3,hq3⟩,q⟩:=q1;cases r1 with
 | cons ru1 r1 =>
 obtain⟨u2,u3,rfl,ru2,ru3⟩:=vals2 r1;cases ru1;cases ru2;cases ru3;obtain⟨t1,r1',sq1⟩:=xm I1 hq1;have b1:a1 < s1.heap.objs.size:=by obtain⟨o,e⟩:=sq1.got;exact aQ e
 obtain⟨t2,r2',sq2⟩:=xm I1 hq2;have b2:a2 < s1.heap.objs.size:=by obtain⟨o,e⟩:=sq2.got;exact aQ e
 obtain⟨t3,r3',sq3⟩:=xm I1 hq3;have b3:a3 < s1.heap.objs.size:=by obtain⟨o,e⟩:=sq3.got;exact aQ e
 refine arx sq1 sq2 sq3 fun g hz hI hO h1 h2 h3 hsz kk=>wpAny_pyIter_zip hz ?_
 have I2:Inv X zv σ H1 { s1 with heap:=g }:=I1.kept (t':=s1.toks) kk
 refine⟨_,[s1.heap.objs.size+5,s1.heap.objs.size+3,s1.heap.objs.size+4,s1.heap.objs.size,s1.heap.objs.size+1,s1.heap.objs.size+2],_,_,H1,rfl,I2,ao7 k1 k2 k3 a1 a2 a3 _ _ _ _ _ _ (a2r b1 b2 b3),⟨hz,hI,⟨_,_,_,hO⟩,h1,h2,h3⟩,fun c hc =>?_,q⟩
 have hc:s1.heap.objs.size<=c:=by
  simp only[aY,cQ,or_false] at hc;rcases hc with rfl | rfl | rfl | rfl | rfl | rfl <;> first | exact aM _ | exact vX _ _
 exact I1.fpOk hc (I1.hok.fresh hc)
end
end Mn
namespace Dn
open L2 Mn
section
variable{K:Fg9}{X:Cx}{e a b c:Expr}{es elts:List Expr}{pos p tp:Pos}{n:Nat}
theorem ag9{F:Hp}{d:D}{l:List D}{v:V}(e:itemsD d=some l)(h:Is K F d v):∃a k vs,v=.ref a/\IsL K F l vs/\∀H,Same F H->SqK k K H a vs:=by
 cases h with
 | tup e1 h1=>cases e;exact⟨_,true,_,rfl,h1,fun H g=>SqT.of (g _ _ e1)⟩
 | lst e1 h1=>cases e;exact⟨_,false,_,rfl,h1,fun H g=>SqL.of (g _ _ e1)⟩
 | kst e1 h1=>cases e;exact⟨_,false,_,rfl,h1,fun H g=>L2.Same.seq g e1⟩
 | _=>cases e
def agl(l:List D):List D:=l.mapIdx fun i d=>.tup [.int (i:Nat),d]
def aoq:List D->Option (List D)
 | [d]=>(itemsD d).map agl
 | _=>none
theorem ady(l:List D):(agl l).length=l.length:=by unfold agl;simp
theorem agk{l:List D}{i:Nat}{d:D}(h:(agl l)[i]? = some d):∃d0,l[i]? = some d0/\d=.tup [.int (i:Nat),d0]:=by
 unfold agl at h;rw[oH] at h;cases e:l[i]? with
 | none=>rw[e] at h;cases h
 | some d0=>rw[e] at h;cases h;exact⟨d0,rfl,rfl⟩
theorem aud{F:Hp}{k:Bool}{a:Addr}{l:List D}{vs:List V}(il:IsL K F l vs)(hs:∀H,Same F H->SqK k K H a vs):ItD K (Ite K k a) (agl l) F where
 go:=fun i H s hi=>by
  have hi:i < vs.length:=by rw[<-il.length,<-ady];exact hi
  exact⟨vs,_,hs H s,aC hi⟩
 yld:=fun i H x H' d s y hd=>by
  obtain⟨d0,h0,rfl⟩:=agk hd;obtain⟨q,v,hq,rfl,rfl,hv⟩:=y;obtain⟨v',e1,i1⟩:=il.get h0;have:=hv _ (hs H s);rw[e1] at this;cases this;exact .inr ⟨q,_,_,hq,rfl,rfl,rfl,.cons (.int _) (.cons i1 .nil)⟩
 stop:=fun H s=>⟨vs,hs H s,by rw[ady,il.length]⟩
theorem aqn{m:M (List D)}(hg:Gl X "enumerate")(hm:X.mg "enumerate" = none)(h:ED K X [a] m)(hs:aW [a] X.env=[(false,eval a X.env)]:=by rfl):IT K X (.Tuple elts n tp) (.Call (.Name "enumerate" p) [a] [] pos) (mGet aoq m):=IT.mk fun hk=>by
 intro zv s σ H R I ⟨tg,F,ρ,l,ρ',G,em,q⟩;obtain⟨ds,ρ1,e1,em⟩:=bc em;obtain⟨e2,rfl⟩:=ie em;have h:=h hk;subst hk;refine aw4 hg hm h hs zv s σ H R I ⟨tg,F,ρ,ds,_,G,e1,fun vs H' F' G' x r =>?_⟩
 match ds,e2 with
 | [d],e2 =>
  have e2:(itemsD d).map agl=some l:=e2;cases e3:itemsD d with
  | none=>rw[e3] at e2;cases e2
  | some l0 =>
   rw[e3] at e2;cases e2;cases r with
   | cons h1 t =>
    cases t;obtain⟨b,k,ws,rfl,il,hq⟩:=ag9 e3 h1;exact⟨b,k,rfl,⟨ws,hq _ G'.sub⟩,q _ H' F' G' x (aud il hq)⟩
def sr(l1 l2:List D):List D:=lL (fun x y=>.tup [x,y]) l1 l2
noncomputable def acv(l1 l2 l3:List D):List D:=lL (fun x (p:D×D)=>.tup [x,p.1,p.2]) l1 (sX l2 l3)
def ag1:List D->Option (List D)
 | [a,b]=>(itemsD a).bind fun l1=>(itemsD b).bind fun l2=>if l1.length<=l2.length then some (sr l1 l2) else none
 | _=>none
def aqu:List D->Option (List D)
 | [a,b,c]=>(itemsD a).bind fun l1=>(itemsD b).bind fun l2=>(itemsD c).bind fun l3=>if l1.length<=l2.length/\l1.length<=l3.length then some (acv l1 l2 l3) else none
 | _=>none
theorem afh{l1 l2:List D}{i:Nat}{d:D}(h:(sr l1 l2)[i]? = some d):∃d1 d2,l1[i]? = some d1/\l2[i]? = some d2/\d=.tup [d1,d2]:=by
 unfold sr at h;rw[iT] at h;cases e1:l1[i]? with
 | none=>rw[e1] at h;cases h
 | some d1 =>
  cases e2:l2[i]? with
  | none=>rw[e1,e2] at h;cases h
  | some d2=>rw[e1,e2] at h;cases h;exact⟨_,_,rfl,rfl,rfl⟩
theorem ac6{l1 l2 l3:List D}{i:Nat}{d:D}(h:(acv l1 l2 l3)[i]? = some d):∃d1 d2 d3,l1[i]? = some d1/\l2[i]? = some d2/\l3[i]? = some d3/\d=.tup [d1,d2,d3]:=by
 unfold acv at h;rw[iT] at h;cases e1:l1[i]? with
 | none=>rw[e1] at h;cases h
 | some d1 =>
  cases e2:(sX l2 l3)[i]? with
  | none=>rw[e1,e2] at h;cases h
  | some p =>
   rw[e1,e2] at h;cases h;rw[rQ] at e2;exact⟨_,_,_,rfl,e2.1,e2.2,rfl⟩
theorem auc{F:Hp}{k1 k2:Bool}{a1 a2:Addr}{l1 l2:List D}{x1 x2:List V}(h:l1.length<=l2.length)(i1:IsL K F l1 x1)(i2:IsL K F l2 x2)(s1:∀H,Same F H->SqK k1 K H a1 x1)(s2:∀H,Same F H->SqK k2 K H a2 x2):ItD K (Itz2 K k1 k2 a1 a2) (sr l1 l2) F where
 go:=fun i H s hi=>by
  have z1:=i1.length;have z2:=i2.length;have hi:i < l1.length:=by unfold sr at hi;simp at hi;omega
  exact⟨x1,x2,_,_,⟨s1 H s,aC (by omega)⟩,s2 H s,aC (by omega)⟩
 yld:=fun i H x H' d s y hd=>by
  obtain⟨d1,d2,h1,h2,rfl⟩:=afh hd;obtain⟨q,v1,v2,hq,rfl,rfl,y1,y2⟩:=y;obtain⟨w1,e1,j1⟩:=i1.get h1;obtain⟨w2,e2,j2⟩:=i2.get h2;have z1:=y1 _ (s1 H s);have z2:=y2 _ (s2 H s);rw[e1] at z1;rw[e2] at z2;cases z1;cases z2;exact .inr ⟨q,_,_,hq,rfl,rfl,rfl,.cons j1 (.cons j2 .nil)⟩
 stop:=fun H s=>⟨x1,s1 H s,by unfold sr;rw[fV,<-i1.length];omega⟩
theorem aub{F:Hp}{k1 k2 k3:Bool}{a1 a2 a3:Addr}{l1 l2 l3:List D}{x1 x2 x3:List V}(h:l1.length<=l2.length/\l1.length<=l3.length)(i1:IsL K F l1 x1)(i2:IsL K F l2 x2)(i3:IsL K F l3 x3)
  (s1:∀H,Same F H->SqK k1 K H a1 x1) (s2:∀H,Same F H->SqK k2 K H a2 x2) (s3:∀H,Same F H->SqK k3 K H a3 x3):ItD K (Itz3 K k1 k2 k3 a1 a2 a3) (acv l1 l2 l3) F where
 go:=fun i H s hi=>by
  have z1:=i1.length;have z2:=i2.length;have z3:=i3.length;have hi:i < l1.length:=by unfold acv at hi;simp at hi;omega
  exact⟨x1,x2,x3,_,_,_,⟨s1 H s,aC (by omega)⟩,⟨s2 H s,aC (by omega)⟩,s3 H s,aC (by omega)⟩
 yld:=fun i H x H' d s y hd=>by
  obtain⟨d1,d2,d3,h1,h2,h3,rfl⟩:=ac6 hd;obtain⟨q,v1,v2,v3,hq,rfl,rfl,y1,y2,y3⟩:=y;obtain⟨w1,e1,j1⟩:=i1.get h1;obtain⟨w2,e2,j2⟩:=i2.get h2;obtain⟨w3,e3,j3⟩:=i3.get h3;have z1:=y1 _ (s1 H s);have z2:=y2 _ (s2 H s);have z3:=y3 _ (s3 H s);rw[e1] at z1;rw[e2] at z2;rw[e3] at z3;cases z1;cases z2;cases z3;exact .inr ⟨q,_,_,hq,rfl,rfl,rfl,.cons j1 (.cons j2 (.cons j3 .nil))⟩
 stop:=fun H s=>⟨x1,s1 H s,by unfold acv;rw[fV,qW,<-i1.length];omega⟩
theorem abp{m:M (List D)}(hg:Gl X "zip")(hm:X.mg "zip" = none)(h:ED K X [a,b] m)(hs:aW [a,b] X.env=[(false,eval a X.env),(false,eval b X.env)]:=by rfl)(hs2:aW [b] X.env=[(false,eval b X.env)]:=by rfl) :
  IT K X (.Tuple elts n tp) (.Call (.Name "zip" p) [a,b] [] pos) (mGet ag1 m):=IT.mk fun hk=>by
 intro zv s σ H R I ⟨tg,F,ρ,l,ρ',G,em,q⟩;obtain⟨ds,ρ1,e1,em⟩:=bc em;obtain⟨e2,rfl⟩:=ie em;have h:=h hk;subst hk;refine aw3 hg hm h hs hs2 zv s σ H R I ⟨tg,F,ρ,ds,_,G,e1,fun vs H' F' G' x r =>?_⟩
 match ds,e2 with
 | [d,d'],e2 =>
  have e2:((itemsD d).bind fun l1=>(itemsD d').bind fun l2=>if l1.length<=l2.length then some (sr l1 l2) else none)=some l:=e2
  cases e3:itemsD d with
  | none=>rw[e3] at e2;cases e2
  | some l1 =>
   cases e4:itemsD d' with
   | none=>rw[e3,e4] at e2;cases e2
   | some l2 =>
    rw[e3,e4] at e2;have e2:(if l1.length<=l2.length then some (sr l1 l2) else none)=some l:=e2
    split at e2
    ·rename_i hle;cases e2;cases r with
     | cons h1 t =>
      cases t with
      | cons h2 t =>
       cases t;obtain⟨b1,k1,w1,rfl,il1,hq1⟩:=ag9 e3 h1;obtain⟨b2,k2,w2,rfl,il2,hq2⟩:=ag9 e4 h2;exact⟨b1,b2,k1,k2,rfl,⟨w1,hq1 _ G'.sub⟩,⟨w2,hq2 _ G'.sub⟩,q _ H' F' G' x (auc hle il1 il2 hq1 hq2)⟩
    ·cases e2
theorem alj{m:M (List D)}(hg:Gl X "zip")(hm:X.mg "zip" = none)(h:ED K X [a,b,c] m)(hs:aW [a,b,c] X.env=[(false,eval a X.env),(false,eval b X.env),(false,eval c X.env)]:=by rfl)(hs2:aW [b,c] X.env=[(false,eval b X.env),(false,eval c X.env)]:=by rfl) :
  IT K X (.Tuple elts n tp) (.Call (.Name "zip" p) [a,b,c] [] pos) (mGet aqu m):=IT.mk fun hk=>by
 intro zv s σ H R I ⟨tg,F,ρ,l,ρ',G,em,q⟩;obtain⟨ds,ρ1,e1,em⟩:=bc em;obtain⟨e2,rfl⟩:=ie em;have h:=h hk;subst hk;refine aw2 hg hm h hs hs2 zv s σ H R I ⟨tg,F,ρ,ds,_,G,e1,fun vs H' F' G' x r =>?_⟩
 match ds,e2 with
 | [d,d',d''],e2 =>
  have e2:((itemsD d).bind fun l1=>(itemsD d').bind fun l2=>(itemsD d'').bind fun l3=>if l1.length<=l2.length/\l1.length<=l3.length then some (acv l1 l2 l3) else none)=some l:=e2
  cases e3:itemsD d with
  | none=>rw[e3] at e2;cases e2
  | some l1 =>
   cases e4:itemsD d' with
   | none=>rw[e3,e4] at e2;cases e2
   | some l2 =>
    cases e5:itemsD d'' with
    | none=>rw[e3,e4,e5] at e2;cases e2
    | some l3 =>
     rw[e3,e4,e5] at e2;have e2:(if l1.length<=l2.length/\l1.length<=l3.length then some (acv l1 l2 l3) else none)=some l:=e2
     split at e2
     ·rename_i hle;cases e2;cases r with
      | cons h1 t =>
       cases t with
       | cons h2 t =>
        cases t with
        | cons h3 t =>
         cases t;obtain⟨b1,k1,w1,rfl,il1,hq1⟩:=ag9 e3 h1;obtain⟨b2,k2,w2,rfl,il2,hq2⟩:=ag9 e4 h2;obtain⟨b3,k3,w3,rfl,il3,hq3⟩:=ag9 e5 h3;exact⟨b1,b2,b3,k1,k2,k3,rfl,⟨w1,hq1 _ G'.sub⟩,⟨w2,hq2 _ G'.sub⟩,⟨w3,hq3 _ G'.sub⟩,q _ H' F' G' x (aub hle il1 il2 il3 hq1 hq2 hq3)⟩
     ·cases e2
end
end Dn
namespace Mn
open L2
theorem am0{X:Cx}:PGet X (rIxL X.K):=by
 intro zv s σ H x y v u Q I rx ry h;obtain⟨p,xs,i,z,rfl,rfl,hq,he,q⟩:=h;cases rx;obtain⟨t,rfl⟩:=ry;obtain⟨its,r,pl,hz⟩:=I.list hq;obtain⟨j,h1,h2,h3,h4,h5⟩:=al1 he;obtain⟨w,ew,rw'⟩:=r.get h2;have hl:=r.length;have hn:=aju;have fin:EP X zv σ Q w s:=⟨z,H,I,rw',q⟩
 by_cases h0:0<=i
 ·have hj:i.toNat=j:=by
   rw[seqIndex_of h0 h5] at h1;exact bW h1
  exact wpAny_getItem_list pl.isList h0 (by omega) (by rw[hj];simpa using ew) fin
 ·have hj:(i+(its.toArray.size:Int)).toNat=j:=by
   rw[seqIndex_neg (by omega) h4] at h1
   have:=bW h1;rw[aV,<-hl];exact this
  exact wpAny_getItem_list_neg pl.isList (by omega) (by simp only[aV];omega) (by omega) (by rw[hj];simpa using ew) fin
end Mn
namespace Dn
open L2 Mn
section
variable{K:Fg9}{X:Cx}{e a b:Expr}{pos p:Pos}
def alx(f:Int->Int->Int)(i:Nat)(mi m:M D):Sd:=dM (mOwn i) fun _=>dM mi fun k=>dM (mOwn i) fun l=>dM (lift ((asI k).bind (ixN l.length))) fun j=>dM (lift ((l[j]?).bind asI)) fun x=>dM m fun y=>dM (lift (asI y)) fun y=>dM (mOwn i) fun l2=>dM (lift (if l2.length=l.length then some () else none)) fun _=>dM (abn i (l2.set j (.int (f x y)))) fun _=>dNx
theorem avn{n:Nat}{k:Int}{j:Nat}{α:Type}{l:List α}(hn:l.length=n)(h:ixN n k=some j):atI l k=l[j]? := by
 unfold atI;rw[hn,h];rfl
theorem apg{f:Int->Int->Int}{op:Operator}{i:Nat}{mi m:M D}(ho:PE X a (tVar i))(hi:EV K X b mi)(h:EV K X e m)(hp:PIp X op (ipI f))
  (ha:∀ov iv new,augStore b ov iv new=(do jC [new,ov,iv] (setItem ov iv new);release [new,ov,iv] [];pure .next):=by intros;rfl):SV K X (.AugAssign (.Subscript a b p) op e pos) (alx f i mi m):=SV.mk fun hk=>by
 subst hk;refine PS.imp (apv ho (hi rfl) am0 (h rfl) hp set_list ha) fun E σ H ⟨tg,F,ρ,fl,ρ',G,em,q⟩ =>
  mj em q fun l0 ρ0 e0 em=>mj em q fun k ρ1 e1 em=>mj em q fun l ρ2 e2 em=>mj em q fun j ρ3 e3 em=>mj em q fun x ρ4 e4 em=>mj em q fun y ρ5 e5 em=>mj em q fun y' ρ6 e6 em=>mj em q fun l2 ρ7 e7 em=>mj em q fun u ρ8 e8 em=>mj em q fun u2 ρ9 e9 em =>?_
 cases em;obtain⟨rfl,t0,a0,xs0,es0,hv,hh0,hl0⟩:=acn G e0;refine⟨_,hv,tg,F,_,k,ρ1,G,e1,fun w H1 F1 G1 x1 r1 =>?_⟩
 obtain⟨rfl,t1,a1,xs1,es1,hv1,hh1,hl1⟩:=acn G1 e2;rw[hv] at hv1;cases hv1;obtain⟨g3,rfl⟩:=ie e3;obtain⟨g4,rfl⟩:=ie e4;cases ek:asI k with
 | none=>rw[ek] at g3;cases g3
 | some n =>
  rw[ek] at g3;obtain rfl:=ae6 ek;cases r1;have e3:ixN l.length n=some j:=g3;cases ej:l[j]? with
  | none=>rw[ej] at g4;cases g4
  | some d =>
   rw[ej] at g4;have h4:asI d=some x:=g4;obtain rfl:=ae6 h4;obtain⟨v,ev,iv⟩:=hl1.get ej;cases iv;refine⟨_,xs1,n,.int x,rfl,rfl,SqL.of hh1,by rw[avn hl1.length.symm e3];exact ev,?_⟩
   refine⟨tg,F1,_,y,ρ5,G1,e5,fun w2 H2 F2 G2 x2 r2 =>?_⟩
   obtain⟨g6,rfl⟩:=ie e6;obtain rfl:=ae6 g6;cases r2;refine⟨x,y',rfl,rfl,?_⟩;obtain⟨rfl,t2,a2,xs2,es2,hv2,hh2,hl2⟩:=acn G2 e7;rw[hv] at hv2;cases hv2;obtain⟨g8,rfl⟩:=ie e8;split at g8
   ·rename_i hlen;obtain⟨G3,x3⟩:=afy G2 e9 hv (hl2.set (Is.int (f x y')) j);exact⟨_,xs2,n,j,rfl,rfl,hh2,by rw[<-hl2.length,hlen];exact e3,q _ _ F2 G3 ((x1.trans x2).trans x3)⟩
   ·cases g8
end
section
variable{K:Fg9}{X:Cx}{a:Expr}{pos p p2 pos2:Pos}
theorem ar0:zj X (.type "range") (fun xs H Q=>∃b,xs=[.int b]/\∀q,H q=none->Q (.ref q) (upd H q (.rng 0 b))):=by
 intro zv s σ H xs us Q I r h;obtain⟨b,rfl,q⟩:=h;obtain⟨u,rfl,ru⟩:=vals1 r;obtain⟨t,rfl⟩:=ru;exact call_range_1 ⟨.ref s.heap.objs.size,_,I.laid (t':=s.toks+1+1) (o:=.rng 0 b) (fun b ob q=>aB _ q) (aM _) ⟨_,_,_,aK _ rfl⟩,rfl,q _ (I.hok.fresh (aM _))⟩
theorem asw{acc:Array Value}{n:Nat}(h:ItemsOf (fun i v=>∃t,v=.int (0+i*1) t) acc n):Vals (ups 0 n) acc.toList:=by
 have key:∀(l:List Value) (k:Nat),(∀j v,l[j]? = some v->∃t,v=lZ ((k+j:Nat):Int) t)->Vals ((List.range' k l.length).map fun(i:Nat)=>V.int ((i:Nat):Int)) l:=by
  intro l
  induction l with
  | nil=>intro k _;exact .nil
  | cons x r ih =>
   intro k hk;rw[bO,List.range'_succ,aU];refine .cons ?_ (ih (k+1) fun j v hj =>?_)
   ·obtain⟨t,rfl⟩:=hk 0 x rfl;exact⟨t,by simp⟩
   ·obtain⟨t,rfl⟩:=hk (j+1) v (by simpa using hj)
    exact⟨t,by rw[show k+(j+1)=k+1+j by omega]⟩
 have e:=key acc.toList 0 fun j v hj=>by
  obtain⟨t,rfl⟩:=h.2 j v (by simpa using hj)
  exact⟨t,by simp⟩
 have hs:acc.toList.length=n:=by simpa using h.1
 rw[hs] at e;unfold ups;rw[List.range_eq_range']
 simpa using e
theorem akd(hc:X.calm=true):zj X (.type "list") (fun xs H Q=>∃p b,xs=[.ref p]/\H p=some (.rng 0 b)/\b.natAbs < 1000000/\∀q,H q=none->Q (.ref q) (upd H q (.lst (ups 0 b.toNat)))):=by
 intro zv s σ H xs us Q I r h;obtain⟨p,b,rfl,hp,hb,q⟩:=h;obtain⟨u,rfl,ru⟩:=vals1 r;cases ru;obtain⟨t,u,v,e⟩:=I.hok p _ hp;have e62:(2:Int) ^ 62=4611686018427387904:=by decide
 have e24:(2:Nat) ^ 24=16777216:=by decide
 refine call_list_range (I.ok.hd hc) e (small_one (by omega) (by omega) (by omega) (by omega)) (n:=b.toNat) (by rw[rangeSize_one];split <;> omega) (by omega) fun h' tk acc c' kk e' it =>?_
 refine⟨.ref s.heap.objs.size,_,?_,rfl,q _ (I.hok.fresh (aM _))⟩;exact I.laid kk (aM _) ⟨by rw[ahp,gQ];omega,acc.toList,c',asw it,by simpa using e'⟩
def acd:List D->Option Rv
 | [.int j]=>if j.natAbs < 1000000 then some (.fr (jy 0 j.toNat)) else none
 | _=>none
def aed(m:M (List D)):M Rv:=m.bind fun ds=>lift (acd ds)
@[simp] theorem atx(ρ:Ro)(m:M (List D)):aed m ρ=(m.bind fun ds=>lift (acd ds)) ρ:=rfl
@[simp] theorem asi(j:Int):acd [.int j]=if j.natAbs < 1000000 then some (.fr (jy 0 j.toNat)) else none:=rfl
theorem aka{m:M (List D)}(hc:X.calm=true)(hg1:Gl X "list")(hm1:X.mg "list" = none)(hg2:Gl X "range")(hm2:X.mg "range" = none)(h:ED K X [a] m)
  (he:aW [a] X.env=[(false,eval a X.env)]:=by rfl) (he2:aW [.Call (.Name "range" p2) [a] [] pos2] X.env=[(false,eval (.Call (.Name "range" p2) [a] [] pos2) X.env)]:=by rfl) :
  ER K X (.Call (.Name "list" p) [.Call (.Name "range" p2) [a] [] pos2] [] pos) (aed m):=ER.mk fun hk=>PE.imp (adf (akd hc) hg1 hm1 aby (ut (adf ar0 hg2 hm2 au5 (h hk) (by decide) (by decide) he rfl) afu he2) (by decide) (by decide) he2 rfl) fun σ H Q hq0=>by
 obtain⟨tg,F,ρ,r,ρ',G,em,q⟩:=hq0;obtain⟨ds,ρ1,e1,em⟩:=bc em;obtain⟨e2,rfl⟩:=ie em;refine⟨tg,F,ρ,ds,_,G,e1,fun vs H1 F1 G1 x1 bl =>?_⟩
 unfold acd at e2;split at e2
 ·rename_i j;split at e2
  ·rename_i hb;cases e2;cases bl with
   | cons hd t =>
    cases t;cases hd;refine⟨j,rfl,fun a hna =>?_⟩
    refine⟨a,j,rfl,je,hb,fun b hnb =>?_⟩
    have G2:=G1.fresh hna (.rng 0 j);have X2:=G1.freshX hna (.rng 0 j);exact Res.lst G2 (fun v H3 F3 G3 x3 rr=>q v H3 F3 G3 ((x1.trans X2).trans x3) (n8 (x1.trans X2) rr)) (amb 0 _) hnb
  ·cases e2
 ·cases e2
end
end Dn
namespace Mn
open L2
set_option maxRecDepth 100000
section
variable{prog:aZ}{w:World}{A:cI}{E:Value->aJ->Prop}{s:aJ}
end
end Mn
namespace Dn
open L2 Mn
section
variable{K:Fg9}{X:Cx}{a:Expr}{pos p p2 pos2:Pos}
def agg:List D->Option Rv
 | [.int j]=>if j.natAbs < 1000000 then some (.v (.tup (jy 0 j.toNat))) else none
 | _=>none
def ala(m:M (List D)):M Rv:=m.bind fun ds=>lift (agg ds)
@[simp] theorem ash(ρ:Ro)(m:M (List D)):ala m ρ=(m.bind fun ds=>lift (agg ds)) ρ:=rfl
@[simp] theorem aul(j:Int):agg [.int j]=if j.natAbs < 1000000 then some (.v (.tup (jy 0 j.toNat))) else none:=rfl
end
end Dn
namespace Mn
open L2
section
variable{prog:aZ}{w:World}{A:cI}{E:Value->aJ->Prop}{s:aJ}
end
section
variable{X:Cx}{e:Expr}{te:TE}{pos p2 p3:Pos}{st:Expr}{ts:TE}
end
end Mn
namespace Dn
open L2 Mn
section
variable{K:Fg9}{X:Cx}{a st:Expr}{pos p p2 pos2:Pos}
def gRev:D->D->Option Rv
 | .tup l,.int k=>if k = -1 then some (.v (.tup l.reverse)) else none
 | _,_=>none
@[simp] theorem a3r(l:List D):gRev (.tup l) (.int (-1))=some (.v (.tup l.reverse)):=rfl
def mRev(m ms:M D):M Rv:=m.bind fun d=>ms.bind fun k=>lift (gRev d k)
@[simp] theorem a5u(ρ:Ro)(m ms:M D):mRev m ms ρ=(m.bind fun d=>ms.bind fun k=>lift (gRev d k)) ρ:=rfl
end
section
variable{K:Fg9}{X:Cx}{e:Expr}{pos p:Pos}
def a73(f:Int->Int->Option Int)(i:Nat)(m:M D):Sd:=dM (mVar i) fun x=>dM m fun y=>dM (lift ((asI x).bind fun n=>(asI y).bind fun k=>(f n k).map D.int)) fun z ρ=>some (.nx,bA ρ i (.val z))
@[simp] theorem a4n(ρ:Ro)(f:Int->Int->Option Int)(i:Nat)(m:M D):a73 f i m ρ=(dM (mVar i) fun x=>dM m fun y=>dM (lift ((asI x).bind fun n=>(asI y).bind fun k=>(f n k).map D.int)) fun z ρ=>some (.nx,bA ρ i (.val z))) ρ:=rfl
end
end Dn
namespace Mn
open L2
section
variable{prog:aZ}{w:World}{A:cI}{E:Value->aJ->Prop}{s:aJ}
end
end Mn
namespace Dn
open L2 Mn
section
variable{K:Fg9}{X:Cx}
def aum:D->Option Rv
 | .tup l=>(qu l).bind fun ns=>if ns.length < 64 then some (.fr ((sortI ns).map D.int)) else none
 | d=>aqv d
@[simp] theorem avt(l:List D):aum (.lst l)=aqv (.lst l):=rfl
end
section
variable{K:Fg9}{X:Cx}
end
end Dn
namespace Mn
open L2
section
variable{X:Cx}{e:Expr}{te:TE}{pos p2 p3:Pos}{st:Expr}{ts:TE}
end
end Mn
namespace Dn
open L2 Mn
section
variable{K:Fg9}{X:Cx}{a st:Expr}{pos p p2 pos2:Pos}
def auo:D->D->Option Rv
 | .lst l,.int k=>if k = -1 then some (.fr l.reverse) else none
 | d,k=>gRev d k
@[simp] theorem a1v(l:List D):auo (.lst l) (.int (-1))=some (.fr l.reverse):=rfl
@[simp] theorem a1u(l:List D):auo (.tup l) (.int (-1))=some (.v (.tup l.reverse)):=rfl
def a5v(m ms:M D):M Rv:=m.bind fun d=>ms.bind fun k=>lift (auo d k)
@[simp] theorem a3d(ρ:Ro)(m ms:M D):a5v m ms ρ=(m.bind fun d=>ms.bind fun k=>lift (auo d k)) ρ:=rfl
end
end Dn
namespace Mn
open PySem
open PySem.Spec PyProof.Rows L2
section
variable{X:Cx}
theorem range_any(bs:List Bool):((bG bs.length).any fun i=>(bs[i]?).getD true)=bs.any id:=by
 have key:∀(l:List Bool) (f:Nat->Bool),(∀i (h:i < l.length),f i=l[i])->(bG l.length).any f=l.any id:=by
  intro l
  induction l with
  | nil=>intro f _;rfl
  | cons b r ih =>
   intro f hf;rw[bO,List.range_succ_eq_map,pG,List.any_map,pG];have h0:=hf 0 (by simp)
   rw[h0]
   congr 1
   exact ih (f∘Nat.succ) fun i hi=>by
    have:=hf (i+1) (by simpa using hi)
    simpa using this
 exact key bs _ fun i hi=>by simp[hi]
end
end Mn
namespace Dn
open L2 Mn
section
variable{K:Fg9}{X:Cx}
def gAny:D->Option Rv
 | .lst l=>(uc l).map fun bs=>.v (.bl (bs.any id))
 | _=>none
@[simp] theorem a4d(l:List D):gAny (.lst l)=(uc l).map fun bs=>.v (.bl (bs.any id)):=rfl
end
end Dn
namespace Mn
open L2
def aro(y:Str)(env:Env)(XN:List Str)(scope:Scope)(fr N:List Str)(src:List (Option Nat)):Bool :=
 scope.names.all (fun z=>(z.2 != .cell||z.1==y)&&(z.2 != .local||scope.names.lookup z.1==some .local)&&(z.2 != .free||fr.contains z.1)) &&
 fr.all (fun x=>x != y&&(scope.names.lookup x==some .free&&(env.kindOf x==some .cell||env.kindOf x==some .free)))&&ad5 XN fr N src
structure CompOkY (y:Str) (env:Env) (XN:List Str) (scope:Scope) (fr N:List Str) (src:List (Option Nat)):Prop where
 cell:∀z∈scope.names,z.2=.cell->z.1=y
 loc:∀z∈scope.names,z.2=.local->scope.names.lookup z.1=some .local
 free:∀z∈scope.names,z.2=.free->z.1∈fr
 ne:∀x∈fr,x≠y
 frk:∀x∈fr,scope.names.lookup x=some .free
 out:∀x∈fr,env.kindOf x=some .cell∨env.kindOf x=some .free
 src:ad5 XN fr N src=true
theorem CompOkY.of{y:Str}{env:Env}{XN:List Str}{scope:Scope}{fr N:List Str}{src:List (Option Nat)}(h:aro y env XN scope fr N src=true):CompOkY y env XN scope fr N src:=by
 simp only[aro,bF,fP] at h;obtain⟨⟨h1,h2⟩,h3⟩:=h;refine⟨fun z hz e =>?_,fun z hz e =>?_,fun z hz e =>?_,fun x hx =>?_,fun x hx =>?_,fun x hx =>?_,h3⟩
 ·have:=(h1 z hz).1.1;rw[e] at this
  simpa using this
 ·have:=(h1 z hz).1.2;rw[e] at this
  simpa using this
 ·have:=(h1 z hz).2;rw[e] at this
  simpa using this
 ·simpa using (h2 x hx).1
 ·simpa using (h2 x hx).2.1
 ·simpa using (h2 x hx).2.2
section
variable{y:Str}{X:Cx}{zv:List (Addr×Obj)}{σ:L2.St}{H:Hp}{s:aJ}{scope:Scope}{fr N:List Str}{src:List (Option Nat)}{fp:List Addr}
end
end Mn
namespace Dn
open L2 Mn
end Dn
namespace L2
section
variable{M:Model}{A:cI}{E:Value->aJ->Prop}{s:aJ}
structure KeptBut (fs ch:List Addr) (h h':Heap):Prop where
 keep:∀b o,b∉ch->b∉fs->h.get? b=some o->h'.get? b=some o
 slot:∀b o,b∉ch->h.get? b=some o->∃sl,h'.get? b=some { o with slots:=sl }
theorem KeptBut.trans{fs ch:List Addr}{h h1 h2:Heap}(a:KeptBut fs ch h h1)(b:KeptBut fs ch h1 h2):KeptBut fs ch h h2 :=
 ⟨fun c o n1 n2 e=>b.keep c o n1 n2 (a.keep c o n1 n2 e),fun c o n e=>let ⟨_,e1⟩:=a.slot c o n e;let ⟨sl,e2⟩:=b.slot c _ n e1;⟨sl,e2⟩⟩
theorem KeptBut.sub{fs ch ch':List Addr}{h h':Heap}(a:KeptBut fs ch h h')(q:∀b∈ch,b∈ch'):KeptBut fs ch' h h' :=
 ⟨fun c o n1 n2 e=>a.keep c o (fun z=>n1 (q c z)) n2 e,fun c o n e=>a.slot c o (fun z=>n (q c z)) e⟩
theorem KeptBut.upd{fs:List Addr}{h:Heap}{a:Addr}{f:Obj->Obj}:KeptBut fs [a] h (h.update a f) :=
 ⟨fun b o n _ e=>by rw[eV _ _ (fun z=>n (by simp[z]))];exact e,fun b o n e=>⟨o.slots,by rw[eV _ _ (fun z=>n (by simp[z]))];exact e⟩⟩
end
structure FlyAt (h:Heap) (a:Addr) (C:Addr) (dx:Option Addr) (ch:List Addr) (L:Addr):Prop where
 obj:∃oe vs,h.get? a=some oe/\oe.cls=.ref C/\oe.dict=dx/\oe.data=.fields vs/\1 < vs.size /\
  ((vs[1]? = some .none/\ch=[a])∨∃T oT ts fl,ch=[a,T]/\vs[1]? = some (.ref T)/\T≠a/\h.get? T=some oT/\oT.data=.fields ts/\ts[3]? = some fl/\(fl=.none∨fl=lC L))
theorem FlyAt.fresh{h:Heap}{a C L:Addr}{dx:Option Addr}{ch:List Addr}(x:FlyAt h a C dx ch L):a∈ch:=by
 obtain⟨oe,vs,_,_,_,_,_,⟨_,e⟩ | ⟨T,_,_,_,e,_⟩⟩:=x.obj <;> simp[e]
section
variable{M:Model}{A:cI}{E:Value->aJ->Prop}{s:aJ}
end
end L2
namespace Dn
open L2 Mn
def a8d(F:Hp)(dx:Option Addr)(fs:List (Str×Int)):Prop:=(dx=none/\fs=[])∨∃d,dx=some d/\F d=some (.xd (fs.map fun p=>(p.1,V.int p.2)))
structure ClsOk (K:Fg9) (c:Str) (C:Addr):Prop where
 ns:nsIn K aP c=some (some (.ref C))
 ok:ExcK K C
def FpX(X:Cx)(zv:List (Addr×Obj))(H:Hp)(b:Addr):Prop :=
 H b=none/\b≠X.env.locals/\b∉X.fs/\(b∈X.ex∨X.s₀.heap.get? b=none)/\(∀x c,X.env.cells.lookup x=some c->c≠b)/\∀p∈X.pn++zv,p.1≠b
section
variable{X:Cx}{zv:List (Addr×Obj)}{σ:L2.St}{H H':Hp}{s:aJ}
end
def FlyX(K:Fg9)(X:Cx)(zv:List (Addr×Obj))(x:Exn)(F H:Hp)(h:Heap)(e:Value):Prop :=
 ∃a C dx ch,e=.ref a/\ClsOk K x.cls C/\a8d F dx x.fs/\FlyAt h a C dx ch X.env.locals/\∀b∈ch,FpX X zv H b
def RX(K:Fg9)(X:Cx)(zv:List (Addr×Obj))(tg:Nat->Addr)(ρ:Ro)(σ:L2.St)(F H:Hp)(x:Exn)(ρ':Ro)(e:Value)(s':aJ):Prop :=
 ∃σ' H' F',Inv X zv σ' H' s'/\Good K tg F' H' ρ' σ'/\Ext (Own ρ σ) (Own ρ' σ') F H F' H'/\FlyX K X zv x F' H' s'.heap e
theorem RX.back{K:Fg9}{X:Cx}{zv:List (Addr×Obj)}{tg:Nat->Addr}{ρ ρ1 ρ':Ro}{σ σ1:L2.St}{F H F1 H1:Hp}{x:Exn}{e:Value}{s':aJ}(q:Ext (Own ρ σ) (Own ρ1 σ1) F H F1 H1)(h:RX K X zv tg ρ1 σ1 F1 H1 x ρ' e s'):RX K X zv tg ρ σ F H x ρ' e s' :=
 let ⟨σ',H',F',I,G,y,f⟩:=h;⟨σ',H',F',I,G,q.trans y,f⟩
abbrev XGo(K:Fg9)(X:Cx)(α:Type)(c:Sem α)(m:Ro->Option (Exn×Ro)):Prop :=
 X.K=K->X.xe=(fun _ _=>False)->∀zv s σ H tg F ρ x ρ',Inv X zv σ H s->Good K tg F H ρ σ->m ρ=some (x,ρ')->wpAny (model X.prog X.w) X.A c (fun _ _=>False) (RX K X zv tg ρ σ F H x ρ') s
noncomputable def exE{α:Type}(m:M α):Ro->Option (Exn×Ro):=fun ρ=>match m ρ with
 | some (.exc x,ρ')=>some (x,ρ')
 | _=>none
noncomputable def exS(g:Sd):Ro->Option (Exn×Ro):=fun ρ=>match g ρ with
 | some (.exc x,ρ')=>some (x,ρ')
 | _=>none
theorem ael{α:Type}{m:M α}{ρ ρ':Ro}{x:Exn}:exE m ρ=some (x,ρ')↔m ρ=some (.exc x,ρ'):=by
 unfold exE;split
 ·rename_i y ρ1 e;rw[e];constructor
  ·intro h;cases h;rfl
  ·intro h;cases h;rfl
 ·rename_i hn;constructor
  ·intro h;cases h
  ·intro h;exact absurd h (hn x ρ')
theorem ayo{g:Sd}{ρ ρ':Ro}{x:Exn}:exS g ρ=some (x,ρ')↔g ρ=some (.exc x,ρ'):=by
 unfold exS;split
 ·rename_i y ρ1 e;rw[e];constructor
  ·intro h;cases h;rfl
  ·intro h;cases h;rfl
 ·rename_i hn;constructor
  ·intro h;cases h
  ·intro h;exact absurd h (hn x ρ')
structure XE (K:Fg9) (X:Cx) (e:Expr) {α:Type} (m:M α):Prop where
 go:XGo K X Value (eval e X.env) (exE m)
structure XA (K:Fg9) (X:Cx) (es:List Expr) {α:Type} (m:M α):Prop where
 go:∀(pos:Pos),XGo K X (List Value) (spliced (jA pos (aW es X.env))) (exE m)
structure XS (K:Fg9) (X:Cx) (st:Stmt) (g:Sd):Prop where
 go:XGo K X Flow (exec st X.env) (exS g)
structure XSs (K:Fg9) (X:Cx) (ss:List Stmt) (g:Sd):Prop where
 go:XGo K X Flow (execs ss X.env) (exS g)
def NoX{α:Type}(m:M α):Prop:=∀ρ x ρ',m ρ≠some (.exc x,ρ')
def NoS(g:Sd):Prop:=∀ρ x ρ',g ρ≠some (.exc x,ρ')
section
variable{K:Fg9}{X:Cx}{e a b c:Expr}{es:List Expr}{pos p:Pos}{st:Stmt}{ss:List Stmt}
theorem XE.no{α:Type}{m:M α}(h:NoX m):XE K X e m:=⟨fun _ _ zv s σ H tg F ρ x ρ' I G em=>absurd (ael.mp em) (h ρ x ρ')⟩
theorem XS.no{g:Sd}(h:NoS g):XS K X st g:=⟨fun _ _ zv s σ H tg F ρ x ρ' I G em=>absurd (ayo.mp em) (h ρ x ρ')⟩
theorem anb{α β:Type}{m:M α}{k:α->M β}{ρ ρ':Ro}{x:Exn}(h:m.bind k ρ=some (.exc x,ρ')):m ρ=some (.exc x,ρ')∨∃a ρ1,m ρ=some (.ok a,ρ1)/\k a ρ1=some (.exc x,ρ'):=by
 unfold M.bind at h;split at h
 ·exact .inr ⟨_,_,by assumption,h⟩
 ·cases h;exact .inl (by assumption)
 ·cases h
theorem XA.no{α:Type}{m:M α}(h:NoX m):XA K X es m:=⟨fun _ _ _ zv s σ H tg F ρ x ρ' I G em=>absurd (ael.mp em) (h ρ x ρ')⟩
end
abbrev bmV:List Value:=[.type "ValueError", .type "Exception", .type "BaseException", .type "object"]
def a2f(x:Exn):Sd:=fun ρ=>some (.exc x,ρ)
section
variable{K:Fg9}{X:Cx}{c:Str}{C:Addr}{np cpos pos:Pos}
end
end Dn
namespace L2
section
variable{X:Cx}{zv:List (Addr×Obj)}{σ:List (Option V)}{H:Hp}{s:aJ}
end
section
variable{M:Model}{A:cI}{E:Value->aJ->Prop}{s:aJ}
structure CatK (K:Fg9) (B:Addr):Prop where
 cls:(mR K B).isSome=true
 ty:rN K (.ref B)=some (.type "type")
 base:mQ K (.ref B) (.type "BaseException")=some true
end
end L2
namespace Dn
open L2 Mn
noncomputable def a1o(c0 c:Str):Bool:=c0==c||c == "ArrowError" || c == "ValueError"
def gIsC(ns:List Str)(c:Str):D->Option D
 | .exn c0 _=>if ns.contains c0 then some (.bl (a1o c0 c)) else none
 | _=>none
def mIsC(ns:List Str)(c:Str)(m:M D):M D:=m.bind fun d=>lift (gIsC ns c d)
section
variable{K:Fg9}{X:Cx}{e:Expr}{pos p:Pos}
end
@[simp] theorem a6g(ns:List Str)(c:Str)(m:M D)(ρ:Ro):mIsC ns c m ρ=(m.bind fun d=>lift (gIsC ns c d)) ρ:=rfl
@[simp] theorem a3w(ns:List Str)(c c0:Str)(fs:List (Str×Int)):gIsC ns c (.exn c0 fs)=if ns.contains c0 then some (.bl (a1o c0 c)) else none:=rfl
end Dn
namespace L2
structure RoomU (k:Nat) (A:cI):Prop where
 dp:A.depth+3*k+5 < recursionLimit
 un:A.units+16*k+200 < cLine
 gd:A.guards=some []
theorem RoomU.mono{j k:Nat}{A:cI}(r:RoomU k A)(h:j<=k):RoomU j A:=⟨by have:=r.dp;omega,by have:=r.un;omega,r.gd⟩
theorem RoomU.deeper{k:Nat}{A:cI}(r:RoomU (k+1) A)(env:Env):RoomU k (A.deeper env) :=
 ⟨by have:=r.dp;show A.depth+1+3*k+5 < _;omega,by have:=r.un;show A.units+3+16*k+200 < _;omega,r.gd⟩
theorem RoomU.depth{k:Nat}{A:cI}(r:RoomU k A):A.depth < recursionLimit:=by have:=r.dp;omega
theorem RoomU.units{k:Nat}{A:cI}(r:RoomU k A):A.units+64 < cLine:=by have:=r.un;omega
theorem Room.mark{k:Nat}{A:cI}(r:Room k A)(e:Value):RoomU k (A.mark (some e)):=⟨r.dp,r.un,r.gd⟩
structure FnOkU (P:aZ) (w:World) (K:Fg9) (mg:Str->Option Value) (base:Heap) (k:Nat) (f:Addr) (fd:fM) (ps:List Str) (sp:Sp):Prop where
 len:∀vs H Q E,sp vs H Q E->vs.length=ps.length
 run:∀(A:cI) (outer:List Env) (s:aJ) (H:Hp) (args:Args) (us:List Value) (vs:List V) (Q:VK),RoomU k A->Env0 P w K mg base A outer s H->pU s fd args (ps.zip us)->Vals vs us->sp vs H Q E0 ->
  mK (model P w) A (.call (.ref f) args) (CR CX0 outer P w H s Q E0) s
end L2
namespace Dn
open L2 Mn
noncomputable def cxH(X:Cx)(ev:Value):Cx:={ X with A:=X.A.mark (some ev),calm:=false }
section
variable{K:Fg9}{X:Cx}{zv:List (Addr×Obj)}{σ:L2.St}{H:Hp}{s:aJ}{tg:Nat->Addr}{F:Hp}{ρ:Ro}
theorem Inv.hnd(I:Inv X zv σ H s)(ev:Value):Inv (cxH X ev) zv σ H s :=
 ⟨⟨I.ok.mod,I.ok.kind,I.ok.glob,I.ok.blt,I.ok.above,I.ok.inj,I.ok.has,I.ok.cab,(fun z=>absurd z dX),I.ok.frames,I.ok.stk,I.ok.exf,I.ok.bs,I.ok.bsz,I.ok.noex,I.ok.exfs,I.ok.funs,I.ok.frf⟩,I.os,I.bare,I.base,I.loc,I.cell,I.free,I.freeC,I.pin,I.hok,I.len⟩
end
structure CatN (K:Fg9) (B:Addr):Prop extends CatK K B where
 ns:nsIn K aP "ArrowError" = some (some (.ref B))
 self:mQ K (.ref B) (.ref B)=some true
section
variable{K:Fg9}{X:Cx}{pos hpos bp:Pos}{n:Str}{B:Addr}{i:Nat}{b₀:Stmt}{body suite:List Stmt}{ns:List Str}{gb gh:Sd}
end
def okS{α:Type}(m:M α):M α:=fun ρ=>match m ρ with
 | some (.ok a,ρ1)=>some (.ok a,ρ1)
 | _=>none
def dOk(g:Sd):Sd:=fun ρ=>match g ρ with
 | some (.exc _,_)=>none
 | r=>r
@[simp] theorem a8i{α:Type}(m:M α)(ρ:Ro):okS m ρ=match m ρ with
 | some (.ok a,ρ1)=>some (.ok a,ρ1)
 | _=>none:=rfl
@[simp] theorem a8v(g:Sd)(ρ:Ro):dOk g ρ=match g ρ with
 | some (.exc _,_)=>none
 | r=>r:=rfl
theorem ami{α:Type}{m:M α}{ρ ρ':Ro}{o:Out α}(h:okS m ρ=some (o,ρ')):m ρ=some (o,ρ')/\∃a,o=.ok a:=by
 unfold okS at h;split at h
 ·rename_i a ρ1 e;cases h;exact⟨e,a,rfl⟩
 ·cases h
theorem a2g{g:Sd}{ρ ρ':Ro}{fl:Fl}(h:dOk g ρ=some (fl,ρ')):g ρ=some (fl,ρ')/\∀x,fl≠.exc x:=by
 unfold dOk at h;split at h
 ·cases h
 ·rename_i hn;exact⟨h,fun x e=>hn x ρ' (by rw[h,e])⟩
section
variable{K:Fg9}{X:Cx}{e a b c:Expr}{es:List Expr}{pos p:Pos}{st:Stmt}{ss:List Stmt}
theorem SV.s{g:Sd}(h:SV K X st g):SV K X st (dOk g):=SV.mk fun hk=>PS.imp (h.go hk) fun E σ H ⟨tg,F,ρ,fl,ρ',G,em,q⟩=>⟨tg,F,ρ,fl,ρ',G,(a2g em).1,q⟩
theorem EV.s{m:M D}(h:EV K X e m):EV K X e (okS m):=EV.mk fun hk=>PE.imp (h.go hk) fun σ H Q ⟨tg,F,ρ,d,ρ',G,em,q⟩=>⟨tg,F,ρ,d,ρ',G,(ami em).1,q⟩
theorem ER.s{m:M Rv}(h:ER K X e m):ER K X e (okS m):=ER.mk fun hk=>PE.imp (h.go hk) fun σ H Q ⟨tg,F,ρ,d,ρ',G,em,q⟩=>⟨tg,F,ρ,d,ρ',G,(ami em).1,q⟩
theorem ET.s{m:M Bool}(h:ET K X e m):ET K X e (okS m):=ET.mk fun hk=>fun zv s σ H Q I ⟨tg,F,ρ,d,ρ',G,em,q⟩=>h.go hk zv s σ H Q I ⟨tg,F,ρ,d,ρ',G,(ami em).1,q⟩
theorem EG.s{js:List (Option Nat)}{m:M (List (Option D))}(h:EG K X es js m):EG K X es js (okS m):=EG.mk fun hk=>PA.imp (h.go hk) fun σ H Q ⟨tg,F,ρ,d,ρ',G,em,q⟩=>⟨tg,F,ρ,d,ρ',G,(ami em).1,q⟩
theorem XE.d{m:M Rv}(h:XE K X e m):XE K X e m.d:=⟨fun hk hn zv s σ H tg F ρ x ρ' I G em=>by
 rcases anb (ael.mp em) with em | ⟨_,_,_,em⟩
 ·exact h.go hk hn zv s σ H tg F ρ x ρ' I G (ael.mpr em)
 ·cases em⟩
theorem XE.v{m:M D}(h:XE K X e m):XE K X e m.v:=⟨fun hk hn zv s σ H tg F ρ x ρ' I G em=>by
 rcases anb (ael.mp em) with em | ⟨_,_,_,em⟩
 ·exact h.go hk hn zv s σ H tg F ρ x ρ' I G (ael.mpr em)
 ·cases em⟩
end
def fnS(f:Fd):Fd:=fun as=>match f as with
 | some (.exc _,_)=>none
 | r=>r
@[simp] theorem a8s(f:Fd)(as:Ro):fnS f as=match f as with
 | some (.exc _,_)=>none
 | r=>r:=rfl
section
variable{K:Fg9}{X:Cx}{e:Expr}{es:List Expr}{pos p:Pos}
end
section
variable{K:Fg9}{X:Cx}{e:Expr}{pos p np cpos hpos bp:Pos}{c:Str}
end
@[simp] theorem a2e(x:Exn)(ρ:Ro):a2f x ρ=some (.exc x,ρ):=rfl
section
variable{K:Fg9}{h:Heap}{mg:Str->Option Value}{ns:List Str}{c:Str}
end
end Dn
namespace Mn
open L2
section
variable{X:Cx}
end
end Mn
namespace Dn
open L2 Mn
section
variable{K:Fg9}{X:Cx}{a b:Expr}{pos p p2:Pos}
noncomputable def alp(neg:Bool):D->List D->Option D
 | .int i,[.int y]=>some (.bl (if neg then !(decide (0<=i)&&decide (i < y)) else (decide (0<=i)&&decide (i < y))))
 | _,_=>none
@[simp] theorem ayb(neg:Bool)(i y:Int):alp neg (.int i) [.int y]=some (.bl (if neg then !(decide (0<=i)&&decide (i < y)) else (decide (0<=i)&&decide (i < y)))):=rfl
def axw(neg:Bool)(m1:M D)(m2:M (List D)):M D:=m1.bind fun x=>m2.bind fun ds=>lift (alp neg x ds)
@[simp] theorem azd(neg:Bool)(m1:M D)(m2:M (List D))(ρ:Ro):axw neg m1 m2 ρ=(m1.bind fun x=>m2.bind fun ds=>lift (alp neg x ds)) ρ:=rfl
end
section
variable{K:Fg9}{X:Cx}{a b e:Expr}{pos:Pos}{m1:M D}{m2 m:M Rv}
def a5t(m1:M D)(m2:M Rv):M Rv:=m1.bind fun d=>m2.bind fun r=>match r with
 | .v d2=>ret (.v (.tup [d,d2]))
 | .fr l=>ret (.tf d l)
 | .tf _ _=>lift none
@[simp] theorem a3b(ρ:Ro):a5t m1 m2 ρ=(m1.bind fun d=>m2.bind fun r=>match r with
 | .v d2=>ret (.v (.tup [d,d2]))
 | .fr l=>ret (.tf d l)
 | .tf _ _=>lift none) ρ:=rfl
def a75(i j:Nat)(m:M Rv):Sd:=dM m fun r ρ=>match r with
 | .tf d l=>some (.nx,bA (bA ρ i (.val d)) j (.own none l))
 | .v (.tup [d,d2])=>some (.nx,bA (bA ρ i (.val d)) j (.val d2))
 | _=>none
end
@[simp] theorem a4o(i j:Nat)(m:M Rv)(ρ:Ro):a75 i j m ρ=dM m (fun r ρ=>match r with
 | .tf d l=>some (.nx,bA (bA ρ i (.val d)) j (.own none l))
 | .v (.tup [d,d2])=>some (.nx,bA (bA ρ i (.val d)) j (.val d2))
 | _=>none) ρ:=rfl
noncomputable def aym:D->Bool
 | .non | .bl _ | .int _ | .str _=>true
 | _=>false
def ap3:Sl->Bool
 | .own _ l=>l.all aym
 | _=>true
def a6c(i:Nat)(m:M Rv):M Rv:=fun ρ=>match ρ[i]?,m ρ with
 | some (.own none l),some (.ok (.fr ys),ρ')=>if ys.all aym=true/\ρ.all ap3=true then some (.ok (.fr ys),ρ) else none
 | _,_=>none
@[simp] theorem a3j(i:Nat)(m:M Rv)(ρ:Ro):a6c i m ρ=match ρ[i]?,m ρ with
 | some (.own none l),some (.ok (.fr ys),ρ')=>if ys.all aym=true/\ρ.all ap3=true then some (.ok (.fr ys),ρ) else none
 | _,_=>none:=rfl
end Dn
namespace Mn
open PySem PySem.SeqAt PySem.MeetsSeq
open PySem.AutoSeq1 (wpAny_loadPart')
end Mn
namespace Dn
open L2 Mn
end Dn
namespace Mn
open L2
section
variable{prog:aZ}{w:World}{A:cI}{E:Value->aJ->Prop}{h:Heap}{g:Array GenState}{d:Drawn}{t:Nat}{os:OsState}
variable{nm q:Str}{C N:Addr}{bs bm bmB:List Value}{hdct:Bool}{sn:List Str}{sub:List Value}{ab:Bool}{col:Option Bool}{dd:Option Addr}{k0 k1 k2 k3 k5:Option Value}{B Bn newId nid initId inN:String}{bmN:List Value}
end
end Mn
namespace Dn
open L2 Mn
noncomputable def refB:Value->Bool
 | .ref _=>true
 | _=>false
def ayn(K:Fg9)(C:Addr):Bool:=(mR K C).any fun cd=>cd.mro.dropWhile refB==bmV
section
variable{prog:aZ}{w:World}{A:cI}{E:Value->aJ->Prop}{s:aJ}{K:Fg9}{x C:Addr}{ox:Obj}{od:Option Obj}{name:Str}{v:Value}
end
section
variable{vs:Array Value}{X:Cx}{zv:List (Addr×Obj)}{σ:L2.St}{H:Hp}{s:aJ}{A:cI}{E:Value->aJ->Prop}{a C:Addr}{f:Str}
structure FldK (K:Fg9) (C:Addr) (f:Str):Prop where
 k:ExcK K C
 sa:jJ K (.ref C) "__setattr__" = some (some (.builtin "object.__setattr__"))
 ov:ayn K C=true
 tk:nJ K C f=some none
end
end Dn
namespace Mn
open L2
section
variable{M:Model}{A:cI}{E:Value->aJ->Prop}{env:Env}
variable{nm q:Str}{C N:Addr}{bs bm:List Value}{hdct:Bool}{sn:List Str}{sub:List Value}{ab:Bool}{col:Option Bool}{dd:Option Addr}{k0 k1 k2 k3 k5:Option Value}{newId:String}
end
section
variable{prog:aZ}{w:World}{A:cI}{E:Value->aJ->Prop}{s:aJ}{env:Env}
variable{nm q:Str}{C N:Addr}{bs bm bmB:List Value}{hdct:Bool}{sn:List Str}{sub:List Value}{ab:Bool}{col:Option Bool}{dd:Option Addr}{k0 k1 k2 k3 k5:Option Value}{B Bn newId nid initId inN:String}{bmN:List Value}
end
end Mn
namespace Dn
open L2 Mn
def a2c(K:Fg9)(C fI:Addr):Bool:=match K.lookup C with
 | some ⟨.type "type", _,.cls cd,sl⟩=>(match cd.mro,sl.toList with
  | .ref C'::bm,[_,_,_,_,some (.builtin n),_]=>C'==C&&n == "ValueError.__new__" && !cd.hasDel&&PySem.W.tailIn K bmV bm&&PySem.W.nsOkIn K cd.ns&&nsIn K cd.ns "__init__" == some (some (.ref fI))&&rN K (.ref fI)==some (.type "function")
  | _,_=>false)
 | _=>false
section
variable{K:Fg9}{X:Cx}{c f:Str}{C fI:Addr}{fd:fM}{kk:Nat}{e1:Expr}{m:M D}{np cpos pos:Pos}
end
def mFld(cs:List Str)(f:Str)(m:M D):M D:=m.bind fun d=>match d with
 | .exn c fs=>if cs.contains c=true then lift ((fs.lookup f).map D.int) else lift none
 | _=>lift none
@[simp] theorem a6i(cs:List Str)(f:Str)(m:M D)(ρ:Ro):mFld cs f m ρ=(m.bind fun d=>match d with
 | .exn c fs=>if cs.contains c=true then lift ((fs.lookup f).map D.int) else lift none
 | _=>lift none) ρ:=rfl
section
variable{K:Fg9}{X:Cx}{c f:Str}{st st':Stmt}{e1:Expr}{m:M D}{np cpos pos p1 p2 p3 p4:Pos}
structure IniT (K:Fg9) (mg:Str->Option Value) (c f q:Str) (st:Stmt):Prop where
 ex:∃C fI fd,mg c=some (.ref C)/\ClsOk K c C/\a2c K C fI=true/\FldK K C f/\Fun K "__init__" q st fI fd
end
end Dn
namespace Stt
open PySem
def Rise(t:cP):Prop:=t.place.toList.Pairwise (· < ·)
theorem Rise.lt{t:cP}(h:Rise t){i j:Nat}{x y:Nat}(hij:i < j)(hx:t.place[i]? = some x)(hy:t.place[j]? = some y):x < y:=by
 obtain⟨hi,rfl⟩:=lG.mp hx;obtain⟨hj,rfl⟩:=lG.mp hy;have:=List.pairwise_iff_getElem.mp h i j (by simpa using hi) (by simpa using hj) hij
 simpa using this
def Cut(xs:Array Nat)(j p:Nat):Prop:=p<=xs.size/\(∀i x,i < p->xs[i]? = some x->x < j)/\∀i x,p<=i->xs[i]? = some x->j<=x
theorem aiq{xs:Array Nat}(hs:xs.toList.Pairwise (· < ·))(j:Nat):∀(fuel lo hi:Nat),hi - lo<=fuel->lo<=hi->hi<=xs.size->(∀i x,i < lo->xs[i]? = some x->x < j)->(∀i x,hi<=i->xs[i]? = some x->j<=x) ->
  Cut xs j (uV xs j fuel lo hi)
 | 0,lo,hi,hf,hle,hsz,a,b=>by
  have:lo=hi:=by omega
  subst this;exact⟨hsz,a,b⟩
 | fuel+1,lo,hi,hf,hle,hsz,a,b=>by
  unfold uV;split
  ·rename_i hlt;dsimp only;have hm:(lo+hi) / 2 < xs.size:=by omega
   have hg:xs.getD ((lo+hi) / 2) j=xs[(lo+hi) / 2]:=by simp[vQ,hm]
   have hx:xs[(lo+hi) / 2]? = some (xs[(lo+hi) / 2]):=by simp[hm]
   rw[hg]
   by_cases hc:xs[(lo+hi) / 2] < j
   ·rw[if_pos hc];refine aiq hs j fuel ((lo+hi) / 2+1) hi (by omega) (by omega) hsz (fun i x hi' hx' =>?_) b
    rcases iR i ((lo+hi) / 2) with h | h
    ·exact lH (Rise.lt (t:={ mask:=0,place:=xs,dummies := #[],finger:=0,led:=true,moves:=0,plain:=true }) hs h hx' hx) hc
    ·have:i=(lo+hi) / 2:=by omega
     subst this;rw[hx] at hx';cases hx';exact hc
   ·rw[if_neg hc];refine aiq hs j fuel lo ((lo+hi) / 2) (by omega) (by omega) (by omega) a (fun i x hi' hx' =>?_)
    rcases iR ((lo+hi) / 2) i with h | h
    ·exact cF (Nat.not_lt.mp hc) (lJ (Rise.lt (t:={ mask:=0,place:=xs,dummies := #[],finger:=0,led:=true,moves:=0,plain:=true }) hs h hx hx'))
    ·have:i=(lo+hi) / 2:=by omega
     subst this;rw[hx] at hx';cases hx';omega
  ·have:lo=hi:=by omega
   subst this;exact⟨hsz,a,b⟩
theorem agu{xs:Array Nat}(hs:xs.toList.Pairwise (· < ·))(j:Nat):Cut xs j (eX xs j) :=
 aiq hs j xs.size 0 xs.size (by omega) (dI _) (aM _) (fun i x h _=>absurd h (nR _)) fun i x h hx=>by
  obtain⟨h',_⟩:=lG.mp hx;omega
theorem aot{t:cP}(h:Rise t):eX t.place 0=0:=by
 obtain⟨hp,a,b⟩:=agu h 0;rcases oZ (eX t.place 0) with h0 | h0
 ·exact h0
 ·have h1:0 < t.place.size:=by omega
  exact absurd (a 0 t.place[0] h0 (by simp[h1])) (nR _)
theorem aou{t:cP}(h:Rise t){i x:Nat}(hx:t.place[i]? = some x):eX t.place (x+1)=i+1:=by
 obtain⟨hp,a,b⟩:=agu h (x+1);rcases Nat.lt_trichotomy (eX t.place (x+1)) (i+1) with h1 | h1 | h1
 ·have:=b i x (by omega) hx
  omega
 ·exact h1
 ·have h2:i+1 < t.place.size:=by omega
  have h3:t.place[i+1]? = some t.place[i+1]:=by simp[h2]
  have:=a (i+1) _ h1 h3;have:=h.lt (gM i) hx h3;omega
theorem ak5{t:cP}(h:Rise t){j:Nat}(hj:t.place[eX t.place j]? ≠ some j):(SetTable.insertAt t.place (eX t.place j) j).toList.Pairwise (· < ·):=by
 obtain⟨hp,a,b⟩:=agu h j;rw[SetTable.toList_insertAt];generalize hq:eX t.place j=p at *;rw[List.pairwise_append];refine⟨List.Pairwise.sublist (vA _ _) h,?_,?_⟩
 ·rw[fL];refine⟨fun y hy =>?_,nZ (List.drop_sublist _ _) h⟩
  obtain⟨i,hi,rfl⟩:=fO.mp hy;rw[jG,bI] at hi;rw[vI,oJ];have h1:t.place[p+i]? = some t.place[p+i]:=by simp
  have h2:=b (p+i) _ (by omega) h1
  rcases Nat.eq_or_lt_of_le h2 with e | e
  ·exfalso;rcases oZ i with z | z
   ·subst z;exact hj (by rw[e];exact h1)
   ·have h3:t.place[p]? = some t.place[p]:=by simp
    have h4:=h.lt (show p < p+i by omega) h3 h1
    have h5:=b p _ (aM _) h3;omega
  ·exact e
 ·intro x hx y hy;have hxj:x < j:=by
   obtain⟨i,hi,rfl⟩:=fO.mp hx;rw[gB,bI] at hi;rw[List.getElem_take,oJ];exact a i _ (by omega) (by simp)
  rcases aY.mp hy with rfl | hy
  ·exact hxj
  ·obtain⟨i,hi,rfl⟩:=fO.mp hy;rw[jG,bI] at hi;rw[vI,oJ];have:=b (p+i) t.place[p+i] (by omega) (by simp)
   omega
def Away(t:cP)(j:Nat):Prop:=t.place[eX t.place j]? ≠ some j
theorem ai5{t:cP}{j:Nat}(h:∀i,t.slot j≠.live i):Away t j:=fun e=>h (eX t.place j) (by
 unfold SetTable.slot;dsimp only;rw[if_pos (by rw[e];exact beq_self_eq_true _)])
theorem aea{t:cP}{f:Nat->Int}{h:Int}:∀(fuel:Nat) (p:wJ) (j:Nat) (d:Option Nat),(∀x,p.dummy=some x->Away t x)->uU t f h fuel p=some (.empty j d)->Away t (d.getD j)
 | 0,p,j,d,_,e=>by cases e
 | fuel+1,p,j,d,hd,e=>by
  unfold uU at e;have adv:∀q:wJ,(t.advance q).dummy=q.dummy:=fun q=>by unfold SetTable.advance;split <;> rfl
  split at e
  ·rename_i hs;cases e;cases hq:p.dummy with
   | none=>exact ai5 fun i z=>by rw[qC,hs] at z;cases z
   | some x=>exact hd x hq
  ·rename_i hs;refine aea fuel _ j d (fun x hx =>?_) e
   rw[adv] at hx;cases hx;exact ai5 fun i z=>by rw[hs] at z;cases z
  ·split at e
   ·cases e
   ·exact aea fuel _ j d (fun x hx=>by rw[adv] at hx;exact hd x hx) e
theorem aq2{t:cP}{h:Int}{j:Nat}{b:Bool}(e:t.freeSlot h=some (j,b)):Away t j:=by
 unfold SetTable.freeSlot at e;split at e
 ·rename_i j' d hp;cases e;exact aea _ _ j' d (fun x hx=>by cases hx) hp
 ·cases e
theorem ant(n:Nat):(Array.range n).toList.Pairwise (· < ·):=by
 rw[Array.toList_range];exact jT
def Kept(b:Bool)(t:cP):Prop:=Rise t/\t.led=b
theorem Kept.standIn{b:Bool}{t:cP}(h:Kept b t)(n:Nat):Kept b (t.standIn n):=⟨ant n,h.2⟩
theorem alh{b:Bool}{t:cP}(h:Kept b t)(es:Array (Int×Value))(k:Int)(x:Value):Kept b (layNew t es k x).2.1:=by
 unfold layNew;split
 ·rename_i slot wd e;dsimp only;have h':Kept b (t.put slot).1:=⟨ak5 h.1 (aq2 e),h.2⟩;unfold SetTable.orStandIn;split
  ·exact h'
  ·exact h'.standIn _
 ·exact h.standIn _
theorem aqk{m f mv:Nat}{b p:Bool}{hs:Array Int}{t:cP}{o:Array Nat}(e:wQ m f mv b p hs=some (t,o)):Kept b t:=by
 unfold wQ at e;cases e1:SetTable.layClean m hs with
 | none=>rw[e1] at e;cases e
 | some ow =>
  rw[e1] at e;cases e;refine⟨?_,rfl⟩;show List.Pairwise _ _;dsimp only;have h0:((bG (m+1)).filterMap fun j=>(ow.getD j none).map (j,·)).map (·.1)=(bG (m+1)).filter fun j=>(ow.getD j none).isSome:=by
   generalize bG (m+1)=l
   induction l with
   | nil=>rfl
   | cons a r ih =>
    cases h:ow.getD a none with
    | none=>simp only[gJ,qF,h,Option.map_none,Option.isSome_none];simpa using ih
    | some z=>simp only[gJ,qF,h,nQ,Option.isSome_some,aU];simpa using ih
  rw[h0];exact nZ uK jT
theorem anq{b:Bool}{t:cP}(h:Kept b t)(es:Array (Int×Value))(n:Nat):Kept b (relayAll t es n).2.1:=by
 unfold relayAll;split
 ·rename_i t' o e;dsimp only;split
  ·have:=aqk e;rw[h.2] at this;exact this
  ·exact h.standIn _
 ·exact h.standIn _
theorem aor(b:Bool):Kept b (.fresh 0 0 b):=⟨List.Pairwise.nil,rfl⟩
open PySem.Spec PyProof.Rows
def keyE(e:Int×Value):Int:=match e.2 with
 | .int k _=>k
 | _=>0
def Ent(e:Int×Value):Prop:=∃k u,e=(oR k,lZ k u)
structure SetG (w:World) (es:Array (Int×Value)) (t:cP) (ns:List Int):Prop where
 ent:∀e∈es.toList,Ent e
 nd:(es.toList.map keyE).Nodup
 mem:∀k,k∈es.toList.map keyE↔k∈ns
 fit:t.fits es.size=true
 kept:Kept (!w.params.followText "set-order") t
noncomputable def setO(es:Array (Int×Value))(ep:Nat)(t:cP):Obj:={ cls:=.type "set", dict:=none,data:=.set es ep t }
theorem SetG.elems{prog:aZ}{w:World}{es:Array (Int×Value)}{t:cP}{ns:List Int}(g:SetG w es t ns):ElemsOf (oO prog w) es.toList:=fun e he=>by
 obtain⟨k,u,rfl⟩:=g.ent e he;exact⟨⟨k,intKind_is _ _ _ _,rfl⟩,rfl⟩
theorem SetG.empty(w:World):SetG w #[] (.fresh 0 0 (!w.params.followText "set-order")) []:=⟨fun e he=>by simp at he,pQ,fun k=>by simp,rfl,aor _⟩
theorem ard{e:Int×Value}(h:Ent e)(k:Int):uF k e.2=true↔keyE e=k:=by
 obtain⟨j,u,rfl⟩:=h;simp[uF,keyE]
theorem SetG.push{w:World}{es es':Array (Int×Value)}{t t':cP}{ns:List Int}{k:Int}{u:Tok}(g:SetG w es t ns)(hn:k∉es.toList.map keyE)(hp:es'.toList.Perm (es.push (oR k,.int k u)).toList)(hf:t'.fits es'.size=true)
  (hk:Kept (!w.params.followText "set-order") t'):SetG w es' t' (ns++[k]):=by
 rw[vP] at hp;have hm:=hp.map keyE;rw[cG] at hm;refine⟨fun e he =>?_,?_,fun j =>?_,hf,hk⟩
 ·rcases cO.mp (hp.mem_iff.mp he) with h | h
  ·exact g.ent e h
  ·rw[cV] at h;exact⟨k,u,h⟩
 ·rw[hm.nodup_iff,vG];refine⟨g.nd,by simp,fun a ha b hb e =>?_⟩
  simp only[aU,pW,cV] at hb;subst hb;subst e;exact hn ha
 ·rw[hm.mem_iff,cO,cO,g.mem j];rfl
theorem SetG.perm{w:World}{es es':Array (Int×Value)}{t t':cP}{ns:List Int}(g:SetG w es t ns)(hp:es'.toList.Perm es.toList)(hf:t'.fits es'.size=true)(hk:Kept (!w.params.followText "set-order") t'):SetG w es' t' ns :=
 ⟨fun e he=>g.ent e (hp.mem_iff.mp he),(hp.map keyE).nodup_iff.mpr g.nd,fun k=>by rw[(hp.map keyE).mem_iff,g.mem k],hf,hk⟩
section
variable{prog:aZ}{w:World}{A:cI}{E:Value->aJ->Prop}{s:aJ}
theorem al9{h:Heap}{a:Addr}{es es':Array (Int×Value)}{ep:Nat}{t t':cP}(ho:h.get? a=some (setO es ep t)):(h.update a (uZ es' t')).get? a=some (setO es' (ep+1) t'):=by
 have:=bZ (uZ es' t') ho (by rw[putSet_of es' t' (o:=setO es ep t) rfl];rfl)
 rw[putSet_of es' t' (o:=setO es ep t) rfl] at this;exact this
theorem av5{a:Addr}{es es1:Array (Int×Value)}{ep:Nat}{t t2:cP}{ns:List Int}(g:Bool->Sem Unit)(hg:∀(b:Bool) (s₁:aJ) (Q':Unit->aJ->Prop),Q' () s₁->wpAny (model prog w) A (g b) Q' E s₁)
  (ho:s.heap.get? a=some (setO es ep t)) (G:SetG w es1 t2 ns) (hb:es1.size < lX) {wasDummy:Bool} {R:Option Bool->aJ->Prop}
  (h:∀h' es' ep' t',cH a s.heap h'->h'.get? a=some (setO es' ep' t')->SetG w es' t' ns->es'.size=es1.size->R (some true) { s with heap:=h' }) :
  wpAny (model prog w) A (do
    storeSet a es1 t2
    if (!wasDummy&&t2.tooFull)=true then do
      g (relayAll t2 es1 (lQ es1.size)).2.2
      storeSet a (relayAll t2 es1 (lQ es1.size)).1 (relayAll t2 es1 (lQ es1.size)).2.1
      pure (some true)
     else pure (some true)) R E s:=by
 refine aA (wpAny_storeSet_of ho rfl ?_ (fits_of_scanBound hb));have h1:=al9 (es':=es1) (t':=t2) ho;have b1:=cB s.heap a (uZ es1 t2);split
 ·have hp:=relayAll_perm t2 es1 (lQ es1.size);have hsz:(relayAll t2 es1 (lQ es1.size)).1.size=es1.size:=by rw[<-bI,hp.length_eq,bI]
  refine aA (hg _ _ _ ?_);refine aA (wpAny_storeSet_of h1 rfl ?_ (fits_of_scanBound (by rw[hsz];exact hb)))
  exact aH (h _ _ _ _ (b1.trans (cB _ a _)) (al9 h1) (G.perm hp (relayAll_fits _ _ _) (anq G.kept _ _)) hsz)
 ·exact aH (h _ _ _ _ b1 h1 G rfl)
theorem a2t{a:Addr}{es:Array (Int×Value)}{ep:Nat}{t:cP}{ns:List Int}{k:Int}{u:Tok}{Q:Bool->aJ->Prop}(ho:s.heap.get? a=some (setO es ep t))(G:SetG w es t ns)(hb:es.size+1 < lX)
  (h:∀h' es' ep' t' b,cH a s.heap h'->h'.get? a=some (setO es' ep' t')->SetG w es' t' (ns++[k])->es'.size<=es.size+1->Q b { s with heap:=h' }) :
  wpAny (model prog w) A (setAddHashed a (.int k u) (oR k)) Q E s:=by
 have hel:ElemsOf (oO prog w) es.toList:=G.elems;have hkey:(oO prog w).is k (.int k u)=true:=intKind_is _ _ _ _;unfold setAddHashed setAddHashedIn;refine fH (aA (wpAny_setState_of ho rfl G.fit ?_));dsimp only;rw[byScan_of (knd:=oO prog w) rfl (by omega) hel]
 simp only[↓reduceIte];unfold setAddByScan;refine aA ?_;refine aA (iH ?_);refine aA (wpAny_setScan_of (knd:=oO prog w) hkey ho rfl G.fit hel ?_);cases hr:pC (fun e=>(oO prog w).is k e.2) es.toList with
 | some j =>
  dsimp only;obtain⟨hj,hpj,_⟩:=pB.mp hr;have hin:k∈es.toList.map keyE:=cW.mpr ⟨_,bT hj,(ard (G.ent _ (bT hj)) k).mp hpj⟩;refine aH (aH ?_);refine h s.heap es ep t _ (vL a s.heap) ho ⟨G.ent,G.nd,fun j' =>?_,G.fit,G.kept⟩ (by omega)
  rw[cO,cV,G.mem j'];exact⟨.inl,fun z=>z.elim id fun z=>z▸(G.mem k).mp hin⟩
 | none =>
  dsimp only;have hout:k∉es.toList.map keyE:=fun z=>by
   obtain⟨e,he,hk⟩:=cW.mp z;have h1:=rR.mp hr e he;have h2:(oO prog w).is k e.2=true:=(ard (G.ent e he) k).mpr hk;rw[h2] at h1;cases h1
  have hgw:∀(b:Bool) {s₁:aJ} {Q':Unit->aJ->Prop},Q' () s₁->wpAny (model prog w) A (match b with | true=>rule "set.scan.the-table-gave-way" | false=>pure ()) Q' E s₁ :=
   fun b s₁ Q' hq=>by cases b <;> first | exact aH hq | exact iH hq
  have hperm:=layNew_perm t es (oR k) (.int k u);have hfits:=layNew_fits t es (oR k) (.int k u);have hkept:=alh G.kept es (oR k) (.int k u);show wpAny (model prog w) A _ _ _ _
  change wpAny (model prog w) A (match layNew t es (oR k) (.int k u) with | (es,t,wasDummy,gave)=>_) _ _ _
  generalize hL:layNew t es (oR k) (.int k u)=L at hperm hfits hkept ⊢
  obtain⟨es1,t1,wasDummy,gave⟩:=L;dsimp only at hperm hfits hkept ⊢
  have G1:=G.push hout hperm hfits hkept;have hsz1:es1.size=es.size+1:=by rw[<-bI,hperm.length_eq,bI,Array.size_push]
  refine aA (hgw _ ?_);split
  ·refine aA ?_;rw[hashByValue_scannable 8 rfl];refine aH ?_;refine av5 _ ?_ ho (ns:=ns++[k]) ?_ (by omega) ?_
   ·intro b s₁ Q' hq;cases b <;> first | exact aH hq | exact iH hq
   ·exact G1
   ·intro h' es' ep' t' hsb ho' G' hz;exact aH (h h' es' ep' t' _ hsb ho' G' (by omega))
  ·refine aA (aH ?_);simp only[↓reduceIte];refine av5 _ ?_ ho (ns:=ns++[k]) G1 (by omega) ?_
   ·intro b s₁ Q' hq;cases b <;> first | exact aH hq | exact iH hq
   ·intro h' es' ep' t' hsb ho' G' hz;exact aH (h h' es' ep' t' _ hsb ho' G' (by omega))
end
section
variable{prog:aZ}{w:World}{A:cI}{R:Result->aJ->Prop}{I:Addr}{fp wr:List Addr}{G:Array GenState->Array GenState->Prop}{n:Nat}{P:Nat->Value->Prop}{St:Nat->aJ->Prop}
theorem awa(W:WalksS prog w A.in1 I fp wr G n P St)(S:Addr)(hSf:S∉fp)(val:Nat->Int)(hval:∀i v,P i v->∃t,v=.int (val i) t)(hb:n+1 < lX) :
  ∀(k i:Nat) (s:aJ) (es:Array (Int×Value)) (ep:Nat) (t:cP),n - i=k->i<=n->St i s->s.heap.get? S=some (setO es ep t)->SetG w es t ((bG i).map val)->es.size<=i ->
   (∀s' es' ep' t',Moved (S::wr) G s s'->s'.heap.get? S=some (setO es' ep' t')->SetG w es' t' ((bG n).map val)->es'.size<=n->R (.ok (.ret .none)) s') ->
   mK (model prog w) A (.builtin "set.update.loop" ⟨[.ref S,.ref I],[]⟩) R s:=by
 have hSw:S∉wr:=fun h=>hSf (W.sub _ h)
 have hsub:∀b∈wr,b∈S::wr:=fun b hb=>aL _ hb
 intro k
 induction k with
 | zero =>
  intro i s es ep t hk hi hst ho g hz hR;have hin:i=n:=by omega
  subst hin;refine codeAny_builtin sZ ?_;rw[jD mW _];show wpAny _ A.in1 (lY (.ref I) >>= _) _ _ s;refine aA (W.done s _ _ hst fun s' hm =>?_)
  show wpAny _ A.in1 (ret gA) _ _ s';exact aH (hR s' es ep t (hm.mono hsub) (hm.heap S _ hSw ho) g hz)
 | succ k ih =>
  intro i s es ep t hk hi hst ho g hz hR;have hlt:i < n:=by omega
  refine codeAny_builtin sZ ?_;rw[jD mW _];show wpAny _ A.in1 (lY (.ref I) >>= _) _ _ s;refine aA (W.item i s _ _ hlt hst fun v s' hP hst' hm =>?_)
  obtain⟨u,rfl⟩:=hval i v hP;have ho':s'.heap.get? S=some (setO es ep t):=hm.heap S _ hSw ho;show wpAny _ A.in1 (jC [lZ (val i) u] (setAdd S (.int (val i) u)) >>= _) _ _ s';refine aA (fH ?_);unfold setAdd;refine fH ?_;refine aA ((oO prog w).pyHash (k:=val i) (intKind_is _ _ _ _) ?_);refine a2t (s:={ s' with toks:=s'.toks+1 }) (u:=u) (k:=val i) ho' g (by omega) fun h' es' ep' t' b hsb ho2 g2 hz2 =>?_
  have g3:SetG w es' t' ((bG (i+1)).map val):=by
   rw[eY,cG];exact g2
  refine aH ⟨plainId_quiet mW _,ih (i+1) _ es' ep' t' (by omega) hlt (W.frame _ s' _ _ hst' (jW _) fun b hb o e =>?_) ho2 g3 (by omega) fun s'' es'' ep'' t'' hm'' ho'' g'' hz'' =>?_⟩
  ·rw[hsb.2 b (fun h:b=S=>hSf (by rw[<-h];exact hb))];exact e
  ·refine hR s'' es'' ep'' t'' (Moved.trans W.gtrans ((hm.mono hsub).then_heap (jW _) fun b o hb e =>?_) hm'') ho'' g'' hz''
   rw[hsb.2 b (fun h:b=S=>hb (by rw[h];exact aR))];exact e
end
theorem sub_tuple_set:isSubtype (.type "tuple") (.type "set")=pure false:=by rw[isSubtype_type];kernel_rfl
theorem sub_tuple_frozenset:isSubtype (.type "tuple") (.type "frozenset")=pure false:=by rw[isSubtype_type];kernel_rfl
section
variable{prog:aZ}{w:World}{A:cI}{E:Value->aJ->Prop}{s:aJ}
abbrev fresh0(w:World):Obj:=setO #[] 0 (.fresh 0 0 (!w.params.followText "set-order"))
theorem axn(a:Value){Q₁:Value->aJ->Prop}(h:Q₁ (.ref s.heap.objs.size) { s with heap:=s.heap.push (fresh0 w) }) :
  mK (model prog w) A (.call (.builtin "set.__new__") ⟨[.type "set", a],[]⟩) (wants Q₁ E) s:=by
 refine codeAny_of_tree ?_;show wpAny _ A.in1 (do checkBuiltinCall "set.__new__" ⟨[.type "set", a],[]⟩;again (.builtin "set.__new__" ⟨[.type "set", a],[]⟩)) _ _ s
 refine aA (wpAny_of_eq (F.newCall_set_1 a) (aH ⟨plainId_quiet wG _,codeAny_builtin F.entry_set_new ?_⟩));rw[jD wG _];unfold iJ.«set.__new__» Builtin.Frozenset.newClass;have hsub:=sub_set_self;obtain⟨hp,g,d,tk,os⟩:=s;dsimp only;wp_walk;refine wpAny_askSetting (aH ?_);dsimp only;simp only[newObj];refine aA (wpAny_alloc (aH ?_));exact aH h
set_option maxRecDepth 100000 in
set_option maxHeartbeats 3200000 in
theorem azx{l:Addr}{items:Array Value}{ns:List Int}{Q:Value->aJ->Prop}(hh:A.handled=none)(hl:s.heap.IsTuple l items)(hi:mV items.toList ns)(hb:items.size+1 < lX)
  (h:∀(h':Heap) (tk:Nat) es ep t,h'.get? s.heap.objs.size=some (setO es ep t)->SetG w es t ns->es.size<=items.size->(∀b o,s.heap.get? b=some o->h'.get? b=some o)->Q (.ref s.heap.objs.size) { s with heap:=h',toks:=tk }) :
  wpAny (model prog w) A (call (.type "set") [.ref l]) Q E s:=by
 obtain⟨c,tl,hmro⟩:=jN.mro;have hmade:=jN.made;have hsub:=jN.sub;refine wpAny_call (codeAny_of_tree ?_);show wpAny _ _ (callAny (.type "set") _) _ _ _;refine aH ⟨Code.quiet_builtin _ (by decide +kernel),codeAny_builtin F.entry_type_call ?_⟩
 rw[Around.under_plain (weight_type_call_type "set" [.ref l] []) rfl];have h1:=jN.notType;have h2:=jN.canCreate;have hct:=F.typeCall_set_1 (.ref l)
 repeat (any_goals (first | assumption | wp_step))
 refine codeAny_mono (axn (.ref l) (E:=E) (Q₁:=fun obj s₁=>obj=.ref s.heap.objs.size/\s₁={ s with heap:=s.heap.push (fresh0 w) }) ⟨rfl,rfl⟩) fun r s₁ hr =>?_
 cases r with
 | error e=>exact hr
 | ok fl =>
  cases fl with
  | ret obj =>
   obtain⟨rfl,rfl⟩:=hr;have hS:(s.heap.push (fresh0 w)).get? s.heap.objs.size=some (fresh0 w):=aK _ rfl;have hT:Shared.TypeIs { s with heap:=s.heap.push (fresh0 w) } (.ref s.heap.objs.size) "set" := ⟨_,hS,rfl⟩
   have hli:=jN.init.lookup;have hbi:=jN.init.bind (.ref s.heap.objs.size)
   repeat (any_goals (first | assumption | wp_step))
   refine codeAny_mono (codeAny_call_builtin (R:=wants (fun r s₂=>r=.none/\∃h' tk es ep t,s₂={ s with heap:=h',toks:=tk }/\h'.get? s.heap.objs.size=some (setO es ep t)/\SetG w es t ns/\es.size<=items.size /\
     (∀b o,s.heap.get? b=some o->h'.get? b=some o)) E) jN.init.plain F.entry_set_init (check_set_init_1 hT ?_)) fun r₂ s₂ hr₂ =>?_
   ·obtain⟨ol,hol,hcl,nl,hdl⟩:=hl;obtain⟨ocls,odict,odata,oslots⟩:=ol;simp only at hcl hdl;subst hcl;subst hdl;have hol':(s.heap.push (fresh0 w)).get? l=some { cls:=.type "tuple", dict:=odict,data:=.seq items nl,slots:=oslots }:=aB _ hol;have hsls:=sub_tuple_set;have hslf:=sub_tuple_frozenset;have hne:(iV "tuple" == iV "dict")=false:=by decide
    have hl1:(s.heap.push (fresh0 w)).IsTuple l items:=⟨_,hol',rfl,nl,rfl⟩;unfold iJ.«set.__init__» noKeywords Builtin.Frozenset.updateFrom;generalize hPI:pyIter=PI;wp_walk;subst hPI;refine wpAny_pyIter_tuple hl1 ?_;refine aA (wpAny_runValue ?_);have hlS:l < s.heap.objs.size:=aQ hol;have hh3:A.in1.in1.in1.handled=none:=by simp[hh]
    have hneI:l≠(s.heap.push (fresh0 w)).objs.size:=by
     rw[bJ];exact bD (mH hlS)
    have hSf:s.heap.objs.size∉[(s.heap.push (fresh0 w)).objs.size,l]:=by
     rw[bJ];simp only[aY,cV,cQ,or_false,not_or];exact⟨Nat.ne_of_lt (gM _),gP hlS⟩
    have hval:∀(i:Nat) (v:Value),items[i]? = some v->∃t,v=.int ((fun i=>ns.getD i 0) i) t:=fun i v hv =>
     PyProof.Rows.IntsAre.int_at hi i v (by rw[oE];exact hv)
    have hlen:items.size=ns.length:=by rw[<-bI];exact hi.length
    have hns:(bG items.size).map (fun i=>ns.getD i 0)=ns:=by
     rw[hlen];apply qG
     ·simp
     ·intro i h1 h2;simp[aG,h2]
    refine awa ((qO hh3 _ l hneI items).toS) s.heap.objs.size hSf (fun i=>ns.getD i 0) hval hb (items.size - 0) 0 _ #[] 0 _ (by omega) (dI _)
     ⟨⟨_,aK _ rfl,rfl,rfl⟩,(hl1.push _)⟩ (aB _ hS) (SetG.empty w) (dI _) ?hR
    case hR =>
     intro s' es ep t hm ho' g' hz';rw[hns] at g';obtain⟨h',g₀,d',tk',os'⟩:=s';have eg:g₀=s.gens:=hm.gens;have ed:d'=s.drawn:=hm.drawn;have eo:os'=s.os:=hm.os;subst eg;subst ed;subst eo;show wpAny _ _ _ _ _ _;refine aH ?_;show wpAny _ _ (ret gA) _ _ _;refine aH ⟨rfl,h',tk',es,ep,t,rfl,ho',g',hz',fun b o e =>?_⟩
     have hlt:=aQ e;have hb1:b≠s.heap.objs.size:=bD hlt;have hb2:b≠(s.heap.push (fresh0 w)).objs.size:=by
      rw[bJ];exact bD (mH hlt)
     exact hm.heap b o (by simp only[aY,cV,cQ,or_false,not_or];exact⟨hb1,hb2⟩) (aB _ (aB _ e))
   ·cases r₂ with
    | error e=>exact hr₂
    | ok fl₂ =>
     cases fl₂ with
     | ret r =>
      obtain⟨rfl,h',tk,es,ep,t,rfl,hS',g',hz',hk'⟩:=hr₂
      repeat (any_goals (first | assumption | wp_step))
      exact h _ _ _ _ _ hS' g' hz' hk'
     | _=>exact hr₂.elim
  | _=>exact hr.elim
end
theorem ag3:entryFor table "set.__iter__" = some iJ.«frozenset.__iter__» :=
 entryFor_alias (id' := "frozenset.__iter__") (by kernel_rfl) rfl (by decide +kernel) (by kernel_rfl)
theorem jh:Slot "set_iterator" "__next__" "set_iterator.__next__" :=
 .of (owner := "set_iterator") (n := "__next__") (by rw[typeLookup_type,builtinLookup_eq_fast];kernel_rfl) (by decide +kernel) (by decide +kernel) (by decide +kernel)
  (by first | exact .inl (by decide +kernel) | exact .inr (by decide +kernel)) (by rw[isSubtype_type];kernel_rfl)
theorem v8:entryFor table "set_iterator.__next__" = some iJ.«set_iterator.__next__» := entryFor_of_tree (by kernel_rfl)
theorem aer:Slot "set_iterator" "__iter__" "set_iterator.__iter__" :=
 .of (owner := "set_iterator") (n := "__iter__") (by rw[typeLookup_type,builtinLookup_eq_fast];kernel_rfl) (by decide +kernel) (by decide +kernel) (by decide +kernel)
  (by first | exact .inl (by decide +kernel) | exact .inr (by decide +kernel)) (by rw[isSubtype_type];kernel_rfl)
theorem ail:entryFor table "set_iterator.__iter__" = some iJ.«dict_keyiterator.__iter__» :=
 entryFor_alias (id' := "dict_keyiterator.__iter__") (by kernel_rfl) rfl (by decide +kernel) (by kernel_rfl)
theorem ame:Manifest.owners.lookup (String.ofList ['r','o','t','a','r','e','t','i','_','t','e','s'].reverse)=some Manifest.sig_set_iterator:=by kernel_rfl
theorem yx(a:Value):rY "set_iterator.__next__" ⟨[a],[]⟩:=by
 unfold rY;rw[signature?_of (id := "set_iterator.__next__") (n:=['_','_','t','x','e','n','_','_']) (o:=['r','o','t','a','r','e','t','i','_','t','e','s']) (by kernel_rfl) ame];kernel_rfl
theorem akq(a:Value):rY "set_iterator.__iter__" ⟨[a],[]⟩:=by
 unfold rY;rw[signature?_of (id := "set_iterator.__iter__") (n:=['_','_','r','e','t','i','_','_']) (o:=['r','o','t','a','r','e','t','i','_','t','e','s']) (by kernel_rfl) ame];kernel_rfl
def IsSI(h:Heap)(I S:Addr)(first:Value)(i n ep:Nat):Prop:=∃o,h.get? I=some o/\o.cls=.type "set_iterator" /\ o.data=.fields #[first,.int i 0,.ref S,.int n 0,.int ep 0]
theorem IsSI.typeIs{s:aJ}{I S:Addr}{first:Value}{i n ep:Nat}(x:IsSI s.heap I S first i n ep):s.TypeIs (.ref I) "set_iterator" := let ⟨o,ho,hc,_⟩:=x;⟨o,ho,hc⟩
theorem IsSI.at{h h':Heap}{I S:Addr}{first:Value}{i n ep:Nat}(x:IsSI h I S first i n ep)(e:∀o,h.get? I=some o->h'.get? I=some o):IsSI h' I S first i n ep:=let ⟨o,ho,r⟩:=x;⟨o,e _ ho,r⟩
section
variable{prog:aZ}{w:World}{A:cI}{E:Value->aJ->Prop}{s:aJ}
theorem ak2{I S:Addr}{first:Value}{i n ep:Nat}{Q:Value->aJ->Prop}(hit:IsSI s.heap I S first i n ep)(h:Q (.ref I) s):wpAny (model prog w) A (pyIter (.ref I)) Q E s:=by
 refine wpAny_pyIter_slot hit.typeIs aer (eF aer hit.typeIs ail ?_ (akq _));show wpAny _ _ (ret (.ref I)) _ _ s;exact aH ⟨_,rfl, "set_iterator", _,hit.typeIs,jh.lookup,h⟩
theorem apm{I S:Addr}{slot i:Nat}{es:Array (Int×Value)}{ep:Nat}{t:cP}{Q:Option Value->aJ->Prop}{x:Value}{slot':Nat}(hit:IsSI s.heap I S (.int slot 0) i es.size ep)(ho:s.heap.get? S=some (setO es ep t))(hf:t.fits es.size=true)
  (hn:∀(A':cI) (Q':Option (Value×Nat)->aJ->Prop) (E':Value->aJ->Prop),Q' (some (x,slot')) s->wpAny (model prog w) A' (pI S slot i ep) Q' E' s)
  (hQ:∀h',IsSI h' I S (.int slot' 0) (i+1) es.size ep->cH I s.heap h'->Q (some x) { s with heap:=h' }) :
  wpAny (model prog w) A (lY (.ref I)) Q E s:=by
 obtain⟨o,hI,hc,hd⟩:=id hit;unfold lY;refine aA (wpAny_attempt (dH (name:=iM "__next__") hit.typeIs jh
  (eF jh hit.typeIs v8 ?_ (yx _))))
 refine aA (aH ?_);refine aA (wpAny_fieldsOf hI hd ?_);dsimp only;refine aA (wpAny_setEntries_of ho rfl hf ?_);rw[if_neg (by simp)]
 simp only[aX];refine aA (hn _ _ _ ?_);dsimp only;refine aA (iG hI hd (by simp) ?_)
 have h1:=bZ (wW (·.setIfInBounds 0 (lC (slot':Int)))) hI (iQ (dF hd _));refine aA (iG h1 (dF hd _) (by simp) ?_)
 refine aH ⟨_,rfl,aH (hQ _ ?_ ((cB ..).trans (cB ..)))⟩;exact⟨_,bZ _ h1 (iQ (dF (dF hd _) _)),(mG ..).trans ((mG ..).trans hc),by
  rw[dF (dF hd _)];simp[lC]⟩
theorem au9{I S:Addr}{slot i:Nat}{es:Array (Int×Value)}{ep:Nat}{t:cP}{Q:Option Value->aJ->Prop}(hh:A.handled=none)(hit:IsSI s.heap I S (.int slot 0) i es.size ep)(ho:s.heap.get? S=some (setO es ep t))(hf:t.fits es.size=true)
  (hn:∀(A':cI) (Q':Option (Value×Nat)->aJ->Prop) (E':Value->aJ->Prop),Q' none s->wpAny (model prog w) A' (pI S slot i ep) Q' E' s)
  (hQ:∀h',uL I s.heap h'->Q none { s with heap:=h' }):wpAny (model prog w) A (lY (.ref I)) Q E s:=by
 obtain⟨o,hI,hc,hd⟩:=id hit;unfold lY;refine aA (wpAny_attempt (dH (name:=iM "__next__") hit.typeIs jh
  (eF jh hit.typeIs v8 ?_ (yx _))))
 refine aA (aH ?_);refine aA (wpAny_fieldsOf hI hd ?_);dsimp only;refine aA (wpAny_setEntries_of ho rfl hf ?_);rw[if_neg (by simp)]
 simp only[aX];refine aA (hn _ _ _ ?_);dsimp only;refine aA (iG hI hd (by simp) ?_)
 show wpAny _ _ (newExc (.type "StopIteration") [] >>= _) _ _ _;refine aA ?_;simp only[newExc,newTuple];refine aA (bU ?_ (by size_fits))
 refine aA (m:=firstArgMember _ _) (wpAny_of_eq (a:=gA) (by first | rfl | (simp only[firstArgMember];rfl)) ?_)
 refine bU ?_ (by size_fits)
 simp only[raiseNew];refine aA (wpAny_handled ?_);rw[show A.in1.handled=none from hh]
 refine aA (aH (wpAny_throw ?_));refine aA (wpAny_isInstance (T := "StopIteration") (b:=true) ⟨_,aK _ rfl,rfl⟩ isSubtype_stop ?_);exact aH (hQ _ (((cB ..).extBut.push _).push _))
theorem as9{I S q:Addr}{i j m:Nat}{es:Array (Int×Value)}{ep:Nat}{t:cP}{Q:Option Value->aJ->Prop}{x:Int×Value}{ps:Array Value}(hit:IsSI s.heap I S (.ref q) i es.size ep)(ho:s.heap.get? S=some (setO es ep t))(hf:t.fits es.size=true)
  (hq:∃oq,s.heap.get? q=some oq/\oq.data=.seq ps m) (hp:ps[i]? = some (.int (j:Nat) 0)) (hx:es[j]? = some x)
  (hQ:∀h',IsSI h' I S (.ref q) (i+1) es.size ep->cH I s.heap h'->Q (some x.2) { s with heap:=h' }) :
  wpAny (model prog w) A (lY (.ref I)) Q E s:=by
 obtain⟨o,hI,hc,hd⟩:=id hit;obtain⟨oq,hoq,hdq⟩:=hq;unfold lY;refine aA (wpAny_attempt (dH (name:=iM "__next__") hit.typeIs jh
  (eF jh hit.typeIs v8 ?_ (yx _))))
 refine aA (aH ?_);refine aA (wpAny_fieldsOf hI hd ?_);dsimp only;refine aA (wpAny_setEntries_of ho rfl hf ?_);rw[if_neg (by simp)]
 refine aA (dO hoq hdq ?_);dsimp only;simp only[aX,hp];unfold setNextDrawn;refine aA (aA (wpAny_setState_of ho rfl hf ?_));dsimp only;rw[if_neg (by simp)]
 rw[hx];refine aH ?_;refine aA (iG hI hd (by simp) ?_)
 refine aH ⟨_,rfl,aH (hQ _ ?_ (cB ..))⟩;exact⟨_,bZ _ hI (iQ (dF hd _)),(mG ..).trans hc,by
  rw[dF hd];simp[lC]⟩
theorem ai7{I S q:Addr}{i m:Nat}{es:Array (Int×Value)}{ep:Nat}{t:cP}{Q:Option Value->aJ->Prop}{ps:Array Value}(hh:A.handled=none)(hit:IsSI s.heap I S (.ref q) i es.size ep)(ho:s.heap.get? S=some (setO es ep t))(hf:t.fits es.size=true)
  (hq:∃oq,s.heap.get? q=some oq/\oq.data=.seq ps m) (hp:ps[i]? = none)
  (hQ:∀h',uL I s.heap h'->Q none { s with heap:=h' }):wpAny (model prog w) A (lY (.ref I)) Q E s:=by
 obtain⟨o,hI,hc,hd⟩:=id hit;obtain⟨oq,hoq,hdq⟩:=hq;unfold lY;refine aA (wpAny_attempt (dH (name:=iM "__next__") hit.typeIs jh
  (eF jh hit.typeIs v8 ?_ (yx _))))
 refine aA (aH ?_);refine aA (wpAny_fieldsOf hI hd ?_);dsimp only;refine aA (wpAny_setEntries_of ho rfl hf ?_);rw[if_neg (by simp)]
 refine aA (dO hoq hdq ?_);dsimp only;simp only[aX,hp];refine aA (iG hI hd (by simp) ?_)
 have h1:=bZ (wW (·.setIfInBounds 0 (lC 0))) hI (iQ (dF hd _));refine aA (iG h1 (dF hd _) (by simp) ?_)
 show wpAny _ _ (newExc (.type "StopIteration") [] >>= _) _ _ _;refine aA ?_;simp only[newExc,newTuple];refine aA (bU ?_ (by size_fits))
 refine aA (m:=firstArgMember _ _) (wpAny_of_eq (a:=gA) (by first | rfl | (simp only[firstArgMember];rfl)) ?_)
 refine bU ?_ (by size_fits)
 simp only[raiseNew];refine aA (wpAny_handled ?_);rw[show A.in1.handled=none from hh]
 refine aA (aH (wpAny_throw ?_));refine aA (wpAny_isInstance (T := "StopIteration") (b:=true) ⟨_,aK _ rfl,rfl⟩ isSubtype_stop ?_);exact aH (hQ _ ((((cB ..).trans (cB ..)).extBut.push _).push _))
end
section
variable{prog:aZ}{w:World}{A:cI}{E:Value->aJ->Prop}{s:aJ}
theorem agt{Q:Bool->aJ->Prop}(h:Q (w.params.followText "set-order") s):wpAny (model prog w) A setsByText Q E s:=by
 unfold setsByText;exact aA (wpAny_askSetting (aH h))
theorem aoe{S:Addr}{slot g i j:Nat}{es:Array (Int×Value)}{ep:Nat}{t:cP}{e:Int×Value}{Q:Option (Value×Nat)->aJ->Prop}(ho:s.heap.get? S=some (setO es ep t))(hf:t.fits es.size=true)
  (hw:w.params.followText "set-order" = false) (hd:(!t.plain&&decide (es.size > 1))=false) (hl:t.led=true) (hb:eX t.place slot=i) (he:es[i]? = some e) (hp:t.place[i]? = some j)
  (h:Q (some (e.2,j+1)) s):wpAny (model prog w) A (pI S slot g ep) Q E s:=by
 unfold pI;refine aA (wpAny_setState_of ho rfl hf ?_);dsimp only;refine aA (agt ?_);rw[hw,if_neg (by simp)]
 show wpAny _ _ (if (!t.plain&&decide (es.size > 1))=true then _ else _) _ _ _
 rw[hd,if_neg (by simp)]
 refine aA (m:=if (!t.led && !es.isEmpty)=true then _ else _) ?_
 rw[hl,if_neg (by simp)]
 refine aH ?_;rw[hb,he,hp];exact aH h
theorem aqa{S:Addr}{slot g i:Nat}{es:Array (Int×Value)}{ep:Nat}{t:cP}{Q:Option (Value×Nat)->aJ->Prop}(ho:s.heap.get? S=some (setO es ep t))(hf:t.fits es.size=true)
  (hw:w.params.followText "set-order" = false) (hd:(!t.plain&&decide (es.size > 1))=false) (hl:t.led=true) (hb:eX t.place slot=i) (he:es[i]? = none)
  (h:Q none s):wpAny (model prog w) A (pI S slot g ep) Q E s:=by
 unfold pI;refine aA (wpAny_setState_of ho rfl hf ?_);dsimp only;refine aA (agt ?_);rw[hw,if_neg (by simp)]
 show wpAny _ _ (if (!t.plain&&decide (es.size > 1))=true then _ else _) _ _ _
 rw[hd,if_neg (by simp)]
 refine aA (m:=if (!t.led && !es.isEmpty)=true then _ else _) ?_
 rw[hl,if_neg (by simp)]
 refine aH ?_;rw[hb,he];exact aH h
theorem ajr{S:Addr}{slot g:Nat}{es:Array (Int×Value)}{ep:Nat}{t:cP}{Q:Option (Value×Nat)->aJ->Prop}(ho:s.heap.get? S=some (setO es ep t))(hf:t.fits es.size=true)
  (hw:w.params.followText "set-order" = true) (h:Q (((jO (w.params.setOrder S ep) es)[g]?).map fun e=>(e.2,slot)) s):wpAny (model prog w) A (pI S slot g ep) Q E s:=by
 unfold pI;refine aA (wpAny_setState_of ho rfl hf ?_);dsimp only;refine aA (agt ?_);rw[hw,if_pos rfl,if_neg (by simp)]
 unfold setWalk;refine aA (aA (wpAny_setState_of ho rfl hf ?_));dsimp only;refine aA (agt ?_);rw[hw,if_pos rfl];exact aA (wpAny_askSetting (aH (aH h)))
theorem aem{α:Type}:∀(l:List α) (i:Nat) (x:α),l[i]? = some x->(x::l.eraseIdx i).Perm l
 | [],i,x,h=>by simp at h
 | a::r,0,x,h=>by simp at h;subst h;exact .refl _
 | a::r,i+1,x,h=>by
  rw[gD] at h;exact(List.Perm.swap a x _).trans ((aem r i x h).cons a)
theorem apy{α:Type}(next:Nat->Nat):∀(fuel k:Nat) (left:List α) (out:Array α),left.length=fuel->(jO.go next fuel k left out).toList.Perm (out.toList++left)
 | 0,k,left,out,h=>by
  have:left=[]:=sY.mp h;subst this;show out.toList.Perm _;simp
 | fuel+1,k,left,out,h=>by
  have hlt:next k % left.length < left.length:=Nat.mod_lt _ (by omega)
  unfold jO.go;have hx:left[next k % left.length]? = some left[next k % left.length]:=aC hlt;rw[hx];dsimp only;have hlen:(left.eraseIdx (next k % left.length)).length=fuel:=by rw[rE hlt];omega
  refine(apy next fuel (k+1) _ _ hlen).trans ?_;rw[vP,fX];exact List.Perm.append_left _ (aem _ _ _ hx)
theorem aft{α:Type}(next:Nat->Nat)(xs:Array α):(jO next xs).toList.Perm xs.toList:=by
 have:=apy next xs.size 0 xs.toList #[] (by simp)
 simpa[jO] using this
theorem ahl:∀(n:Nat) {α:Type} (xs:List α) (s:aJ) (Q:List α->aJ->Prop),xs.length=n->(∀ys d,ys.Perm xs->Q ys { s with drawn:=d })->wpAny (model prog w) A (drawOrder n xs) Q E s
 | 0,α,xs,s,Q,h,q=>by
  have:xs=[]:=sY.mp h;subst this;exact aH (q [] s.drawn (.refl _))
 | n+1,α,[],s,Q,h,q=>by cases h
 | n+1,α,x::r,s,Q,h,q=>by
  unfold drawOrder;intro Γ p hΓ;show(x::r).length≠0/\_;refine⟨by simp,?_⟩
  revert Γ p hΓ
  show wpAny _ _ (match (x::r)[(model prog w).w.draws .order (s.drawn.get .order) % (x::r).length]? with | some y=>_ | none=>_) _ _ _
  have hlt:(model prog w).w.draws .order (s.drawn.get .order) % (x::r).length < (x::r).length:=Nat.mod_lt _ (by simp)
  have hx:=aC hlt;rw[hx];refine aA (ahl n _ _ _ (by rw[rE hlt];simpa using h) fun ys d hp =>?_)
  exact aH (q _ _ ((hp.cons _).trans (aem _ _ _ hx)))
end
def PW(ord:Array (Int×Value))(i:Nat)(v:Value):Prop:=∃e,ord[i]? = some e/\v=e.2
theorem ak3{h h':Heap}{I S:Addr}{o:Obj}(hne:S≠I)(ho:h.get? S=some o)(hs:cH I h h'):h'.get? S=some o:=(hs.2 S hne).trans ho
theorem aq5{t:cP}{n:Nat}(h:t.fits n=true):t.place.size=n:=by
 unfold SetTable.fits at h;rw[bF] at h;exact eq_of_beq h.1
section
variable{prog:aZ}{w:World}{A:cI}
theorem asv(hh:A.handled=none)(I S:Addr)(hne:S≠I){es:Array (Int×Value)}{ep:Nat}{t:cP}(hf:t.fits es.size=true)(hw:w.params.followText "set-order" = true) :
  Walks prog w A I [I,S] [I] es.size (PW (jO (w.params.setOrder S ep) es)) (fun i h=>IsSI h I S (.int (0:Nat) 0) i es.size ep/\h.get? S=some (setO es ep t)) where
 sub:=fun b hb=>by simp at hb;simp[hb]
 frame:=fun _ _ _ st hk=>⟨st.1.at fun o e=>hk I (by simp) o e,hk S (by simp) _ st.2⟩
 item:=fun i s Q E hi st hQ=>by
  have hsz:(jO (w.params.setOrder S ep) es).size=es.size:=by rw[<-bI,(aft _ _).length_eq,bI]
  have hx:(jO (w.params.setOrder S ep) es)[i]? = some (jO (w.params.setOrder S ep) es)[i]:=by simp[hsz,hi]
  refine apm (x:=((jO (w.params.setOrder S ep) es)[i]).2) (slot':=0) st.1 st.2 hf (fun A' Q' E' q=>ajr st.2 hf hw (by rw[hx];exact q)) fun h' hit' hs' =>?_
  exact hQ _ h' s.toks ⟨_,hx,rfl⟩ ⟨hit',ak3 hne st.2 hs'⟩ fun b o hb e=>hs'.extBut b o (fun h=>hb (by simp[h])) e
 done:=fun s Q E st hQ=>by
  have hsz:(jO (w.params.setOrder S ep) es).size=es.size:=by rw[<-bI,(aft _ _).length_eq,bI]
  refine au9 hh st.1 st.2 hf (fun A' Q' E' q=>ajr st.2 hf hw (by rw[tK (by omega)];exact q)) fun h' he'=>hQ h' s.toks fun b o hb e=>he' b o (fun h=>hb (by simp[h])) e
 self:=fun _ _ _ _ st hQ=>ak2 st.1 hQ
theorem ao2(hh:A.handled=none)(I S:Addr)(hne:S≠I){es:Array (Int×Value)}{ep:Nat}{t:cP}(hf:t.fits es.size=true)(hw:w.params.followText "set-order" = false)(hr:Rise t)(hd:(!t.plain&&decide (es.size > 1))=false)(hl:t.led=true) :
  Walks prog w A I [I,S] [I] es.size (PW es) (fun i h=>(∃slot:Nat,eX t.place slot=i/\IsSI h I S (.int slot 0) i es.size ep)/\h.get? S=some (setO es ep t)) where
 sub:=fun b hb=>by simp at hb;simp[hb]
 frame:=fun _ _ _ ⟨⟨slot,hb,st⟩,ho⟩ hk=>⟨⟨slot,hb,st.at fun o e=>hk I (by simp) o e⟩,hk S (by simp) _ ho⟩
 item:=fun i s Q E hi ⟨⟨slot,hb,st⟩,ho⟩ hQ=>by
  have hx:es[i]? = some es[i]:=by simp[hi]
  have hps:=aq5 hf;have hp:t.place[i]? = some (t.place[i]):=by simp[hps,hi]
  refine apm (x:=(es[i]).2) (slot':=t.place[i]+1) st ho hf (fun A' Q' E' q=>aoe ho hf hw hd hl hb hx hp q) fun h' hit' hs' =>?_
  exact hQ _ h' s.toks ⟨_,hx,rfl⟩ ⟨⟨_,aou hr hp,hit'⟩,ak3 hne ho hs'⟩ fun b o hb e=>hs'.extBut b o (fun h=>hb (by simp[h])) e
 done:=fun s Q E ⟨⟨slot,hb,st⟩,ho⟩ hQ=>by
  refine au9 hh st ho hf (fun A' Q' E' q=>aqa ho hf hw hd hl hb (tK (aM _)) q) fun h' he'=>hQ h' s.toks fun b o hb e=>he' b o (fun h=>hb (by simp[h])) e
 self:=fun _ _ _ _ ⟨⟨slot,hb,st⟩,ho⟩ hQ=>ak2 st hQ
theorem ao3(hh:A.handled=none)(I S q:Addr)(hne:S≠I)(hq:q≠I){es:Array (Int×Value)}{ep:Nat}{t:cP}(hf:t.fits es.size=true)(js:List Nat)(hj:js.Perm (bG es.size)) :
  Walks prog w A I [I,S,q] [I] es.size (PW (js.map fun j=>es.getD j (0,.none)).toArray) (fun i h=>IsSI h I S (.ref q) i es.size ep/\h.get? S=some (setO es ep t)/\∃oq m,h.get? q=some oq/\oq.data=.seq (js.map fun(j:Nat)=>lC j).toArray m) where
 sub:=fun b hb=>by simp at hb;simp[hb]
 frame:=fun _ _ _ ⟨st,ho,oq,m,h1,h2⟩ hk=>⟨st.at fun o e=>hk I (by simp) o e,hk S (by simp) _ ho,oq,m,hk q (by simp) _ h1,h2⟩
 item:=fun i s Q E hi ⟨st,ho,oq,m,h1,h2⟩ hQ=>by
  have hlen:js.length=es.size:=by rw[hj.length_eq,dD]
  have hjlt:js[i] < es.size:=dG.mp (hj.mem_iff.mp (bT (by omega)))
  have hx:es[js[i]]? = some es[js[i]]:=by simp[hjlt]
  refine as9 (j:=js[i]) (x:=es[js[i]]) st ho hf ⟨oq,h1,h2⟩ (by simp[hlen,hi,lC]) hx fun h' hit' hs' =>?_
  refine hQ _ h' s.toks ⟨es[js[i]],?_,rfl⟩ ⟨hit',ak3 hne ho hs',oq,m,(hs'.2 q hq).trans h1,h2⟩ fun b o hb e=>hs'.extBut b o (fun h=>hb (by simp[h])) e
  simp[hlen,hi,vQ,hjlt]
 done:=fun s Q E ⟨st,ho,oq,m,h1,h2⟩ hQ=>by
  have hlen:js.length=es.size:=by rw[hj.length_eq,dD]
  refine ai7 hh st ho hf ⟨oq,h1,h2⟩ (by simp[hlen]) fun h' he'=>hQ h' s.toks fun b o hb e=>he' b o (fun h=>hb (by simp[h])) e
 self:=fun _ _ _ _ st hQ=>ak2 st.1 hQ
variable{E:Value->aJ->Prop}{s:aJ}
theorem apn{S:Addr}{es:Array (Int×Value)}{ep:Nat}{t:cP}{Q:Bool->aJ->Prop}(ho:s.heap.get? S=some (setO es ep t))(hf:t.fits es.size=true)(h:Q (!w.params.followText "set-order" && (!t.plain&&decide (es.size > 1))) s) :
  wpAny (model prog w) A (setDrawn S) Q E s:=by
 unfold setDrawn;refine aA (wpAny_setState_of ho rfl hf ?_);dsimp only;refine aA (agt ?_);exact aH h
theorem atb{S:Addr}{es:Array (Int×Value)}{ep:Nat}{t:cP}{ns:List Int}{Q:Value->aJ->Prop}(ho:s.heap.get? S=some (setO es ep t))(G:SetG w es t ns)(hb:es.size < lX)
  (h:∀(I:Addr) (fp:List Addr) (St:Nat->Heap->Prop) (ord:Array (Int×Value)) (s':aJ),(∀A':cI,A'.handled=none->Walks prog w A' I fp [I] es.size (PW ord) St)->St 0 s'.heap->ord.toList.Perm es.toList ->
   s.heap.objs.size<=I->(∀b∈fp,b=S∨s.heap.objs.size<=b)->(∀b o,s.heap.get? b=some o->s'.heap.get? b=some o)->s'.gens=s.gens->s'.os=s.os->s'.toks=s.toks->Q (.ref I) s') :
  wpAny (model prog w) A (pyIter (.ref S)) Q E s:=by
 have hT:s.TypeIs (.ref S) "set" := ⟨_,ho,rfl⟩;have hSlt:S < s.heap.objs.size:=aQ ho;refine wpAny_pyIter_slot hT wF (eF wF hT ag3 ?_ (F.args_set_iter_1 _));show wpAny _ _ (pure S >>= _) _ _ s;refine aA (aH ?_);unfold Builtin.Frozenset.sizeOf;refine aA (aA (wpAny_setEntries_of ho rfl G.fit (aH ?_)));refine aA (apn ho G.fit ?_);cases hw:w.params.followText "set-order" with
 | true =>
  rw[Bool.not_true,rW,if_neg (by simp)]
  refine aA (aH ?_);refine aA (wpAny_setEpoch_of ho rfl G.fit ?_);refine aA (bU (aH ⟨_,rfl, "set_iterator", _,⟨_,aK _ rfl,rfl⟩,jh.lookup,?_⟩));refine h s.heap.objs.size [s.heap.objs.size,S] _ _ _ (fun A' hh=>asv hh _ S (bD hSlt) G.fit hw) ⟨⟨_,aK _ rfl,rfl,rfl⟩,aB _ ho⟩ (aft _ _) (aM _) (fun b hb =>?_) (fun b o e=>aB _ e) rfl rfl rfl
  simp only[aY,cQ,or_false] at hb;rcases hb with rfl | rfl
  ·exact .inr (aM _)
  ·exact .inl rfl
 | false =>
  have hl:t.led=true:=by
   have:=G.kept.2;rw[hw] at this;exact this
  cases hd:(!t.plain&&decide (es.size > 1)) with
  | false =>
   rw[wO,if_neg (by simp)]
   refine aA (aH ?_);refine aA (wpAny_setEpoch_of ho rfl G.fit ?_);refine aA (bU (aH ⟨_,rfl, "set_iterator", _,⟨_,aK _ rfl,rfl⟩,jh.lookup,?_⟩));refine h s.heap.objs.size [s.heap.objs.size,S] _ _ _ (fun A' hh=>ao2 hh _ S (bD hSlt) G.fit hw G.kept.1 hd hl) ⟨⟨0,aot G.kept.1,_,aK _ rfl,rfl,rfl⟩,aB _ ho⟩ (.refl _) (aM _) (fun b hb =>?_) (fun b o e=>aB _ e) rfl rfl rfl
   simp only[aY,cQ,or_false] at hb;rcases hb with rfl | rfl
   ·exact .inr (aM _)
   ·exact .inl rfl
  | true =>
   rw[Bool.not_false,Bool.true_and,if_pos rfl];refine aA (ahl _ (bG es.size) _ _ dD fun js d hj =>?_)
   have hlen:js.length=es.size:=by rw[hj.length_eq,dD]
   simp only[newTuple];refine aA (bU ?_ (by show(js.map fun(i:Nat)=>lC i).toArray.size<=cD;rw[aV,aF,hlen];exact fits_of_scanBound hb))
   refine aA (wpAny_setEpoch_of (aB _ ho) rfl G.fit ?_);refine aA (bU (aH ⟨_,rfl, "set_iterator", _,⟨_,aK _ rfl,rfl⟩,jh.lookup,?_⟩));have hq:∀o:Obj,s.heap.objs.size≠(s.heap.push o).objs.size:=fun o=>by rw[bJ];exact bD (gM _)
   have hS2:∀o:Obj,S≠(s.heap.push o).objs.size:=fun o=>by rw[bJ];exact bD (mH hSlt)
   refine h _ _ _ _ _ (fun A' hh=>ao3 hh _ S s.heap.objs.size (hS2 _) (hq _) G.fit js hj) ⟨⟨_,aK _ rfl,rfl,rfl⟩,aB _ (aB _ ho),_,_,aB _ (aK _ rfl),rfl⟩ ?_ ?_ (fun b hb =>?_) (fun b o e=>aB _ (aB _ e)) rfl rfl rfl
   ·refine(hj.map _).trans ?_;have e:(bG es.size).map (fun j=>es.getD j (0,gA))=es.toList:=by
     apply qG
     ·simp
     ·intro i h1 h2;have h3:i < es.size:=by simpa using h2
      simp[vQ,h3]
    rw[e]
   ·rw[bJ];exact jW _
   ·simp only[aY,cQ,or_false] at hb;rcases hb with rfl | rfl | rfl
    ·right;rw[bJ];exact jW _
    ·exact .inl rfl
    ·exact .inr (aM _)
end
theorem agw:typeLookup (.type "set") "__len__" = pure (some (.builtin "set.__len__")):=by rw[typeLookup_type,builtinLookup_eq_fast];kernel_rfl
theorem aez:∀{es:List (Int×Value)},(∀e∈es,Ent e)->mV (es.map (·.2)) (es.map keyE)
 | [],_=>.nil
 | e::r,h=>by
  obtain⟨k,u,he⟩:=h e (aR ..);subst he;exact .cons k u (aez fun e he=>h e (aL _ he))
theorem aqm{ord:Array (Int×Value)}{acc:Array Value}{n:Nat}(h:ItemsOf (PW ord) acc n)(hn:ord.size=n):acc.toList=ord.toList.map (·.2):=by
 apply qG
 ·rw[aF,bI,bI,h.1,hn]
 ·intro i h1 h2;obtain⟨e,he,hv⟩:=h.2 i acc.toList[i] (by rw[<-oE];exact aC h1)
  rw[hv,List.getElem_map];rw[<-oE] at he;have h3:i < ord.toList.length:=by simpa using h2
  rw[aC h3] at he;cases he;rfl
theorem apj{h:Heap}{a:Addr}{xs:Array Value}{n:Nat}(ho:h.get? a=some (seqObj "list" xs n))(vs:List Value)(out:Array Value):∃m,(sortedHeap h a vs out).get? a=some (seqObj "list" out m) :=
 ⟨_,get?_update_seq (aB _ (aB _ (get?_update_seq ho (fun _ => #[])))) (fun _=>out)⟩
theorem anl{h:Heap}{a b:Addr}{o:Obj}{vs:List Value}{out:Array Value}(e:h.get? b=some o)(hb:b≠a):(sortedHeap h a vs out).get? b=some o :=
 (eV _ _ (iI hb)).trans (aB _ (aB _ ((eV _ _ (iI hb)).trans e)))
section
variable{prog:aZ}{w:World}{A:cI}{E:Value->aJ->Prop}{s:aJ}
theorem aly{S:Addr}{es:Array (Int×Value)}{ep:Nat}{t:cP}{ns:List Int}{Q:List Value->aJ->Prop}(hh:A.handled=none)(ho:s.heap.get? S=some (setO es ep t))(G:SetG w es t ns)(hb:es.size < lX)
  (hQ:∀(s':aJ) (acc:List Value) (ks:List Int),s.heap.objs.size < s'.heap.objs.size->(∀b o,s.heap.get? b=some o->s'.heap.get? b=some o)->s'.gens=s.gens->s'.os=s.os->mV acc ks->ks.Perm (es.toList.map keyE)->Q acc s') :
  wpAny (model prog w) A (collect (.ref S)) Q E s:=by
 have hSlt:S < s.heap.objs.size:=aQ ho;unfold collect;refine aA (wpAny_runValue (codeAny_builtin F.entry_proto_collect ?_));rw[jD F.plain_proto_collect _];show wpAny _ A.in1 (newList [] >>= fun l=>again (.builtin "list.__iadd__" ⟨[l,.ref S],[]⟩)) _ _ s
 refine aA (bU ?_);refine aH ⟨plainId_quiet vN _,codeAny_builtin F.entry_list_iadd ?_⟩;rw[jD vN _];have ho1:(s.heap.push { cls:=.type "list", data:=.seq ([]:List Value).toArray }).get? S=some (setO es ep t):=aB _ ho;have hL:(s.heap.push { cls:=.type "list", data:=.seq ([]:List Value).toArray }).get? s.heap.objs.size=some { cls:=.type "list", data:=.seq ([]:List Value).toArray }:=aK _ rfl;have hold:∀b o,s.heap.get? b=some o->(s.heap.push { cls:=.type "list", data:=.seq ([]:List Value).toArray }).get? b=some o:=fun b o e=>aB _ e
 have hsz1:(s.heap.push { cls:=.type "list", data:=.seq ([]:List Value).toArray }).objs.size=s.heap.objs.size+1:=bJ _ _;show wpAny _ A.in1 (rC (.ref s.heap.objs.size) (.ref S) (.ref s.heap.objs.size)) _ _ { s with heap:=s.heap.push { cls:=.type "list", data:=.seq ([]:List Value).toArray } }
 generalize s.heap.push { cls:=.type "list", data:=.seq ([]:List Value).toArray }=H1 at ho1 hL hold hsz1 ⊢
 unfold rC;refine aA (wpAny_typeOf (T := "set") ⟨_,ho1,rfl⟩ ?_);have h1:sI (.ref s.heap.objs.size) (.ref S)=false:=by simp[sI,gP hSlt]
 have h2:(iV "set" == iV "list")=false:=by decide
 have h3:(iV "set" == iV "tuple")=false:=by decide
 simp only[h1,h2,h3,xG,iK,if_false];refine aA (atb (s:={ s with heap:=H1 }) ho1 G hb fun I fp St ord s2 W hst hord hI hfp hk2 hg2 ho2 ht2 =>?_)
 have hSs:s2.heap.get? S=some (setO es ep t):=hk2 _ _ ho1;have hLs:s2.heap.get? s.heap.objs.size=some { cls:=.type "list", data:=.seq ([]:List Value).toArray }:=hk2 _ _ hL;refine aA (fH ?_);unfold Builtin.List.listLengthHint;refine aA (wpAny_specialOf (T := "set") ⟨_,hSs,rfl⟩ agw ?_);generalize hid:("set.__len__" : String)=id0
 wp_delta
 rw[show splitId id0=some ("set","__len__") from by subst hid;decide +kernel]
 subst hid;refine aA (wpAny_isInstance (T := "set") (b:=true) ⟨_,hSs,rfl⟩ (by rw[isSubtype_type];kernel_rfl) ?_)
 show wpAny _ A.in1 (typeOf (dN S) >>= _) _ _ _;refine aA (wpAny_typeOf (T := "set") ⟨_,hSs,rfl⟩ ?_);refine aH ?_;rw[if_pos (by decide)]
 refine aA (iH ?_);refine aA ?_;show wpAny _ A.in1 (updateSeq s.heap.objs.size (·.push .none) >>= fun _=>updateSeq s.heap.objs.size (·.pop)) _ _ _
 refine aA (wpAny_updateSeq hLs rfl ?_);have hS₂:=bZ (gK (·.push gA)) hLs rfl;refine wpAny_updateSeq hS₂ rfl ?_;have hS₃:=bZ (gK (·.pop)) hS₂ rfl;have oth:∀b o,b≠s.heap.objs.size->s2.heap.get? b=some o ->
   ((s2.heap.update s.heap.objs.size (gK (·.push gA))).update s.heap.objs.size (gK (·.pop))).get? b=some o :=
  fun b o hb e=>(eV _ _ (iI hb)).trans ((eV _ _ (iI hb)).trans e)
 have hSf:s.heap.objs.size∉fp:=fun hm=>by
  rcases hfp _ hm with e | e
  ·exact gP hSlt e
  ·have e':s.heap.objs.size+1<=s.heap.objs.size:=hsz1▸e;exact Nat.not_succ_le_self _ e'
 have hIne:s.heap.objs.size+1<=I:=hsz1▸hI;refine aH ⟨plainId_quiet F.plain_extend_loop _,codeAny_extend_loopS (W A.in1 hh).toS (fits_of_scanBound hb) _ hSf _ es.size 0 _ _ _ rfl (dI _)
  ((W A.in1 hh).frame 0 s2.heap _ hst fun b hb o e=>oth b o (fun h=>hSf (h▸hb)) e) hS₃ (ItemsOf.nil _) fun s' acc' c' hm hS' hacc =>?_⟩
 show wpAny _ A (load s.heap.objs.size >>= _) _ _ s';refine aA (wpAny_load hS' ?_);have hosz:ord.size=es.size:=by rw[<-bI,hord.length_eq,bI]
 have hacc':=aqm hacc hosz;refine aH (hQ s' acc'.toList (ord.toList.map keyE) (aQ hS') (fun b o e =>?_) (hm.gens.trans hg2) (hm.os.trans ho2) ?_ (hord.map _))
 ·have hlt:=aQ e;refine hm.heap b o (fun hb =>?_) (oth b o (bD hlt) (hk2 b o (hold b o e)))
  simp only[aY,cQ,or_false] at hb;rcases hb with rfl | rfl
  ·exact iW _ hlt
  ·exact absurd hlt (Nat.not_lt.mpr (cF (jW _) hIne))
 ·rw[hacc'];exact aez fun e he=>G.ent e (hord.mem_iff.mp he)
set_option maxHeartbeats 1000000 in
theorem ank{S:Addr}{es:Array (Int×Value)}{ep:Nat}{t:cP}{ns:List Int}{Q:Value->aJ->Prop}(hh:A.handled=none)(ho:s.heap.get? S=some (setO es ep t))(G:SetG w es t ns)(h64:es.size < 64)
  (h:∀(s':aJ) (a:Addr) (out:Array Value) (m:Nat) (ns':List Int),s.heap.objs.size<=a->(∀b o,s.heap.get? b=some o->s'.heap.get? b=some o)->s'.gens=s.gens->s'.os=s.os->s'.heap.get? a=some (seqObj "list" out m) ->
   mV out.toList ns'->ns'.Perm (es.toList.map keyE)->ns'.Pairwise (· <= ·)->Q (.ref a) s') :
  wpAny (model prog w) A (call (.builtin "sorted") [.ref S]) Q E s:=by
 refine Calls.call_function_entry kind_sorted plain_sorted entry_sorted (args_sorted1 _) ?_;unfold iJ.«sorted»
 refine aA (m:=checkCount "sorted" 1 1 _) (aH ?_);refine aA (aly hh ho G (by unfold lX;omega) fun s1 acc ks hlt1 hk hg hos hI hp =>?_)
 have hlen:acc.length=es.size:=by rw[hI.length,hp.length_eq,aF,bI]
 refine aA (wpAny_newList ?_);have hoL:(s1.heap.push (seqObj "list" acc.toArray 0)).get? s1.heap.objs.size=some (seqObj "list" acc.toArray 0):=aK _ rfl;show wpAny _ _ _ _ _ { s1 with heap:=s1.heap.push (seqObj "list" acc.toArray 0) }
 refine aA (fH (eF slot_list_sort ⟨_,hoL,rfl⟩ entry_list_sort (list_sort_tree hoL hI (by omega) fun out ns' a1 a2 a3=>⟨_,rfl,?_⟩) (args_list_sort _)))
 obtain⟨m,hm⟩:=apj hoL acc out;refine aH ⟨_,rfl,?_⟩;refine h _ s1.heap.objs.size out m ns' (lJ hlt1) ?_ hg hos hm a1 (a2.trans hp) a3;intro b o e;exact anl (aB _ (hk b o e)) (bD (lH (aQ e) hlt1))
end
end Stt
namespace Dn
open L2 Mn
noncomputable def dedI:List Int->List Int
 | []=>[]
 | x::r=>if r.contains x then dedI r else x::dedI r
theorem adn:∀(l:List Int) (x:Int),x∈dedI l↔x∈l
 | [],x=>.rfl
 | y::r,x=>by
  unfold dedI;split
  ·rename_i h;rw[adn r x,aY];exact⟨.inr,fun z=>z.elim (fun e=>e▸List.contains_iff_mem.mp h) id⟩
  ·rw[aY,aY,adn r x]
theorem ab5:∀l:List Int,(dedI l).Nodup
 | []=>pQ
 | y::r=>by
  unfold dedI;split
  ·exact ab5 r
  ·rename_i h;exact pH (fun z hz e=>h (kE.mpr (e▸(adn r z).mp hz))) (ab5 r)
theorem acz:∀l:List Int,(dedI l).length<=l.length
 | []=>aM _
 | y::r=>by
  unfold dedI;have:=acz r;split
  ·simp only[bO];omega
  ·simp only[bO];omega
theorem ade:∀{a b:List Int},a.Nodup->b.Nodup->(∀x,x∈a↔x∈b)->a.Perm b
 | [],b,_,_,h=>by
  cases b with
  | nil=>exact .refl _
  | cons y r=>exact absurd ((h y).mpr (aR ..)) (cQ)
 | x::r,b,ha,hb,h=>by
  have hx:x∈b:=(h x).mp (aR ..);have hp:=List.perm_cons_erase hx;refine(List.Perm.cons x (ade (tX ha) (hb.erase x) fun y =>?_)).trans hp.symm
  rw[hb.mem_erase_iff];have hxr:x∉r:=fun z=>(fL.mp ha).1 x z rfl
  constructor
  ·intro hy;exact⟨fun e=>hxr (e▸hy),(h y).mp (aL _ hy)⟩
  ·rintro⟨hne,hy⟩
   exact(aY.mp ((h y).mpr hy)).resolve_left hne
def setI(ns:List Int):List Int:=sortI (dedI ns)
section
variable{K:Fg9}{X:Cx}{e a b c:Expr}{es:List Expr}{pos p p2:Pos}
def SetH(w:World)(a:Addr)(ns:List Int):Heap->Prop:=fun h=>∃es ep t,h.get? a=some (Stt.setO es ep t)/\Stt.SetG w es t ns/\es.size<=ns.length
def a5c(w:World):List V->Hp->VK->Prop:=fun vs H Q=>∃p ns,vs=[.ref p]/\H p=some (.tup (ns.map V.int))/\ns.length < 4000/\∀a,H a=none->Q (.ref a) (upd H a (.ext (SetH w a ns)))
theorem au3(hc:X.calm=true):zj X (.type "set") (a5c X.w):=by
 intro zv s σ H xs us Q I r ⟨p,ns,hv,hp,hz,q⟩;subst hv;obtain⟨u,rfl,ru⟩:=vals1 r;cases ru;obtain⟨its,rv,pt,_⟩:=I.tuple (SqT.of hp);have hlen:=rv.length;rw[aF] at hlen;refine Stt.azx (I.ok.hd hc) pt (intsAre_of rv) (by rw[aV];unfold lX;omega) fun h' tk es ep t ho g hsz hk =>?_
 have hn:H s.heap.objs.size=none:=I.hok.fresh (aM _);refine⟨.ref s.heap.objs.size,_,I.laid hk (aM _) ?_,rfl,q _ hn⟩;refine⟨⟨es,ep,t,ho,g,?_⟩,⟨_,ho⟩,fun h1 h2 ⟨es,ep,t,z,g,zz⟩ k=>⟨es,ep,t,k _ z,g,zz⟩⟩
 have hsz':es.size<=its.length:=by simpa using hsz
 omega
def rcSS(w:World):List V->Hp->VK->Prop:=fun vs H Q=>∃a ns,vs=[.ref a]/\H a=some (.ext (SetH w a ns))/\ns.length < 64/\∀b,H b=none->Q (.ref b) (upd H b (.lst ((setI ns).map V.int)))
theorem ay3(hc:X.calm=true):zj X (.builtin "sorted") (rcSS X.w):=by
 intro zv s σ H xs us Q I r ⟨a,ns,hv,ha,hz,q⟩;subst hv;obtain⟨u,rfl,ru⟩:=vals1 r;cases ru;obtain⟨⟨es,ep,t,ho,g,hsz⟩,_⟩:=I.hok a _ ha;refine Stt.ank (I.ok.hd hc) ho g (by omega) fun s' b out m ns' hb hk hg hos hob hI hp hs =>?_
 have hn:H b=none:=I.hok.fresh hb;have e':ns'=setI ns:=as8 (hp.trans (ade g.nd (ab5 ns) fun k=>by rw[g.mem k,adn])) hs
 subst e';obtain⟨h',g',d',tk',os'⟩:=s';subst hg;subst hos;have I1:Inv X zv σ (upd H b (.lst ((setI ns).map V.int))) { s with heap:=h',toks:=tk' }:=I.laid hk hb ⟨by
  rw[aF];have h1:(setI ns).length=(dedI ns).length:=(sortI_perm _).length_eq;have h2:=acz ns;exact lJ (apk (by omega)),out.toList,m,aep hI,by simpa using hob⟩
 exact⟨.ref b,_,⟨I1.ok,I1.os,I1.bare,I1.base,I1.loc,I1.cell,I1.free,I1.freeC,I1.pin,I1.hok,I1.len⟩,rfl,q b hn⟩
def gSet:D->Option Rv
 | .tup l=>(qu l).bind fun ns=>if ns.length < 64 then some (.fr ((setI ns).map D.int)) else none
 | _=>none
theorem aj9{x y:Str}{m:M (List D)}{pp qq:Pos}{ppos:Pos}(hc:X.calm=true)(hg1:Gl X x)(hm1:X.mg x=none)(hv1:bV x=some (.builtin "sorted"))(hg2:Gl X y)(hm2:X.mg y=none)(hv2:bV y=some (.type "set"))
  (ha:EA K X [e] m) (hn1:x ≠ "__name__" := by decide) (hdb1:(x==("__debug__" : Str))=false:=by decide) (hn2:y ≠ "__name__" := by decide) (hdb2:(y==("__debug__" : Str))=false:=by decide)
  (he:aW [e] X.env=[(false,eval e X.env)]:=by rfl) (he2:aW [.Call (.Name y qq) [e] [] ppos] X.env=[(false,eval (.Call (.Name y qq) [e] [] ppos) X.env)]:=by rfl) :
  ER K X (.Call (.Name x pp) [.Call (.Name y qq) [e] [] ppos] [] pos) (dz (g1 gSet) m):=ER.mk fun hk=>PE.imp (ah4 (ay3 hc) hg1 hm1 hv1 (ut (adf (au3 hc) hg2 hm2 hv2 (ha hk) hn2 hdb2 he rfl) afu he2) hn1 hdb1 he2 rfl) fun σ H Q hq0=>by
 obtain⟨tg,F,ρ,r,ρ',G,em,q⟩:=hq0;obtain⟨ds,ρ1,e1,em⟩:=bc em;obtain⟨e2,rfl⟩:=ie em;refine⟨tg,F,ρ,ds,_,G,e1,fun vs H1 F1 G1 x1 bl =>?_⟩
 cases ds with
 | nil=>cases e2
 | cons d tl =>
  cases tl with
  | cons _ _=>cases e2
  | nil =>
   cases d with
   | tup l =>
    have e2:(qu l).bind (fun ns=>if ns.length < 64 then some (Rv.fr ((setI ns).map D.int)) else none)=some r:=e2
    cases ei:qu l with
    | none=>rw[ei] at e2;cases e2
    | some ns =>
     rw[ei] at e2;have e2:(if ns.length < 64 then some (Rv.fr ((setI ns).map D.int)) else none)=some r:=e2
     split at e2
     ·rename_i h64;cases e2;obtain⟨v,rfl,bv⟩:=bl.one;obtain⟨p,ws,rfl,ea,hl⟩:=bv.tup;rw[aca ei] at hl;rw[hl.int_inv] at ea;refine⟨p,ns,rfl,G1.sub _ _ ea,by omega,fun a hna =>?_⟩
      show rcSS X.w _ _ _;refine⟨a,ns,rfl,je,h64,fun b hnb =>?_⟩
      have G2:=G1.fresh hna (.ext (SetH X.w a ns));have X2:=G1.freshX hna (.ext (SetH X.w a ns));exact Res.lst G2 (fun v H3 F3 G3 x3 rr=>q v H3 F3 G3 ((x1.trans X2).trans x3) (n8 (x1.trans X2) rr)) (afc _) hnb
     ·cases e2
   | _=>cases e2
@[simp] theorem a3q(l:List D):gSet (.tup l)=(qu l).bind fun ns=>if ns.length < 64 then some (.fr ((setI ns).map D.int)) else none:=rfl
end
theorem v9{c:M Bool}{g:Sd}(Inv:Nat->Ro->Prop)(Done:Ro->Prop)(hs:∀k ρ,Inv k ρ->(∃ρ',c ρ=some (.ok false,ρ')/\Done ρ')∨∃ρ1 ρ2 k',c ρ=some (.ok true,ρ1)/\g ρ1=some (.nx,ρ2)/\k' < k/\Inv k' ρ2) :
  ∀(n k:Nat) (ρ:Ro),k < n->Inv k ρ->∃ρ',whileD c g n ρ=some (.nx,ρ')/\Done ρ'
 | 0,k,ρ,h,_=>absurd h (nR _)
 | n+1,k,ρ,h,h0=>by
  unfold whileD;rcases hs k ρ h0 with⟨ρ',e,d⟩ | ⟨ρ1,ρ2,k',e1,e2,hk,h2⟩
  ·rw[e];exact⟨ρ',rfl,d⟩
  ·rw[e1];dsimp only;rw[e2];exact v9 Inv Done hs n k' ρ2 (by omega) h2
theorem adx:100000 < fuel:=by unfold fuel;decide
theorem alr(a b:Int):eqD (.int a) (.int b)=decide (a=b):=by
 show(a==b)=_
 by_cases h:a=b <;> simp[h]
theorem ay9(ns:List Int)(a:Int):(ns.map D.int).any (fun y=>eqD y (.int a))=decide (a∈ns):=by
 induction ns with
 | nil=>simp
 | cons x r ih=>simp[alr,aY,ih,eq_comm]
theorem aew(n:Nat)(ns:List Int):(ns.map D.int).all (okD n)=true:=by
 induction ns with
 | nil=>rfl
 | cons x r ih=>simp[okD]
theorem alo(neg:Bool)(a:Int)(ns:List Int):gIn neg (.int a) (.lst (ns.map D.int))=some (.v (.bl (if neg then !decide (a∈ns) else decide (a∈ns)))):=by
 have h:=aew 30 ns;have h2:=ay9 ns a;simp only[gIn,itemsD,h,h2];simp[okD]
theorem am4:∀(a b:List Int),eqDs (a.map D.int) (b.map D.int)=decide (a=b)
 | [],[]=>rfl
 | [],_::_=>rfl
 | _::_,[]=>rfl
 | x::r,y::t=>by
  show(eqD (.int x) (.int y)&&eqDs (r.map D.int) (t.map D.int))=_;rw[alr,am4 r t]
  by_cases h:x=y <;> simp[h]
theorem arc(a b:List Int):eqD (.tup (a.map D.int)) (.tup (b.map D.int))=decide (a=b):=by
 rw[<-am4];exact arb _ _
theorem aa1(neg:Bool)(a b:List Int):gEq neg (.tup (a.map D.int)) (.tup (b.map D.int))=some (.v (.bl (if neg then !decide (a=b) else decide (a=b)))):=by
 have h1:okD 30 (.tup (a.map D.int))=true:=aew 29 a;have h2:okD 30 (.tup (b.map D.int))=true:=aew 29 b;simp only[gEq,h1,h2,arc];simp
theorem aq3(r:List Int):∀x:Int,(0<=r.foldl (fun m y=>if decide (y < m)=true then y else m) x)↔0<=x/\∀y∈r,0<=y:=by
 induction r with
 | nil=>intro x;simp
 | cons z t ih =>
  intro x;rw[fB,ih]
  by_cases h:z < x
  ·simp only[h,decide_true,if_true,aY,forall_eq_or_imp];constructor
   ·rintro⟨a,b⟩;exact⟨by omega,a,b⟩
   ·rintro⟨_,a,b⟩;exact⟨a,b⟩
  ·simp only[h,decide_false,iK,if_false,aY,forall_eq_or_imp];constructor
   ·rintro⟨a,b⟩;exact⟨a,by omega,b⟩
   ·rintro⟨a,_,b⟩;exact⟨a,b⟩
def minI(ns:List Int):Int:=acl (fun i j=>decide (i < j)) ns
theorem aml{ns:List Int}(h:ns≠[]):0<=minI ns↔∀y∈ns,0<=y:=by
 cases ns with
 | nil=>exact absurd rfl h
 | cons x r =>
  show 0<=r.foldl (fun m y=>if decide (y < m)=true then y else m) x↔_
  rw[aq3];simp
theorem aup{ns:List Int}(h:ns≠[]):ax7 (.lst (ns.map D.int))=some (.v (.int (minI ns))):=by
 show(qu (ns.map D.int)).bind _=_;rw[aah];simp[h,minI]
theorem aqw{ns:List Int}(h:ns.length < 64):gSet (.tup (ns.map D.int))=some (.fr ((setI ns).map D.int)):=by
 show(qu (ns.map D.int)).bind _=_;rw[aah];simp[h]
theorem amm(ns:List Int)(x:Int):x∈setI ns↔x∈ns:=by
 unfold setI;rw[(sortI_perm _).mem_iff,adn]
theorem aod(ns:List Int):(setI ns).Nodup:=by
 unfold setI;rw[(sortI_perm _).nodup_iff];exact ab5 ns
@[simp] theorem a1y(d:D):aoq [d]=(itemsD d).map agl:=rfl
@[simp] theorem a1t(a b:D):ag1 [a,b]=(itemsD a).bind fun l1=>(itemsD b).bind fun l2=>if l1.length<=l2.length then some (sr l1 l2) else none:=rfl
@[simp] theorem ax3(a b c:D):aqu [a,b,c]=(itemsD a).bind fun l1=>(itemsD b).bind fun l2=>(itemsD c).bind fun l3=>if l1.length<=l2.length/\l1.length<=l3.length then some (acv l1 l2 l3) else none:=rfl
@[simp] theorem azi(ρ:Ro)(f:Int->Int->Int)(i:Nat)(mi m:M D):alx f i mi m ρ=(dM (mOwn i) fun _=>dM mi fun k=>dM (mOwn i) fun l=>dM (lift ((asI k).bind (ixN l.length))) fun j=>dM (lift ((l[j]?).bind asI)) fun x=>dM m fun y=>dM (lift (asI y)) fun y=>dM (mOwn i) fun l2=>dM (lift (if l2.length=l.length then some () else none)) fun _=>dM (abn i (l2.set j (.int (f x y)))) fun _=>dNx) ρ:=rfl
@[simp] theorem a08(ρ:Ro)(i:Nat)(ms:M (List D)):aqf i ms ρ=((gj i).bind fun d0=>ms.bind fun ds=>(gj i).bind fun d=>(lift (match d0,d with
 | .lst _,.lst _=>some ()
 | .tup _,.tup _=>some ()
 | _,_=>none)).bind fun _=>lift (aij d ds)) ρ:=rfl
@[simp] theorem ayg(l:List D)(x:D):aij (.lst l) [x]=if okD 30 x&&l.all (okD 30) then some (.int (l.countP fun y=>eqD y x)) else none:=rfl
@[simp] theorem ayf(l:List D)(x:D):aij (.tup l) [x]=if okD 30 x&&l.all (okD 30) then some (.int (l.countP fun y=>eqD y x)) else none:=rfl
theorem aiv{l1 l2:List D}(h:l1.length<=l2.length):(sr l1 l2).length=l1.length:=by unfold sr;rw[fV];omega
theorem afg{l1 l2 l3:List D}(h:l1.length<=l2.length/\l1.length<=l3.length):(acv l1 l2 l3).length=l1.length:=by unfold acv;rw[fV,qW];omega
theorem qd{ns:List Int}{k:Int}(h0:0<=k)(h1:k < (ns.length:Int)):atI (ns.map D.int) k=some (.int (ns.getD k.toNat 0)):=by
 have hk:k.toNat < ns.length:=by omega
 have q:atI (ns.map D.int) ((k.toNat:Nat):Int)=some (.int (ns.getD k.toNat 0)):=ais (by simp[aC hk])
 rw[show((k.toNat:Nat):Int)=k by omega] at q
 exact q
theorem vy{n:Nat}{k:Int}(h0:0<=k)(h1:k < (n:Int)):ixN n k=some k.toNat:=by
 unfold ixN;simp[h0,h1]
theorem az0{n d:Nat}{k:Int}(h0:0<=k):HT.sIx n d (some k)=min k.toNat n:=by
 show(if k < 0 then (k+(n:Int)).toNat else min k.toNat n)=_
 rw[if_neg (by omega)]
theorem a76{ns:List D}{k:Int}(h0:0<=k)(h1:k<=(ns.length:Int)):cutD ns none (some k)=ns.take k.toNat:=by
 unfold cutD;rw[az0 h0];have:HT.sIx ns.length 0 none=0:=rfl;rw[this,nT (by omega),tQ,rT]
theorem jn{K:Fg9}{P:aZ}{w:World}{mg:Str->Option Value}{base:Heap}{x qual:Str}{st:Stmt}{f:Addr}{fd:fM}{N ps:List Str}{k nl np:Nat}{g:Sd}(F:Fun K x qual st f fd)(S:FnScope N ps (aj st))(h1:N.length=nl)(h2:ps.length=np)
  (body:∀(cdv:Value) (A:cI) (outer:List Env) (s:aJ) (H:Hp) (E:XK),Room k (A.deeper (nG qual (aj st) s.heap.objs.size f cdv))->SVs K (cxOf CX0 P w K mg base N qual (aj st) f cdv A outer s H E).nox (dh st) g) :
  FnOk P w K mg base CX0 (k+1) f fd ps (spOf K np (fnD nl np g)):=by
 subst h1 h2;exact a7i F S body
section
variable{K:Fg9}{X:Cx}{e:Expr}{pos:Pos}
def gLS:D->Option Rv
 | .tup l=>(qu l).bind fun ns=>if ns.length < 64 then some (.v (.int ((dedI ns).length:Int))) else none
 | _=>none
@[simp] theorem a7a(l:List D):gLS (.tup l)=(qu l).bind fun ns=>if ns.length < 64 then some (.v (.int ((dedI ns).length:Int))) else none:=rfl
end
section
variable{K:Fg9}{X:Cx}
def rReverse:V->List V->Hp->VK->Prop:=fun x vs H Q=>∃l xs,x=.ref l/\vs=[]/\H l=some (.lst xs)/\xs.length < cD/\Q .non (upd H l (.lst xs.reverse))
def aun(l ds:List D):Option (D×List D):=match ds with
 | []=>if l.length < capS then some (.non,l.reverse) else none
 | _=>none
@[simp] theorem avu(l:List D):aun l []=if l.length < capS then some (.non,l.reverse) else none:=rfl
end
section
variable{K:Fg9}{X:Cx}{a:Expr}{pos p2:Pos}
def mIx1(m:M Rv):M Rv:=m.bind fun r=>match r with
 | .tf _ l=>ret (.fr l)
 | _=>lift none
@[simp] theorem a6d(m:M Rv)(ρ:Ro):mIx1 m ρ=(m.bind fun r=>match r with
 | .tf _ l=>ret (.fr l)
 | _=>lift none) ρ:=rfl
end
end Dn
namespace L2
section
variable{X:Cx}{tg:Expr}
end
end L2
namespace Dn
open L2 Mn
section
variable{K:Fg9}{X:Cx}{tgt a b c:Expr}{p pos:Pos}
end
end Dn
namespace Mn
open L2
section
variable{X:Cx}
end
end Mn
namespace Dn
open L2 Mn
section
variable{K:Fg9}{X:Cx}
end
theorem mkSc{N P:List Str}{sc:Scope}(a:sc.kind=.function)(b:sc.isCoroutine=false)(c:sc.isGenerator=false)(e:N.take P.length=P)(d:N.Nodup/\(∀x∈P,sc.names.lookup x=some .local∨sc.names.lookup x=some .cell)/\∀y∈sc.names,y.2≠.free):FnScope N P sc:=⟨a,b,c,d.1,e,d.2.1,d.2.2⟩
section
variable{K:Fg9}{X:Cx}{e a b o:Expr}{es:List Expr}{pos p p2:Pos}
def FldT(K:Fg9)(c f:Str):Prop:=∀C,nsIn K aP c=some (some (.ref C))->Cls K C/\acu K C f
def mLnk(c:Str)(i:Nat)(f:Str)(j:Nat):M Unit:=fun ρ=>match ρ[i]?,ρ[j]? with
 | some (.box c' fs),some (.own (some k) _)=>match fs.lookup f with
  | some (.inl k')=>if c'=c/\k'=k then some (.ok (),ρ) else none
  | _=>none
 | _,_=>none
theorem amn{tg:Nat->Addr}{F H:Hp}{ρ ρ':Ro}{σ:L2.St}(G:Good K tg F H ρ σ){c f:Str}{i j:Nat}{u:Unit}(hc:FldT K c f)(em:mLnk c i f j ρ=some (.ok u,ρ')) :
  ρ'=ρ/\∃a C dx fvs v,σ[i]? = some (some (.ref a))/\H a=some (.ins C dx fvs)/\Cls K C/\acu K C f/\fvs.lookup f=some v/\σ[j]? = some (some v):=by
 unfold mLnk at em;split at em
 ·rename_i c' fs k l ei ej;split at em
  ·rename_i k' hk;split at em
   ·rename_i hz;obtain⟨rfl,rfl⟩:=hz;cases em;obtain⟨oi,hoi,a,C,dx,fvs,rfl,hf,hh,hn,_,h1,_⟩:=G.at ei;obtain⟨oj,hoj,b,vs,rfl,_,_,_,ht⟩:=G.at ej;obtain⟨k1,k2⟩:=hc C hn;refine⟨rfl,a,C,dx,fvs,.ref b,hoi,hh,k1,k2,?_,hoj⟩;rw[h1 f _ hk,ht _ rfl]
   ·cases em
  ·cases em
 ·cases em
abbrev tAt(K:Fg9)(i:Nat)(f:Str):TE:=tFld K (tVar i) f
theorem ap2{i:Nat}{f:Str}(h:PE X o (tVar i))(hb:gC o f X.env (eval o X.env)=eval o X.env:=by rfl):PE X (.Attribute o f pos) (tAt X.K i f):=a0m h hb
def mFV(c:Str)(i:Nat)(f:Str):M D:=fun ρ=>match ρ[i]? with
 | some (.box c' fs)=>if c'=c then match fs.lookup f with
  | some (.inr d)=>some (.ok d,ρ)
  | _=>none
  else none
 | _=>none
theorem a7s{c f:Str}{i:Nat}(hc:FldT K c f)(h:PE X o (tVar i))(hb:gC o f X.env (eval o X.env)=eval o X.env:=by rfl):EV K X (.Attribute o f pos) (mFV c i f):=EV.mk fun hk=>by
 subst hk;refine PE.imp (ap2 h hb) fun σ H Q ⟨tg,F,ρ,d,ρ',G,em,q⟩ =>?_
 unfold mFV at em;split at em
 ·rename_i c' fs ei;split at em
  ·rename_i hz;subst hz;split at em
   ·rename_i d' hd;cases em;obtain⟨oi,hoi,a,C,dx,fvs,rfl,hf,hh,hn,_,_,h2⟩:=G.at ei;obtain⟨k1,k2⟩:=hc C hn;obtain⟨v,hv,iv⟩:=h2 f _ hd;exact⟨_,hoi,a,C,dx,fvs,v,rfl,hh,k1,k2,hv,q v H F G (Ext.refl _ _ _) iv⟩
   ·cases em
  ·cases em
 ·cases em
theorem e2_f{c f:Str}{i j:Nat}{m2:M D}(hc:FldT K c f)(h:PE X o (tVar i))(hb2:EB K X b m2)(hb:gC o f X.env (eval o X.env)=eval o X.env:=by rfl):E2 K X (.Attribute o f pos) b ((mLnk c i f j).bind fun _=>cu j m2):=E2.mk fun hk=>by
 subst hk;refine⟨_,_,ap2 h hb,hb2 rfl,fun σ H R ⟨tg,F,ρ,p,ρ',G,em,q⟩ =>?_⟩
 obtain⟨u,ρ9,e9,em1⟩:=bc em;obtain⟨rfl,a,C,dx,fvs,v,h1,h2,h3,h4,h5,h6⟩:=amn G hc e9;obtain⟨d0,ρ0,e0,em⟩:=bc em1;obtain⟨d2,ρ2,e2,em⟩:=bc em;obtain⟨d1,ρ1,e1,em⟩:=bc em;obtain⟨rfl,rfl⟩:=mz em;obtain⟨rfl,_⟩:=qm G e0;exact⟨_,h1,a,C,dx,fvs,v,rfl,h2,h3,h4,h5,tg,F,ρ0,d2,ρ2,G,e2,fun y H2 F2 G2 x2 r2=>by
  obtain⟨rfl,v',hv',b'⟩:=qm G2 e1;rw[h6] at hv';cases hv';exact q v y H2 F2 G2 x2 b' r2⟩
theorem ea_f{c f:Str}{i j:Nat}{ms:M (List D)}(hc:FldT K c f)(h:PE X o (tVar i))(t:EA K X es ms)(hb:gC o f X.env (eval o X.env)=eval o X.env:=by rfl)(hs:aW (.Attribute o f pos::es) X.env=(false,eval (.Attribute o f pos) X.env)::aW es X.env:=by rfl) :
  EA K X (.Attribute o f pos::es) ((mLnk c i f j).bind fun _=>dg j ms):=EA.mk fun hk=>by
 subst hk;refine PA.imp (ut (ap2 h hb) (t rfl) hs) fun σ H Q ⟨tg,F,ρ,ds,ρ',G,em,q⟩ =>?_
 obtain⟨u,ρ9,e9,em1⟩:=bc em;obtain⟨rfl,a,C,dx,fvs,v,h1,h2,h3,h4,h5,h6⟩:=amn G hc e9;obtain⟨d0,ρ0,e0,em⟩:=bc em1;obtain⟨r,ρ2,e2,em⟩:=bc em;obtain⟨d,ρ1,e1,em⟩:=bc em;obtain⟨rfl,rfl⟩:=mz em;obtain⟨rfl,_⟩:=qm G e0;exact⟨_,h1,a,C,dx,fvs,v,rfl,h2,h3,h4,h5,tg,F,ρ0,r,_,G,e2,fun vs H2 F2 G2 x2 r2=>by
  obtain⟨rfl,v',hv',b'⟩:=qm G2 e1;rw[h6] at hv';cases hv';exact q _ H2 F2 G2 x2 (.cons b' r2)⟩
def dSubF(c:Str)(i:Nat)(f:Str)(j:Nat)(mi m:M D):Sd:=dM m fun d=>dM (mLnk c i f j) fun _=>dM mi fun k=>dM (mOwn j) fun l=>dM (lift ((asI k).bind (ixN l.length))) fun n=>dM (abn j (l.set n d)) fun _=>dNx
theorem awj{c f:Str}{i j:Nat}{mi m:M D}(hc:FldT K c f)(h:EV K X e m)(ho:PE X o (tVar i))(hi:EV K X b mi)(hb:gC o f X.env (eval o X.env)=eval o X.env:=by rfl)(hs:swapsWithSole [.Subscript (.Attribute o f p2) b p] e pos.line X.env=pure false:=by rfl)(hw:swappedStores [.Subscript (.Attribute o f p2) b p] e X.env=pure none:=by rfl)
  (h1:(dY [.Subscript (.Attribute o f p2) b p] X.env).map (·.2)=[kZ (.Subscript (.Attribute o f p2) b p) X.env]:=by rfl)
  (ha:∀v,kZ (.Subscript (.Attribute o f p2) b p) X.env v=(do
   let ov <-jC [v] (eval (.Attribute o f p2) X.env)
   let iv <-jC [v,ov] (eval b X.env)
   standAt p
   jC [v,ov,iv] (setItem ov iv v)
   release [v,ov,iv] []):=by intro _;rfl):SV K X (.Assign [.Subscript (.Attribute o f p2) b p] e pos) (dSubF c i f j mi m):=SV.mk fun hk=>by
 subst hk;refine PS.imp (amc (h rfl) (avh (ap2 ho hb) (hi rfl) set_list ha) hs hw h1) fun E σ H ⟨tg,F,ρ,fl,ρ',G,em,q⟩ =>
  mj em q fun d ρ1 e1 em=>mj em q fun u0 ρ0 e0 em=>mj em q fun k ρ2 e2 em=>mj em q fun l ρ3 e3 em=>mj em q fun n ρ4 e4 em=>mj em q fun u ρ5 e5 em =>?_
 cases em;obtain⟨e6,rfl⟩:=ie e4;refine⟨tg,F,ρ,d,ρ1,G,e1,fun v H1 F1 G1 x1 r1 =>?_⟩
 obtain⟨rfl,a,C,dx,fvs,w0,g1,g2,g3,g4,g5,g6⟩:=amn G1 hc e0;refine⟨_,g1,a,C,dx,fvs,w0,rfl,g2,g3,g4,g5,tg,F1,_,k,ρ2,G1,e2,fun w H2 F2 G2 x2 r2 =>?_⟩
 obtain⟨rfl,t,a1,xs,es1,hv',hh,hl⟩:=acn G2 e3;rw[g6] at hv';cases hv';cases ek:asI k with
 | none=>rw[ek] at e6;cases e6
 | some z =>
  rw[ek] at e6;obtain rfl:=ae6 ek;cases r2;obtain⟨G3,x3⟩:=afy G2 e5 g6 (hl.set (r1.mono x2.sub) n);exact⟨_,xs,z,n,rfl,rfl,hh,by rw[<-hl.length];exact e6,q _ _ F2 G3 ((x1.trans x2).trans x3)⟩
def dSubAugF(g:Int->Int->Int)(c:Str)(i:Nat)(f:Str)(j:Nat)(mi m:M D):Sd:=dM (mLnk c i f j) fun _=>dM mi fun k=>dM (mOwn j) fun l=>dM (lift ((asI k).bind (ixN l.length))) fun n=>dM (lift ((l[n]?).bind asI)) fun x=>dM m fun y=>dM (lift (asI y)) fun y=>dM (mOwn j) fun l2=>dM (lift (if l2.length=l.length then some () else none)) fun _=>dM (abn j (l2.set n (.int (g x y)))) fun _=>dNx
theorem ab1{g:Int->Int->Int}{op:Operator}{c f:Str}{i j:Nat}{mi m:M D}(hc:FldT K c f)(ho:PE X o (tVar i))(hi:EV K X b mi)(h:EV K X e m)(hp:PIp X op (ipI g))(hb:gC o f X.env (eval o X.env)=eval o X.env:=by rfl)
  (ha:∀ov iv new,augStore b ov iv new=(do jC [new,ov,iv] (setItem ov iv new);release [new,ov,iv] [];pure .next):=by intros;rfl):SV K X (.AugAssign (.Subscript (.Attribute o f p2) b p) op e pos) (dSubAugF g c i f j mi m):=SV.mk fun hk=>by
 subst hk;refine PS.imp (apv (ap2 ho hb) (hi rfl) am0 (h rfl) hp set_list ha) fun E σ H ⟨tg,F,ρ,fl,ρ',G,em,q⟩ =>
  mj em q fun u0 ρ0 e0 em=>mj em q fun k ρ1 e1 em=>mj em q fun l ρ2 e2 em=>mj em q fun n ρ3 e3 em=>mj em q fun x ρ4 e4 em=>mj em q fun y ρ5 e5 em=>mj em q fun y' ρ6 e6 em=>mj em q fun l2 ρ7 e7 em=>mj em q fun u ρ8 e8 em=>mj em q fun u2 ρ9 e9 em =>?_
 cases em;obtain⟨rfl,a0,C,dx,fvs,w0,h1,h2,h3,h4,h5,hv⟩:=amn G hc e0;refine⟨_,h1,a0,C,dx,fvs,w0,rfl,h2,h3,h4,h5,tg,F,_,k,ρ1,G,e1,fun w H1 F1 G1 x1 r1 =>?_⟩
 obtain⟨rfl,t1,a1,xs1,es1,hv1,hh1,hl1⟩:=acn G1 e2;rw[hv] at hv1;cases hv1;obtain⟨g3,rfl⟩:=ie e3;obtain⟨g4,rfl⟩:=ie e4;cases ek:asI k with
 | none=>rw[ek] at g3;cases g3
 | some z =>
  rw[ek] at g3;obtain rfl:=ae6 ek;cases r1;have e3:ixN l.length z=some n:=g3;cases ej:l[n]? with
  | none=>rw[ej] at g4;cases g4
  | some d =>
   rw[ej] at g4;have h4:asI d=some x:=g4;obtain rfl:=ae6 h4;obtain⟨v,ev,iv⟩:=hl1.get ej;cases iv;refine⟨_,xs1,z,.int x,rfl,rfl,SqL.of hh1,by rw[avn hl1.length.symm e3];exact ev,?_⟩
   refine⟨tg,F1,_,y,ρ5,G1,e5,fun w2 H2 F2 G2 x2 r2 =>?_⟩
   obtain⟨g6,rfl⟩:=ie e6;obtain rfl:=ae6 g6;cases r2;refine⟨x,y',rfl,rfl,?_⟩;obtain⟨rfl,t2,a2,xs2,es2,hv2,hh2,hl2⟩:=acn G2 e7;rw[hv] at hv2;cases hv2;obtain⟨g8,rfl⟩:=ie e8;split at g8
   ·rename_i hlen;obtain⟨G3,x3⟩:=afy G2 e9 hv (hl2.set (Is.int (g x y')) n);exact⟨_,xs2,z,n,rfl,rfl,hh2,by rw[<-hl2.length,hlen];exact e3,q _ _ F2 G3 ((x1.trans x2).trans x3)⟩
   ·cases g8
end
theorem _root_.L2.Inv.gh{X:Cx}{zv:List (Addr×Obj)}{σ σ2:L2.St}{H:Hp}{s:aJ}(I:Inv X zv σ H s)(hl:σ2.length=σ.length)(h:∀(i:Nat) (x:Str) (v:V),X.N[i]? = some x->σ2[i]? = some (some v)->Vis X.env.scope x->σ[i]? = some (some v)):Inv X zv σ2 H s:=by
 obtain⟨m,hm,hx⟩:=I.loc;exact⟨I.ok,I.os,I.bare,I.base,⟨m,hm,fun i x v e q vis=>hx i x v e (h i x v e q vis) vis⟩,I.cell,I.free,I.freeC,I.pin,I.hok,hl.trans I.len⟩
def GH(X:Cx)(σ σ2:L2.St):Prop:=σ2.length=σ.length/\∀(i:Nat) (x:Str) (v:V),X.N[i]? = some x->σ2[i]? = some (some v)->Vis X.env.scope x->σ[i]? = some (some v)
theorem avc{X:Cx}{ss:List Stmt}{t:TS}(h:PSs X ss t):PSs X ss (fun D σ H=>∃σ2,GH X σ σ2/\t D σ2 H):=fun zv s σ H D I ⟨σ2,g,q⟩=>h zv s σ2 H D (I.gh g.1 g.2) q
def spBx(K:Fg9)(n ng:Nat)(f:Fd):Sp:=fun vs H Q _=>vs.length=n/\∃gv:List V,gv.length=ng/\∃F as r ps,Good K (tgOf ((vs++gv).map some)) F H as ((vs++gv).map some)/\f as=some (.ok r,ps) /\
 ∀v H' F' O',Same F' H'->Ext (Own as ((vs++gv).map some)) O' F H F' H'->Fin K F' H' ((vs++gv).map some) ps O'->relR K r v H (Own as ((vs++gv).map some)) F' H' O'->Q v H'
theorem a7k{K:Fg9}{P:aZ}{w:World}{mg:Str->Option Value}{base:Heap}{x qual:Str}{st:Stmt}{f:Addr}{fd:fM}{N ps:List Str}{k nl np ng:Nat}{g:Sd}(F:Fun K x qual st f fd)(S:FnScope N ps (aj st))(h1:N.length=nl)(h2:ps.length=np)(hN:np+ng<=nl)
  (hgh:∀y∈(N.drop np).take ng,(aj st).names.lookup y=none)
  (body:∀(cdv:Value) (A:cI) (outer:List Env) (s:aJ) (H:Hp) (E:XK),Room k (A.deeper (nG qual (aj st) s.heap.objs.size f cdv))->SVs K (cxOf CX0 P w K mg base N qual (aj st) f cdv A outer s H E).nox (dh st) g) :
  FnOk P w K mg base CX0 (k+1) f fd ps (spBx K np ng (fnD nl (np+ng) g)):=by
 subst h1 h2;refine F.ok S (fun vs H Q E h=>h.1) (fun cdv A outer s H vs Q E hr h=>⟨_,avc (body cdv A outer s H E hr rfl),?_⟩)
 obtain⟨hn,gv,hg,F,as,r,ps',G,em,q⟩:=h;have hl:as.length=((vs++gv).map some).length:=G.len;have hlen:(vs++gv).length=ps.length+ng:=by rw[bM];omega
 have G1:=G.app (N.length - (ps.length+ng));refine⟨(vs++gv).map some++aD (N.length - (ps.length+ng)) none,⟨?_,?_⟩,?_⟩
 ·show _=(vs.map some++aD (N.length - vs.length) none).length;rw[bM,bM,aF,aF,bY,bY,hlen];omega
 ·intro i y v ei ev vis;show(vs.map some++aD (N.length - vs.length) none)[i]? = some (some v)
  by_cases q1:i < vs.length
  ·rw[bB (by rw[aF];exact q1)]
   rw[bB (by rw[aF,hlen];omega),aO,bB q1] at ev
   rw[aO];exact ev
  ·exfalso
   by_cases q2:i < ps.length+ng
   ·have hm:y∈(N.drop ps.length).take ng:=by
     refine cC (i:=i - ps.length) ?_;rw[gW (by omega),List.getElem?_drop,show ps.length+(i - ps.length)=i by omega]
     exact ei
    have z:=hgh y hm;rcases vis with v | v | v
    ·rw[show((cxOf CX0 P w K mg base N qual (aj st) f cdv A outer s H E).nox).env.scope=aj st from rfl,z] at v;cases v
    ·rw[show((cxOf CX0 P w K mg base N qual (aj st) f cdv A outer s H E).nox).env.scope=aj st from rfl,z] at v;cases v
    ·rw[show((cxOf CX0 P w K mg base N qual (aj st) f cdv A outer s H E).nox).env.scope=aj st from rfl,z] at v;cases v
   ·rw[cJ (by rw[aF,hlen];omega),eH] at ev
    split at ev <;> cases ev
 have fin:∀{ρ':Ro} {σ':L2.St} {F' H':Hp},Good K (tgOf ((vs++gv).map some)) F' H' ρ' σ'->Fin K F' H' ((vs++gv).map some) (ρ'.take (ps.length+ng)) (Own ρ' σ'):=fun{ρ' σ' F' H'} G'=>⟨fun i l e=>by
  have hi:=(aN.mp e).1;rw[gB] at hi;rw[gW (by omega)] at e
  obtain⟨o,ho,a,ws,rfl,hf,hh,hl,ht⟩:=G'.at e;rw[ht i rfl];exact⟨⟨i,⟨_,_,e⟩,ho⟩,hf,ws,hh,hl⟩⟩
 unfold fnD at em;split at em
 ·rename_i r' ρ' e;cases em;refine⟨_,F,_,.ret r,ρ',G1,e,fun v σ' H' F' G' x' rr =>?_⟩
  rw[aad hl] at x' rr;exact q v H' F' (Own ρ' σ') G'.sub x' (fin G') rr
 ·rename_i ρ' e;cases em;refine⟨_,F,_,.nx,ρ',G1,e,fun σ' H' F' G' x' =>?_⟩
  rw[aad hl] at x';exact q .non H' F' (Own ρ' σ') G'.sub x' (fin G') .non
 ·cases em
 ·cases em
def bxC(np:Nat)(ls vf:List Str)(fs:List (Str×(Nat ⊕ D))):Option (List (Str×(Nat ⊕ D))):=(vf.mapM fun f=>match fs.lookup f with
 | some (.inr d)=>some (f,(.inr d:Nat ⊕ D))
 | _=>none).map fun vs=>(ls.mapIdx fun n f=>(f,(.inl (np+n):Nat ⊕ D)))++vs
def lnkB(fs:List (Str×(Nat ⊕ D)))(ρ:Ro):List Str->List Nat->Bool
 | [],[]=>true
 | f::ls,j::gs=>(match fs.lookup f,ρ[j]? with
  | some (.inl k),some (.own (some k') _)=>k==k'
  | _,_=>false)&&lnkB fs ρ ls gs
 | _,_=>false
theorem ahe{np:Nat}{f:Str}{k:Nat ⊕ D}:∀{ls:List Str} {n0:Nat},(ls.mapIdx fun n g=>(g,(.inl (np+(n0+n)):Nat ⊕ D))).lookup f=some k->∃n,ls[n]? = some f/\k=.inl (np+(n0+n))
 | [],_,h=>by cases h
 | g::ls,n0,h=>by
  rw[qD] at h
  by_cases e:f=g
  ·subst e;rw[cY] at h;exact⟨0,rfl,(bW h).symm⟩
  ·have hb:(f==g)=false:=beq_eq_false_iff_ne.mpr e;simp only[bK,hb] at h;have h':(ls.mapIdx fun n g=>(g,(.inl (np+((n0+1)+n)):Nat ⊕ D))).lookup f=some k:=by
    have e2:(fun(n:Nat) (g:Str)=>(g,(.inl (np+(n0+(n+1))):Nat ⊕ D)))=fun n g=>(g,(.inl (np+((n0+1)+n)):Nat ⊕ D)):=by
     funext n g
     rw[show n0+(n+1)=n0+1+n by omega]
    rw[<-e2];exact h
   obtain⟨n,h1,h2⟩:=ahe h';exact⟨n+1,by simpa using h1,by rw[h2];congr 2;omega⟩
theorem aae{α β:Type}[BEq α]{f:α}:∀{a b:List (α×β)},(a++b).lookup f=(a.lookup f).or (b.lookup f)
 | [],b=>rfl
 | (g,x)::a,b=>by
  rw[kW];simp only[bK];split
  ·rfl
  ·exact aae
section
variable{K:Fg9}{X:Cx}{tg:Nat->Addr}{F H:Hp}{ρ:Ro}{σ:L2.St}
theorem Good.setB(G:Good K tg F H ρ σ){i:Nat}{s:Sl}(e:(ρ:List Sl)[i]? = some .emp)(hs:∀t l,s≠.own t l)(h:∀o,σ[i]? = some o->SlOk K tg F H s o):Good K tg F H (bA ρ i s) σ/\Own (bA ρ i s) σ=Own ρ σ:=by
 have sub:∀j t l,(bA ρ i s)[j]? = some (Sl.own t l)↔(ρ:List Sl)[j]? = some (Sl.own t l):=fun j t l=>by
  rw[bQ]
  by_cases hj:i=j
  ·subst hj;rw[if_pos rfl,e];constructor
   ·intro z;split at z
    ·cases z;exact absurd rfl (hs t l)
    ·cases z
   ·intro z;cases z
  ·rw[if_neg hj]
 refine⟨⟨G.sub,by rw[bC];exact G.len,fun j s' o z q =>?_,fun j k a ⟨⟨t,l,z⟩,q⟩ ⟨⟨t',l',z'⟩,q'⟩=>G.inj j k a ⟨⟨t,l,(sub _ _ _).mp z⟩,q⟩ ⟨⟨t',l',(sub _ _ _).mp z'⟩,q'⟩⟩,?_⟩
 ·rw[bQ] at z
  by_cases hj:i=j
  ·subst hj;rw[if_pos rfl] at z;split at z
   ·cases z;exact h o q
   ·cases z
  ·rw[if_neg hj] at z;exact G.sl j s' o z q
 ·funext a
  refine propext ⟨fun⟨j,⟨t,l,z⟩,q⟩=>⟨j,⟨t,l,(sub _ _ _).mp z⟩,q⟩,fun⟨j,⟨t,l,z⟩,q⟩=>⟨j,⟨t,l,(sub _ _ _).mpr z⟩,q⟩⟩
theorem aqh{js:List (Option Nat)}{ds:List (Option D)}{vs gv:List V}{gs:List Nat}{a:Addr}(ar:AR K F σ js ds vs)(hg:gv.length=gs.length)(hgv:∀(n j:Nat) (v:V),gs[n]? = some j->gv[n]? = some v->σ[j]? = some (some v)) :
  Lent K F σ ((V.ref a::(vs++gv)).map some) (none::(js++gs.map some)) (none::(ds++gs.map fun _=>none)):=by
 have L:=ar.lent;have l0:=ar.length;have l2:=L.l2;refine⟨by simp[hg,l0],by simp[l2],fun i j o h q =>?_,fun i d h q =>?_⟩
 ·cases i with
  | zero=>cases h
  | succ i =>
   rw[gD] at h;rw[aU,gD,aO]
   by_cases hi:i < js.length
   ·rw[bB hi] at h;have z:=L.h1 i j o h q;rw[aO] at z;rw[bB (by omega)]
    exact z
   ·rw[cJ (by omega),aO] at h
    obtain⟨j',hj,e⟩:=bH.mp h;cases e;rw[cJ (by omega),l0]
    have hlt:i - js.length < gv.length:=by rw[hg];exact(aN.mp hj).1
    have z:=hgv _ _ _ hj (aC hlt);rw[q] at z;rw[aC hlt];exact z.symm▸rfl
 ·cases i with
  | zero=>cases q
  | succ i =>
   rw[gD] at h q;rw[aU,gD,aO]
   by_cases hi:i < js.length
   ·rw[bB hi] at h;rw[bB (by omega)] at q
    obtain⟨v,hv,iv⟩:=L.h2 i d h q;rw[aO] at hv;rw[bB (by omega)]
    exact⟨v,hv,iv⟩
   ·rw[cJ (by omega),aO] at h
    obtain⟨j',_,e⟩:=bH.mp h;cases e
theorem ale{fs:List (Str×(Nat ⊕ D))}:∀{ls:List Str} {gs:List Nat} {n:Nat} {f:Str},lnkB fs ρ ls gs=true->ls[n]? = some f->∃j k l,gs[n]? = some j/\fs.lookup f=some (.inl k)/\(ρ:List Sl)[j]? = some (.own (some k) l)
 | [],_,n,f,_,h=>by simp at h
 | g::ls,[],n,f,hb,_=>by simp[lnkB] at hb
 | g::ls,j::gs,n,f,hb,h=>by
  unfold lnkB at hb;rw[bF] at hb;cases n with
  | zero =>
   simp at h;subst h;obtain⟨h1,_⟩:=hb;split at h1
   ·rename_i k k' l e1 e2;have:k=k':=by simpa using h1
    subst this;exact⟨j,k,l,rfl,e1,e2⟩
   ·cases h1
  | succ n =>
   obtain⟨j',k,l,h1,h2,h3⟩:=ale (n:=n) hb.2 (by simpa using h)
   exact⟨j',k,l,by simpa using h1,h2,h3⟩
theorem amo{fs:List (Str×(Nat ⊕ D))}:∀{ls:List Str} {gs:List Nat},lnkB fs ρ ls gs=true->ls.length=gs.length
 | [],[],_=>rfl
 | [],_::_,h=>by simp[lnkB] at h
 | _::_,[],h=>by simp[lnkB] at h
 | g::ls,j::gs,h=>by
  unfold lnkB at h;rw[bF] at h;rw[bO,bO,amo h.2]
theorem av7{fs:List (Str×(Nat ⊕ D))}:∀{vf:List Str} {vs:List (Str×(Nat ⊕ D))},(vf.mapM fun f=>match fs.lookup f with
 | some (.inr d)=>some (f,(.inr d:Nat ⊕ D))
 | _=>none)=some vs->∀f x,vs.lookup f=some x->∃d,x=.inr d/\fs.lookup f=some (.inr d)
 | [],vs,h,f,x,hx=>by
  simp at h;subst h;cases hx
 | g::vf,vs,h,f,x,hx=>by
  rw[wM] at h;obtain⟨y,h1,h2⟩:=jP.mp h;obtain⟨ys,h3,h4⟩:=jP.mp h2;cases h4;split at h1
  ·rename_i d hd;cases h1
   by_cases e:f=g
   ·subst e;rw[cY] at hx;cases hx;exact⟨d,rfl,hd⟩
   ·have hb:(f==g)=false:=beq_eq_false_iff_ne.mpr e;simp only[bK,hb] at hx;exact av7 h3 f x hx
  ·cases h1
end
theorem amz{np:Nat}{f:Str}:∀{ls:List Str} {n0:Nat},(ls.mapIdx fun n g=>(g,(.inl (np+(n0+n)):Nat ⊕ D))).lookup f=none->f∉ls
 | [],_,_=>cQ
 | g::ls,n0,h=>by
  rw[qD] at h
  by_cases e:f=g
  ·subst e;rw[cY] at h;cases h
  ·have hb:(f==g)=false:=beq_eq_false_iff_ne.mpr e;simp only[bK,hb] at h;have h':(ls.mapIdx fun n g=>(g,(.inl (np+((n0+1)+n)):Nat ⊕ D))).lookup f=none:=by
    have e2:(fun(n:Nat) (g:Str)=>(g,(.inl (np+(n0+(n+1))):Nat ⊕ D)))=fun n g=>(g,(.inl (np+((n0+1)+n)):Nat ⊕ D)):=by
     funext n g
     rw[show n0+(n+1)=n0+1+n by omega]
    rw[<-e2];exact h
   intro hm;rcases aY.mp hm with z | z
   ·exact e z
   ·exact amz h' z
theorem ao5{fs:List (Str×(Nat ⊕ D))}:∀{vf:List Str} {vs:List (Str×(Nat ⊕ D))},(vf.mapM fun f=>match fs.lookup f with
 | some (.inr d)=>some (f,(.inr d:Nat ⊕ D))
 | _=>none)=some vs->∀f,vs.lookup f=none->f∉vf
 | [],vs,h,f,hx=>cQ
 | g::vf,vs,h,f,hx=>by
  rw[wM] at h;obtain⟨y,h1,h2⟩:=jP.mp h;obtain⟨ys,h3,h4⟩:=jP.mp h2;cases h4;split at h1
  ·rename_i d hd;cases h1
   by_cases e:f=g
   ·subst e;rw[cY] at hx;cases hx
   ·have hb:(f==g)=false:=beq_eq_false_iff_ne.mpr e;simp only[bK,hb] at hx;intro hm;rcases aY.mp hm with z | z
    ·exact e z
    ·exact ao5 h3 f hx z
  ·cases h1
theorem aj0{ls vf:List Str}{f:Str}:∀{fs:List (Str×(Nat ⊕ D))},fs.all (fun p=>ls.contains p.1||vf.contains p.1)=true->f∉ls->f∉vf->fs.lookup f=none
 | [],_,_,_=>rfl
 | (g,x)::fs,h,h1,h2=>by
  rw[iZ,bF] at h;have e:f≠g:=fun z=>by
   subst z;rcases(rD _ _).mp h.1 with z | z
   ·exact h1 (kE.mp z)
   ·exact h2 (kE.mp z)
  have hb:(f==g)=false:=beq_eq_false_iff_ne.mpr e;simp only[bK,hb];exact aj0 h.2 h1 h2
structure DfnM (P:aZ) (w:World) (K:Fg9) (mg:Str->Option Value) (base:Heap) (c m:Str) (ps:List Str) (k:Nat) (sp:Sp):Prop where
 ex:∃C f fd,nsIn K aP c=some (some (.ref C))/\Cls K C/\Meth K C m f/\FnOk P w K mg base CX0 k f fd ps sp/\Binds K fd ps []
def mIsB(c:Str)(i:Nat)(m:Str):M (List (Str×(Nat ⊕ D))):=fun ρ=>match ρ[i]? with
 | some (.box c' fs)=>if c'=c/\(fs.lookup m).isNone=true then some (.ok fs,ρ) else none
 | _=>none
def afz(c:Str)(i:Nat)(m:Str)(ls vf:List Str)(gs:List Nat)(f:Fd)(js:List (Option Nat))(ms:M (List (Option D))):M Rv:=(mIsB c i m).bind fun _=>ms.bind fun ds=>(mIsB c i m).bind fun fs ρ =>
 if lnkB fs ρ ls gs=true/\okJs ρ (none::(js++gs.map some))=true/\fs.all (fun p=>ls.contains p.1||vf.contains p.1)=true then match bxC (1+js.length) ls vf fs with
  | some fc=>match f (bA (lend ρ (none::(js++gs.map some)) (none::(ds++gs.map fun _=>none))) 0 (.box c fc)) with
   | some (.ok r,ps)=>some (.ok r,putB ρ (none::(js++gs.map some)) ps)
   | _=>none
  | none=>none
 else none
theorem avp{K:Fg9}{tg:Nat->Addr}{F H:Hp}{ρ ρ':Ro}{σ:L2.St}(G:Good K tg F H ρ σ){c m:Str}{i:Nat}{fs:List (Str×(Nat ⊕ D))}(em:mIsB c i m ρ=some (.ok fs,ρ')) :
  ρ'=ρ/\(ρ:List Sl)[i]? = some (.box c fs)/\∃a C dx fvs,σ[i]? = some (some (.ref a))/\F a=none/\H a=some (.ins C dx fvs)/\nsIn K aP c=some (some (.ref C))/\(∀f,fs.lookup f=none->fvs.lookup f=none)/\fvs.lookup m=none/\(∀f k,fs.lookup f=some (.inl k)->fvs.lookup f=some (.ref (tg k)))/\∀f d,fs.lookup f=some (.inr d)->∃v,fvs.lookup f=some v/\Is K F d v:=by
 unfold mIsB at em;split at em
 ·rename_i c' fs' ei;split at em
  ·rename_i hz;obtain⟨rfl,hm⟩:=hz;cases em;obtain⟨oi,hoi,a,C,dx,fvs,rfl,hf,hh,hn,h0,h1,h2⟩:=G.at ei;exact⟨rfl,ei,a,C,dx,fvs,hoi,hf,hh,hn,h0,h0 m (rO.mp hm),h1,h2⟩
  ·cases em
 ·cases em
theorem aq9{K:Fg9}{X:Cx}{o e:Expr}{es:List Expr}{apos pos:Pos}{c m:Str}{i k n ng:Nat}{ls vf:List Str}{gs:List Nat}{f:Fd}{ps:List Str}{js:List (Option Nat)}{ms:M (List (Option D))}
  (D:DfnM X.prog X.w X.K X.mg X.base c m ps k (spBx K n ng f)) (hr:Room k X.A) (ho:PE X o (tVar i)) (ha:EG K X (e::es) js ms) (hn:1+js.length=n:=by rfl) (hng:gs.length=ng:=by rfl) {pl:Sem Bool}
  (hst:aW (e::es) X.env=(false,eval e X.env)::aW es X.env:=by rfl) (hpl:(jA pos (aW es X.env)).any (·.1)=false:=by rfl)
  (ht:eval (.Call (.Attribute o m apos) (e::es) [] pos) X.env=(do
   let ov <-eval o X.env
   standAt apos.atName
   let (f,first) <-jC [ov] (getMethod ov m pl)
   callWith pos f first (jA pos (aW (e::es) X.env)) (backToKw pos (keywordEach [] X.env))):=by rfl) :
  ER K X (.Call (.Attribute o m apos) (e::es) [] pos) (afz c i m ls vf gs f js ms):=ER.mk fun hk=>by
 obtain⟨C,fa,fd,hC,hcl,hme,hF,hB⟩:=D.ex;refine PE.imp (aw6 (pl:=pl) ho hcl hme hF hr hB .nil axe (ha hk) hst hpl ht) fun σ H Q ⟨tg,F,ρ,r,ρ',G,em,q⟩ =>?_
 obtain⟨fs0,ρ0,e0,em1⟩:=bc em
 clear em
 obtain⟨ds,ρ1,e1,em2⟩:=bc em1
 clear em1
 obtain⟨fs,ρ2,e2,em⟩:=bc em2
 clear em2
 obtain⟨rfl,_,a0,C0,dx0,fvs0,z1,z2,z3,z4,z5,z6,z7,z8⟩:=avp G e0;subst hk;rw[hC] at z4;cases z4;refine⟨_,z1,a0,dx0,fvs0,rfl,z3,z6,tg,F,ρ0,ds,ρ1,G,e1,fun vs H1 F1 G1 x1 ar =>?_⟩
 obtain⟨rfl,ei,a,C1,dx,fvs,y1,y2,y3,y4,y5,y6,y7,y8⟩:=avp G1 e2;rw[z1] at y1;cases y1;split at em
 ·rename_i hz;obtain⟨hl,hj,hky⟩:=hz;split at em
  ·rename_i fc hfc;split at em
   ·rename_i r' ps' e3;cases em;have hlen:=amo hl;have hgv:∃gv:List V,gv.length=gs.length/\∀(nn j:Nat) (v:V),gs[nn]? = some j->gv[nn]? = some v->σ[j]? = some (some v):=by
     refine⟨gs.map fun j=>match σ[j]? with | some (some v)=>v | _=>.non,by rw[aF],fun nn j v g1 g2 =>?_⟩
     rw[aO,g1] at g2;have hlt:nn < ls.length:=by rw[hlen];exact(aN.mp g1).1
     obtain⟨j',k',l',h1,h2,h3⟩:=ale hl (aC hlt);rw[g1] at h1;cases h1;obtain⟨o',ho',b,ws,rfl,_⟩:=G1.at h3;have g2:some (match σ[j]? with | some (some v)=>v | _=>V.non)=some v:=g2
     rw[ho'] at g2;cases g2;exact ho'
    obtain⟨gv,hgl,hgv⟩:=hgv;have L:=aqh (a:=a0) ar hgl hgv;have Gl:=ado G1 hj L;have vl:=ar.length;have hb0:(lend ρ2 (none::(js++gs.map some)) (none::(ds++gs.map fun _=>none)):List Sl)[0]? = some .emp:=by
     unfold lend;rw[List.zip_cons_cons,qD];rfl
    have hsl:∀o',((V.ref a0::(vs++gv)).map some)[0]? = some o'->SlOk X.K (tgOf ((V.ref a0::(vs++gv)).map some)) F1 H1 (.box c fc) o':=fun o' ho'=>by
     cases ho';unfold bxC at hfc;obtain⟨vv,hv1,hv2⟩:=bH.mp hfc;subst hv2;have idx:∀f x,(ls.mapIdx fun nn g=>(g,(.inl (1+js.length+nn):Nat ⊕ _root_.Dn.D))).lookup f=some x->∃nn,ls[nn]? = some f/\x=.inl (1+js.length+nn):=fun f x hx=>by
      obtain⟨nn,h1,h2⟩:=ahe (np:=1+js.length) (n0:=0) (by simpa using hx)
      exact⟨nn,h1,by simpa using h2⟩
     refine⟨a0,C1,dx,fvs,rfl,y2,y3,y4,fun f hf =>?_,fun f kk hf =>?_,fun f d hf =>?_⟩
     ·-- nothing else
      refine y5 f ?_;rw[aae] at hf;cases hq:(ls.mapIdx fun nn g=>(g,(.inl (1+js.length+nn):Nat ⊕ _root_.Dn.D))).lookup f with
      | none =>
       rw[hq] at hf;exact aj0 hky (amz (np:=1+js.length) (n0:=0) (by simpa using hq)) (ao5 hv1 f hf)
      | some x=>rw[hq] at hf;cases hf
     ·rw[aae] at hf;cases hq:(ls.mapIdx fun nn g=>(g,(.inl (1+js.length+nn):Nat ⊕ _root_.Dn.D))).lookup f with
      | none =>
       rw[hq] at hf;obtain⟨d,hd,_⟩:=av7 hv1 f _ hf;cases hd
      | some x =>
       rw[hq] at hf;cases hf;obtain⟨nn,h1,h2⟩:=idx f _ hq;cases h2;obtain⟨j,k',l',g1,g2,g3⟩:=ale hl h1;obtain⟨oj,hoj,b,ws,rfl,_,_,_,ht'⟩:=G1.at g3;rw[y7 f k' g2,ht' k' rfl];have hlt:nn < gv.length:=by rw[hgl];exact(aN.mp g1).1
       have e5:=hgv nn j _ g1 (aC hlt);rw[hoj] at e5;have e6:gv[nn]? = some (V.ref b):=by rw[aC hlt];exact bW e5.symm▸rfl
       have e7:((V.ref a0::(vs++gv)).map some)[1+js.length+nn]? = some (some (.ref b)):=by
        rw[aO,show 1+js.length+nn=(js.length+nn)+1 by omega,gD,cJ (by omega),show js.length+nn - vs.length=nn by omega,e6]
        rfl
       unfold tgOf;rw[e7]
     ·rw[aae] at hf;cases hq:(ls.mapIdx fun nn g=>(g,(.inl (1+js.length+nn):Nat ⊕ _root_.Dn.D))).lookup f with
      | none =>
       rw[hq] at hf;obtain⟨d',hd,hd2⟩:=av7 hv1 f _ hf;cases hd;exact y8 f d hd2
      | some x =>
       rw[hq] at hf;cases hf;obtain⟨nn,h1,h2⟩:=idx f _ hq;cases h2
    obtain⟨Gb,hO⟩:=Gl.setB hb0 (fun t l z=>by cases z) hsl
    show spBx X.K n ng f (V.ref a0::(vs++[])) H1 Q E0;rw[cZ];refine⟨by rw[bO,vl];omega,gv,hgl.trans hng,F1,_,r,ps',Gb,e3,fun v H' F' O' s' x' fin rr =>?_⟩
    have hO':Own (bA (lend ρ2 (none::(js++gs.map some)) (none::(ds++gs.map fun _=>none))) 0 (Sl.box c fc)) ((V.ref a0::vs++gv).map some)=Own (lend ρ2 (none::(js++gs.map some)) (none::(ds++gs.map fun _=>none))) ((V.ref a0::(vs++gv)).map some):=hO
    rw[hO'] at x' rr;exact q v H' F' (ad0 G1 L x' s' fin) (x1.trans (afe G1 L x')) (n8 x1 (air G1 L fin rr))
   ·cases em
  ·cases em
 ·cases em
def ap8:Sl->Bool
 | .box _ _=>false
 | _=>true
section
variable{K:Fg9}{X:Cx}{tg:Nat->Addr}{F H F1 H1:Hp}{O O1:Addr->Prop}{ρ:Ro}{σ:L2.St}
theorem Good.updN(G:Good K tg F H ρ σ)(hb:(ρ:List Sl).all ap8=true){d:Addr}(hf:F d=none)(hn:¬Own ρ σ d)(o:HO):Good K tg F (L2.upd H d o) ρ σ where
 sub:=fun b u e=>by
  have hb:b≠d:=fun z=>by subst z;rw[hf] at e;cases e
  rw[di hb];exact G.sub b u e
 len:=G.len
 inj:=G.inj
 sl:=fun i s o' e q=>by
  have z:=G.sl i s o' e q;cases s with
  | emp=>trivial
  | val _=>exact z
  | box c fs=>exact absurd (fP.mp hb _ (cC e)) (by simp[ap8])
  | own t l =>
   obtain⟨a,vs,e1,f,e2,h,ht⟩:=z;have ha:a≠d:=fun z=>hn (z▸⟨i,⟨t,l,e⟩,by rw[q,e1]⟩)
   exact⟨a,vs,e1,f,by rw[di ha];exact e2,h,ht⟩
inductive FdR (K:Fg9) (F H:Hp) (O:Addr->Prop):List (Str×Rv)->List (Str×V)->List Addr->Prop
 | nil:FdR K F H O [] [] []
 | v {f:Str} {d:D} {v:V} {rs:List (Str×Rv)} {fvs:List (Str×V)} {A:List Addr} (h:Is K F d v) (t:FdR K F H O rs fvs A):FdR K F H O ((f,.v d)::rs) ((f,v)::fvs) A
 | fr {f:Str} {l:List D} {e:Addr} {ws:List V} {rs:List (Str×Rv)} {fvs:List (Str×V)} {A:List Addr} (hf:F e=none) (hn:¬O e) (hh:H e=some (.lst ws)) (h:IsL K F l ws) (ne:e∉A) (t:FdR K F H O rs fvs A):FdR K F H O ((f,.fr l)::rs) ((f,.ref e)::fvs) (e::A)
theorem FdR.step{rs:List (Str×Rv)}{fvs:List (Str×V)}{A:List Addr}(h:FdR K F H O rs fvs A)(x:Ext O O1 F H F1 H1):FdR K F1 H1 O1 rs fvs A:=by
 induction h with
 | nil=>exact .nil
 | v h t ih=>exact .v (h.mono x.sub) ih
 | @fr f l e ws rs fvs A hf hn hh h ne t ih =>
  refine .fr ?_ (fun z =>?_) (x.keep e _ hh hn) (h.mono x.sub) ne ih
  ·cases z:F1 e with
   | none=>rfl
   | some o =>
    rcases x.new e o z with z | z | z
    ·rw[hf] at z;cases z
    ·rw[hh] at z;cases z
    ·exact absurd z hn
  ·rcases x.own e z with z | z
   ·exact hn z
   ·rw[hh] at z;cases z
theorem FdR.out{rs:List (Str×Rv)}{fvs:List (Str×V)}{A:List Addr}(h:FdR K F H O rs fvs A):∀e∈A,¬O e/\F e=none/\∃ws,H e=some (.lst ws)/\∃l,IsL K F l ws:=by
 induction h with
 | nil=>exact fun e he=>absurd he cQ
 | v h t ih=>exact ih
 | @fr f l e ws rs fvs A hf hn hh h ne t ih =>
  intro e' he;rcases aY.mp he with rfl | he
  ·exact⟨hn,hf,ws,hh,l,h⟩
  ·exact ih e' he
theorem FdR.upd{rs:List (Str×Rv)}{fvs:List (Str×V)}{A:List Addr}{d:Addr}{o:HO}(h:FdR K F H O rs fvs A)(hd:d∉A):FdR K F (L2.upd H d o) O rs fvs A:=by
 induction h with
 | nil=>exact .nil
 | v h t ih=>exact .v h (ih hd)
 | @fr f l e ws rs fvs A hf hn hh h ne t ih =>
  have h1:d≠e/\d∉A:=⟨fun q=>hd (q▸List.mem_cons_self ..),fun q=>hd (aL _ q)⟩
  exact .fr hf hn (by rw[di (iI h1.1)];exact hh) h ne (ih h1.2)
theorem FdR.snocV{rs:List (Str×Rv)}{fvs:List (Str×V)}{A:List Addr}(h:FdR K F H O rs fvs A){f:Str}{d:D}{v:V}(hd:Is K F d v):FdR K F H O (rs++[(f,.v d)]) (fvs++[(f,v)]) A:=by
 induction h with
 | nil=>exact .v hd .nil
 | v h t ih=>exact .v h ih
 | fr hf hn hh h ne t ih=>exact .fr hf hn hh h ne ih
theorem FdR.snocF{rs:List (Str×Rv)}{fvs:List (Str×V)}{A:List Addr}(h:FdR K F H O rs fvs A){f:Str}{l:List D}{e:Addr}{ws:List V}(h1:F e=none)(h2:¬O e)(h3:H e=some (.lst ws))(h4:IsL K F l ws)(h5:e∉A):FdR K F H O (rs++[(f,.fr l)]) (fvs++[(f,.ref e)]) (A++[e]):=by
 induction h with
 | nil=>exact .fr h1 h2 h3 h4 cQ .nil
 | v h t ih=>exact .v h (ih h5)
 | @fr f' l' e' ws' rs fvs A hf hn hh h ne t ih =>
  have z:e≠e'/\e∉A:=⟨fun q=>h5 (q▸List.mem_cons_self ..),fun q=>h5 (aL _ q)⟩
  refine .fr hf hn hh h (fun q =>?_) (ih z.2)
  rcases cO.mp q with q | q
  ·exact ne q
  ·rw[cV] at q;exact z.1 q.symm
theorem ah0{f:Str}{y:V}:∀{fs:List (Str×V)},fs.lookup f=none->putF f y fs=fs++[(f,y)]
 | [],_=>rfl
 | (g,x)::r,h=>by
  by_cases e:f=g
  ·subst e;rw[cY] at h;cases h
  ·have hb:(f==g)=false:=beq_eq_false_iff_ne.mpr e;simp only[bK,hb] at h;show(if g=f then (g,y)::r else (g,x)::putF f y r)=_
   rw[if_neg (iI e),ah0 h];rfl
def Oa(ρ:Ro)(σ:L2.St)(a:Addr)(A:List Addr):Addr->Prop:=fun z=>Own ρ σ z∨z=a∨z∈A
def iniD:List (Str×M Rv)->Ro->Option (List (Str×Rv)×Ro)
 | [],ρ=>some ([],ρ)
 | (f,m)::r,ρ=>match m ρ with
  | some (.ok (.v d),ρ1)=>if (ρ1:List Sl).all ap8=true then (iniD r ρ1).map fun p=>((f,.v d)::p.1,p.2) else none
  | some (.ok (.fr l),ρ1)=>if (ρ1:List Sl).all ap8=true then (iniD r ρ1).map fun p=>((f,.fr l)::p.1,p.2) else none
  | _=>none
def TSi(K:Fg9)(C:Addr)(fms:List (Str×M Rv)):TS:=fun D σ H=>∃tg F ρ a dx rs0 fvs0 A0 rs ρ',Good K tg F H ρ σ/\σ[0]? = some (some (.ref a))/\H a=some (.ins C dx fvs0)/\F a=none/\FdR K F H (Own ρ σ) rs0 fvs0 A0/\fvs0.length+fms.length < 1000 /\
 (∀f∈fms.map (·.1),fvs0.lookup f=none)/\(fms.map (·.1)).Nodup/\iniD fms ρ=some (rs,ρ') /\
 ∀H' F' fvs A,Good K tg F' H' ρ' σ->H' a=some (.ins C dx fvs)->F' a=none->FdR K F' H' (Own ρ' σ) (rs0++rs) fvs A->Ext (Oa ρ σ a A0) (Oa ρ' σ a A) F H F' H'->D.nx σ H'
structure SI (K:Fg9) (X:Cx) (C:Addr) (ss:List Stmt) (fms:List (Str×M Rv)):Prop where
 go:X.K=K->PSs X ss (TSi K C fms)
theorem azw{C:Addr}:SI K X C [] []:=SI.mk fun _=>PSs.imp apu fun D σ H hq0=>by
 obtain⟨tg,F,ρ,a,dx,rs0,fvs0,A0,rs,ρ',G,h0,h1,h2,h3,h4,h5,h6,em,q⟩:=hq0;cases em;exact q H F fvs0 A0 G h1 h2 (by rw[cZ];exact h3) (Ext.refl _ _ _)
theorem Ext.oa{ρ1:Ro}{a:Addr}{A A1:List Addr}{o:HO}(x:Ext (Own ρ σ) (Own ρ1 σ) F H F1 H1)(hA:∀z∈A1,z∈A∨Own ρ σ z∨H z=none):Ext (Oa ρ σ a A) (Oa ρ1 σ a A1) F H F1 (L2.upd H1 a o) where
 sub:=x.sub
 new:=fun z u e=>(x.new z u e).imp id fun h=>h.imp id .inl
 keep:=fun z u e n=>by
  have hz:z≠a:=fun q=>n (.inr (.inl q))
  rw[di hz];exact x.keep z u e fun q=>n (.inl q)
 own:=fun z h=>by
  rcases h with h | h | h
  ·exact(x.own z h).imp .inl id
  ·exact .inl (.inr (.inl h))
  ·rcases hA z h with q | q | q
   ·exact .inl (.inr (.inr q))
   ·exact .inl (.inl q)
   ·exact .inr q
 there:=fun z h=>by
  by_cases hz:z=a
  ·subst hz;rw[je] at h;cases h
  ·rw[di hz] at h;exact x.there z h
theorem afo{C:Addr}{o e:Expr}{f:Str}{p2 pos:Pos}{m:M Rv}{ss:List Stmt}{fms:List (Str×M Rv)}(hcl:Cls K C)(hna:acu K C f)(hv:ER K X e m)(ho:PE X o (tVar 0))(t:SI K X C ss fms)(hs:lB e (some (.Attribute o f p2)) pos.line X.env=pure false:=by rfl) :
  SI K X C (.Assign [.Attribute o f p2] e pos::ss) ((f,m)::fms):=SI.mk fun hk=>by
 subst hk;refine PSs.imp (ah2 (a0e ho (hv.go rfl) hs) (t.go rfl)) fun D σ H ⟨tg,F,ρ,a,dx,rs0,fvs0,A0,rs,ρ',G,h0,h1,h2,h3,h4,h5,h6,em,q⟩ =>?_
 have hlk:fvs0.lookup f=none:=h5 f (aR ..);rw[aU,lD] at h6;have h5':∀(y:V),∀g∈fms.map (·.1),(fvs0++[(f,y)]).lookup g=none:=fun y g hg=>by
  rw[aae,h5 g (aL _ hg)];have e:g≠f:=fun z=>h6.1 (z▸hg)
  have hb:(g==f)=false:=beq_eq_false_iff_ne.mpr e;simp[bK,hb]
 have h4':∀y:V,(fvs0++[(f,y)]).length+fms.length < 1000:=fun y=>by
  rw[bM];rw[bO] at h4;simp;omega
 have stay:∀{ρ1:Ro} {F1 H1:Hp},Ext (Own ρ σ) (Own ρ1 σ) F H F1 H1->H1 a=some (.ins C dx fvs0)/\F1 a=none/\¬Own ρ1 σ a:=fun{ρ1 F1 H1} x=>by
  have no:¬Own ρ σ a:=fun z=>by
   obtain⟨_,vs,hv⟩:=G.ownAt z;rw[h1] at hv;cases hv
  refine⟨x.keep a _ h1 no,?_,fun z =>?_⟩
  ·cases z:F1 a with
   | none=>rfl
   | some u =>
    rcases x.new a u z with z | z | z
    ·rw[h2] at z;cases z
    ·rw[h1] at z;cases z
    ·exact absurd z no
  ·rcases x.own a z with z | z
   ·exact no z
   ·rw[h1] at z;cases z
 have hA0:a∉A0:=fun z=>by
  obtain⟨_,_,ws,hw,_⟩:=h3.out a z;rw[h1] at hw;cases hw
 unfold iniD at em;split at em
 ·rename_i d ρ1 e1;split at em
  ·rename_i hb;obtain⟨⟨rs1,ρ2⟩,e2,e3⟩:=bH.mp em;cases e3;refine⟨tg,F,ρ,.v d,ρ1,G,e1,fun y H1 F1 G1 x1 rr=>⟨_,h0,a,C,dx,fvs0,rfl,(stay x1).1,hcl,hna,by omega,?_⟩⟩
   obtain⟨s1,s2,s3⟩:=stay x1;have rr:Is X.K F1 d y:=rr;rw[ah0 hlk];refine⟨tg,F1,ρ1,a,dx,rs0++[(f,.v d)],fvs0++[(f,y)],A0,rs1,ρ2,G1.updN hb s2 s3 _,h0,je,s2,((h3.step x1).snocV rr).upd hA0,h4' y,h5' y,h6.2,e2,fun H' F' fvs A G' g1 g2 g3 g4=>q H' F' fvs A G' g1 g2 (by rw[fX] at g3;exact g3) ((Ext.oa (o:=.ins C dx (fvs0++[(f,y)])) x1 fun z hz=>.inl hz).trans g4)⟩
  ·cases em
 ·rename_i l ρ1 e1;split at em
  ·rename_i hb;obtain⟨⟨rs1,ρ2⟩,e2,e3⟩:=bH.mp em;cases e3;refine⟨tg,F,ρ,.fr l,ρ1,G,e1,fun y H1 F1 G1 x1 rr=>⟨_,h0,a,C,dx,fvs0,rfl,(stay x1).1,hcl,hna,by omega,?_⟩⟩
   obtain⟨s1,s2,s3⟩:=stay x1;obtain⟨b,ws,rfl,hb1,hb2,hb3,hb4,hb5⟩:=rr;have hbA:b∉A0:=fun z=>by
    obtain⟨o1,_,ws',hw,_⟩:=h3.out b z;rcases hb1 with q | q
    ·rw[hw] at q;cases q
    ·exact o1 q
   have hba:a≠b:=fun z=>by
    subst z;rw[s1] at hb3;cases hb3
   rw[ah0 hlk];refine⟨tg,F1,ρ1,a,dx,rs0++[(f,.fr l)],fvs0++[(f,.ref b)],A0++[b],rs1,ρ2,G1.updN hb s2 s3 _,h0,je,s2,((h3.step x1).snocF hb2 hb5 hb3 hb4 hbA).upd (fun z=>by
    rcases cO.mp z with z | z
    ·exact hA0 z
    ·rw[cV] at z;exact hba z),h4' _,h5' _,h6.2,e2,fun H' F' fvs A G' g1 g2 g3 g4=>q H' F' fvs A G' g1 g2 (by rw[fX] at g3;exact g3) ((Ext.oa (o:=.ins C dx (fvs0++[(f,.ref b)])) x1 fun z hz =>?_).trans g4)⟩
   rcases cO.mp hz with q | q
   ·exact .inl q
   ·rw[cV] at q;subst q;exact .inr hb1.symm
  ·cases em
 ·cases em
end
def ak1(K:Fg9)(n nl:Nat)(fms:List (Str×M Rv))(C:Addr):Sp:=fun vs H Q _=>vs.length=n/\∃a dx F as rs ρ',vs[0]? = some (.ref a)/\H a=some (.ins C dx [])/\F a=none/\Good K (tgOf (vs.map some)) F H as (vs.map some)/\iniD fms (as++aD (nl - n) .emp)=some (rs,ρ') /\
 ∀H' F' fvs A O',Same F' H'->H' a=some (.ins C dx fvs)->F' a=none->FdR K F' H' O' rs fvs A->Ext (fun z=>Own as (vs.map some) z∨z=a) (fun z=>O' z∨z=a∨z∈A) F H F' H'->Fin K F' H' (vs.map some) (ρ'.take n) O'->Q .non H'
theorem a2b{K:Fg9}{P:aZ}{w:World}{mg:Str->Option Value}{base:Heap}{x qual:Str}{st:Stmt}{f:Addr}{fd:fM}{N ps:List Str}{k nl np:Nat}{fms:List (Str×M Rv)}{C:Addr}(F:Fun K x qual st f fd)(S:FnScope N ps (aj st))(h1:N.length=nl)(h2:ps.length=np)
  (hnd:(fms.map (·.1)).Nodup) (hsz:fms.length < 1000)
  (body:∀(cdv:Value) (A:cI) (outer:List Env) (s:aJ) (H:Hp) (E:XK),Room k (A.deeper (nG qual (aj st) s.heap.objs.size f cdv))->SI K (cxOf CX0 P w K mg base N qual (aj st) f cdv A outer s H E).nox C (dh st) fms) :
  FnOk P w K mg base CX0 (k+1) f fd ps (ak1 K np nl fms C):=by
 subst h1 h2;refine F.ok S (fun vs H Q E h=>h.1) (fun cdv A outer s H vs Q E hr h=>⟨_,(body cdv A outer s H E hr).go rfl,?_⟩)
 obtain⟨hn,a,dx,F,as,rs,ρ',h0,hH,hF,G,em,q⟩:=h;have hl:as.length=(vs.map some).length:=G.len;have G1:=G.app (N.length - vs.length);rw[<-hn] at em;have hs0:(L2.start N vs)[0]? = some (some (.ref a)):=by
  unfold L2.start;have hlt:0 < vs.length:=(aN.mp h0).1;rw[bB (by rw[aF];exact hlt),aO,h0]
  rfl
 refine⟨_,F,_,a,dx,[],[],[],rs,ρ',G1,hs0,hH,hF,.nil,by simpa using hsz,fun _ _=>rfl,hnd,em,fun H' F' fvs A' G' g1 g2 g3 g4 =>?_⟩
 refine q H' F' fvs A' (Own ρ' (L2.start N vs)) G'.sub g1 g2 g3 ?_ ⟨fun i l e =>?_⟩
 ·have e:Oa (as++aD (N.length - vs.length) .emp) (L2.start N vs) a []=fun z=>Own as (vs.map some) z∨z=a:=by
   funext z
   unfold Oa L2.start;rw[aad hl];simp
  rw[e] at g4;exact g4
 ·have hi:=(aN.mp e).1;rw[gB] at hi;rw[gW (by omega)] at e
  obtain⟨o,ho,b,ws,rfl,hf,hh,hl,ht⟩:=G'.at e;rw[ht i rfl];exact⟨⟨i,⟨_,_,e⟩,ho⟩,hf,ws,hh,hl⟩
def tagB:Sl->Bool
 | .own (some k) _=>decide (k < 1000)
 | .box _ _=>false
 | _=>true
section
variable{K:Fg9}{X:Cx}{tg tg1:Nat->Addr}{F H F1 H1:Hp}{ρ:Ro}{σ:L2.St}
theorem Good.retag(G:Good K tg F H ρ σ)(hb:(ρ:List Sl).all tagB=true)(h:∀k,k < 1000->tg k=tg1 k):Good K tg1 F H ρ σ where
 sub:=G.sub
 len:=G.len
 inj:=G.inj
 sl:=fun i s o e q=>by
  have z:=G.sl i s o e q;have t:=fP.mp hb _ (cC e);cases s with
  | emp=>trivial
  | val _=>exact z
  | box c fs=>cases t
  | own t' l =>
   obtain⟨a,vs,e1,f,e2,h',ht⟩:=z;refine⟨a,vs,e1,f,e2,h',fun k ek =>?_⟩
   subst ek;have t:decide (k < 1000)=true:=t;rw[<-h k (of_decide_eq_true t)];exact ht k rfl
def offs(ρ:Ro):List Nat->Ro
 | []=>ρ
 | j::js=>offs (bA ρ j .emp) js
theorem Good.offs(G:Good K tg F H ρ σ):∀{js:List Nat},Good K tg F H (Dn.offs ρ js) σ/\∀z,Own (Dn.offs ρ js) σ z->Own ρ σ z:=fun{js}=>by
 induction js generalizing ρ with
 | nil=>exact⟨G,fun _ h=>h⟩
 | cons j js ih =>
  obtain⟨g,h⟩:=ih (G.drop j);exact⟨g,fun z hz=>(adg (h z hz)).1⟩
def setG:List (Str×Rv)->List Nat->Nat->Ro->Option Ro
 | [],[],_,ρ=>some ρ
 | (_,.v _)::r,gs,n,ρ=>setG r gs n ρ
 | (_,.fr l)::r,j::gs,n,ρ=>setG r gs (n+1) (bA ρ j (.own (some (1000+n)) l))
 | _,_,_,_=>none
def mkFs:List (Str×Rv)->Nat->List (Str×(Nat ⊕ D))
 | [],_=>[]
 | (f,.v d)::r,n=>(f,.inr d)::mkFs r n
 | (f,.fr _)::r,n=>(f,.inl (1000+n))::mkFs r (n+1)
 | (f,.tf _ _)::r,n=>(f,.inl 0)::mkFs r n
theorem aws{O:Addr->Prop}{rs:List (Str×Rv)}{fvs:List (Str×V)}{A:List Addr}(h:FdR K F H O rs fvs A):∀{gs:List Nat} {n:Nat} {ρ ρ':Ro} {σ:L2.St},Good K tg1 F H ρ σ->(∀e∈A,¬Own ρ σ e)->(∀(m:Nat) (e:Addr),A[m]? = some e->tg1 (1000+(n+m))=e)->setG rs gs n ρ=some ρ' ->
  ∃σ',Good K tg1 F H ρ' σ'/\(∀j,j∉gs->σ'[j]? = σ[j]?)/\σ'.length=σ.length/\∀z,Own ρ' σ' z->Own ρ σ z∨z∈A:=by
 induction h with
 | nil =>
  intro gs n ρ ρ' σ G hA ht em;cases gs with
  | nil=>cases em;exact⟨σ,G,fun _ _=>rfl,rfl,fun _ h=>.inl h⟩
  | cons _ _=>cases em
 | v h t ih=>exact fun{gs n ρ ρ' σ} G hA ht em=>ih G hA ht em
 | @fr f l e ws rs fvs A hf hn hh h ne t ih =>
  intro gs n ρ ρ' σ G hA ht em;cases gs with
  | nil=>cases em
  | cons j gs =>
   have em:setG rs gs (n+1) (bA ρ j (.own (some (1000+n)) l))=some ρ':=em;have hne:=hA e (aR ..);have hte:tg1 (1000+n)=e:=ht 0 e rfl;have G1:=G.put (s:=.own (some (1000+n)) l) (v:=.ref e) j ⟨e,ws,rfl,hf,hh,h,fun k ek=>by cases ek;exact hte⟩ (fun t l' a _ ea=>by cases ea;exact hne)
   obtain⟨σ',g1,g2,g3,g4⟩:=ih G1 (fun e' he' w=>by
    rcases aaw G.len w with w | ⟨_,w⟩
    ·exact hA e' (aL _ he') w
    ·cases w;exact ne he') (fun m e' he'=>by
    have:=ht (m+1) e' (by simpa using he')
    rw[show n+1+m=n+(m+1) by omega]
    exact this) em
   refine⟨σ',g1,fun k hk =>?_,by rw[g3,bC],fun z hz =>?_⟩
   ·rw[g2 k (fun q=>hk (aL _ q)),bQ,if_neg (fun q:j=k=>hk (q▸List.mem_cons_self ..))]
   ·rcases g4 z hz with w | w
    ·rcases aaw G.len w with w | ⟨_,w⟩
     ·exact .inl w
     ·cases w;exact .inr (aR ..)
    ·exact .inr (aL _ w)
theorem axt{O:Addr->Prop}{rs:List (Str×Rv)}{fvs:List (Str×V)}{A:List Addr}(h:FdR K F H O rs fvs A):∀{n:Nat},(∀(m:Nat) (e:Addr),A[m]? = some e->tg1 (1000+(n+m))=e) ->
  (∀f,(mkFs rs n).lookup f=none->fvs.lookup f=none)/\(∀f k,(mkFs rs n).lookup f=some (.inl k)->fvs.lookup f=some (.ref (tg1 k)))/\∀f d,(mkFs rs n).lookup f=some (.inr d)->∃v,fvs.lookup f=some v/\Is K F d v:=by
 induction h with
 | nil =>
  intro n _;refine⟨fun _ _=>rfl,fun _ _ h =>?_,fun _ _ h =>?_⟩
  ·cases h
  ·cases h
 | @v g d v rs fvs A h t ih =>
  intro n ht;obtain⟨i1,i2,i3⟩:=ih (n:=n) ht;refine⟨fun f hf =>?_,fun f k hf =>?_,fun f d' hf =>?_⟩
  all_goals (unfold mkFs at hf;by_cases e:f=g)
  ·subst e;rw[cY] at hf;cases hf
  ·have hb:(f==g)=false:=beq_eq_false_iff_ne.mpr e;simp only[bK,hb] at hf ⊢
   exact i1 f hf
  ·subst e;rw[cY] at hf;cases hf
  ·have hb:(f==g)=false:=beq_eq_false_iff_ne.mpr e;simp only[bK,hb] at hf ⊢
   exact i2 f k hf
  ·subst e;rw[cY] at hf ⊢
   cases hf;exact⟨v,rfl,h⟩
  ·have hb:(f==g)=false:=beq_eq_false_iff_ne.mpr e;simp only[bK,hb] at hf ⊢
   exact i3 f d' hf
 | @fr g l e0 ws rs fvs A hf0 hn hh h ne t ih =>
  intro n ht;have hte:tg1 (1000+n)=e0:=ht 0 e0 rfl;obtain⟨i1,i2,i3⟩:=ih (n:=n+1) (fun m e' he'=>by
   have:=ht (m+1) e' (by simpa using he')
   rw[show n+1+m=n+(m+1) by omega]
   exact this)
  refine⟨fun f hf =>?_,fun f k hf =>?_,fun f d' hf =>?_⟩
  all_goals (unfold mkFs at hf;by_cases e:f=g)
  ·subst e;rw[cY] at hf;cases hf
  ·have hb:(f==g)=false:=beq_eq_false_iff_ne.mpr e;simp only[bK,hb] at hf ⊢
   exact i1 f hf
  ·subst e;rw[cY] at hf ⊢
   cases hf;rw[hte]
  ·have hb:(f==g)=false:=beq_eq_false_iff_ne.mpr e;simp only[bK,hb] at hf ⊢
   exact i2 f k hf
  ·subst e;rw[cY] at hf;cases hf
  ·have hb:(f==g)=false:=beq_eq_false_iff_ne.mpr e;simp only[bK,hb] at hf ⊢
   exact i3 f d' hf
end
structure DfnI (P:aZ) (w:World) (K:Fg9) (mg:Str->Option Value) (base:Heap) (c:Str) (ps:List Str) (k:Nat) (sp:Addr->Sp):Prop where
 ex:∃C f fd,nsIn K aP c=some (some (.ref C))/\mg c=some (.ref C)/\Mk K C f/\FnOk P w K mg base CX0 k f fd ps (sp C)/\Binds K fd ps []
def dNew(c:Str)(i:Nat)(gs:List Nat)(n nl:Nat)(fms:List (Str×M Rv))(js:List (Option Nat))(ms:M (List (Option D)))(k:Sd):Sd:=dM ms fun ds ρ =>
 if okJs ρ (none::js)=true then match iniD fms (lend ρ (none::js) (none::ds)++aD (nl - n) .emp) with
  | some (rs,ρc)=>if (putB ρ (none::js) (ρc.take n):List Sl).all tagB=true/\gs.contains i=false then match setG rs gs 0 (bA (putB ρ (none::js) (ρc.take n)) i (.box c (mkFs rs 0))) with
   | some ρ3=>match k ρ3 with
    | some (fl,ρ4)=>if (offs ρ4 (i::gs):List Sl).all tagB=true then some (fl,offs ρ4 (i::gs)) else none
    | none=>none
   | none=>none
   else none
  | none=>none
 else none
theorem Fin.mono{K:Fg9}{F' H':Hp}{τ:L2.St}{ps:Ro}{O O':Addr->Prop}(h:Fin K F' H' τ ps O)(w:∀z,O z->O' z):Fin K F' H' τ ps O':=⟨fun i l e=>let ⟨a,b,c⟩:=h.at' i l e;⟨w _ a,b,c⟩⟩
theorem Ext.imp{O O1 O2:Addr->Prop}{F H F1 H1:Hp}(x:Ext O O1 F H F1 H1)(w:∀z,O2 z->O1 z):Ext O O2 F H F1 H1:=⟨x.sub,x.new,x.keep,fun z h=>x.own z (w z h),x.there⟩
theorem atd{K:Fg9}{r:Rv}{v:V}{H:Hp}{O:Addr->Prop}{F' H':Hp}{O1 O2:Addr->Prop}(w:∀z,O2 z->O1 z)(h:relR K r v H O F' H' O1):relR K r v H O F' H' O2:=by
 cases r with
 | v d=>exact h
 | fr l =>
  obtain⟨a,vs,e,h1,h2,h3,h4,h5⟩:=h;exact⟨a,vs,e,h1,h2,h3,h4,fun z=>h5 (w _ z)⟩
 | tf d l =>
  obtain⟨t,u,a,vs,e,h1,h2,h3,h4,h5,h6,h7⟩:=h;exact⟨t,u,a,vs,e,h1,h2,h3,h4,h5,h6,fun z=>h7 (w _ z)⟩
theorem FlOk.off{K:Fg9}{tg tg1:Nat->Addr}{ρ ρ4:Ro}{σ:L2.St}{F H:Hp}{E:Ends}{fl:Fl}{js:List Nat}(ht:∀k,k < 1000->tg1 k=tg k)(hb:(offs ρ4 js:List Sl).all tagB=true)(q:FlOk K tg ρ σ F H E fl (offs ρ4 js)):FlOk K tg1 ρ σ F H E fl ρ4:=by
 have go:∀{σ':L2.St} {H' F':Hp},Good K tg1 F' H' ρ4 σ'->Good K tg F' H' (offs ρ4 js) σ'/\∀z,Own (offs ρ4 js) σ' z->Own ρ4 σ' z:=fun G=>by
  obtain⟨g,h⟩:=G.offs (js:=js);exact⟨g.retag hb ht,h⟩
 cases fl with
 | nx=>exact fun σ' H' F' G' x'=>let ⟨g,h⟩:=go G';q σ' H' F' g (x'.imp h)
 | brk=>exact fun σ' H' F' G' x'=>let ⟨g,h⟩:=go G';q σ' H' F' g (x'.imp h)
 | cont=>exact fun σ' H' F' G' x'=>let ⟨g,h⟩:=go G';q σ' H' F' g (x'.imp h)
 | ret r=>exact fun v σ' H' F' G' x' rr=>let ⟨g,h⟩:=go G';q v σ' H' F' g (x'.imp h) (atd h rr)
 | exc _=>exact q
theorem apf{K:Fg9}{X:Cx}{e:Expr}{es:List Expr}{ss:List Stmt}{p p2 pos pos2:Pos}{x c:Str}{i kk n nl:Nat}{gs:List Nat}{fms:List (Str×M Rv)}{ps:List Str}{js:List (Option Nat)}{ms:M (List (Option D))}{k:Sd}
  (D:DfnI X.prog X.w X.K X.mg X.base c ps kk (ak1 K n nl fms)) (hr:Room (kk+1) X.A) (hgl:Gl X c) (hN:X.N.Nodup) (hi:X.N[i]? = some x) (hx:Loc X.env.scope x) (ha:EG K X (e::es) js ms) (t:SVs K X ss k)
  (hgh:∀j∈gs,∀y,X.N[j]? = some y->¬Vis X.env.scope y) (hn:1+js.length=n:=by rfl)
  (hdb:(c==("__debug__" : Str))=false:=by decide) (he:aW (e::es) X.env=(false,eval e X.env)::aW es X.env:=by rfl) (hpl:(jA pos (aW es X.env)).any (·.1)=false:=by rfl)
  (hs:lB (.Call (.Name c p2) (e::es) [] pos) (some (.Name x p)) pos2.line X.env=pure false:=by rfl) (hf:X.fn x=true∨X.env.scope.names.lookup x=some .local:=by first | exact .inl rfl | exact .inr rfl | assumption) :
  SVs K X (.Assign [.Name x p] (.Call (.Name c p2) (e::es) [] pos) pos2::ss) (dNew c i gs n nl fms js ms k):=SVs.mk fun hk=>by
 obtain⟨C,fa,fd,hC,hmg,hM,hF,hB⟩:=D.ex;subst hk;refine PSs.imp (ah2 (avd hN hi hx (aw7 hM hF hr hgl hmg hB .nil axe (ha rfl) hdb he hpl) hs hf) (avc (t rfl))) fun E σ H ⟨tg,F,ρ,fl,ρ',G,em,q⟩=>mj em q fun ds ρ1 e1 em =>?_
 refine⟨tg,F,ρ,ds,ρ1,G,e1,fun vs H1 F1 G1 x1 ar x0 dx hx0 hdx hne =>?_⟩
 split at em
 ·rename_i hj;split at em
  ·rename_i rs ρc e2;split at em
   ·rename_i hz;obtain⟨hb,hgi⟩:=hz;split at em
    ·rename_i ρ3 e3;split at em
     ·rename_i fl' ρ4 e4;split at em
      ·rename_i hb4;cases em;have vl:=ar.length;have L:Lent X.K F1 σ ((V.ref x0::vs).map some) (none::js) (none::ds):=by
        have:=aqh (a:=x0) (gs:=[]) (gv:=[]) ar rfl (fun n j v h=>by simp at h)
        simpa using this
       have hx1:(upd H1 dx (.own x0)) x0=none:=by rw[di (iI hne)];exact hx0
       have G2:=(G1.fresh hdx (.own x0)).fresh hx1 (.ins C dx []);have Gl:=ado G2 hj L;show ak1 X.K n nl fms C (V.ref x0::(vs++[])) _ _ E0;rw[cZ];refine⟨by rw[bO,vl];omega,x0,dx,F1,_,rs,ρc,rfl,je,G1.freeF hx0,Gl,e2,fun H' F' fvs A O' s' g1 g2 g3 g4 fin=>⟨rfl,?_⟩⟩
       have y:Ext (Own (lend ρ1 (none::js) (none::ds)) ((V.ref x0::vs).map some)) (fun z=>O' z∨z=x0∨z∈A) F1 H1 F' H':=by
        have up:∀z o,H1 z=some o->(upd (upd H1 dx (.own x0)) x0 (.ins C dx [])) z=some o:=fun z o hz=>by
         rw[di (jb hz hx0),di (jb hz hdx)];exact hz
        have dn:∀z,(upd (upd H1 dx (.own x0)) x0 (.ins C dx [])) z=none->H1 z=none:=fun z hz=>by
         cases q:H1 z with
         | none=>rfl
         | some o=>rw[up z o q] at hz;cases hz
        refine⟨g4.sub,fun z o hz =>?_,fun z o hz nz =>?_,fun z hz =>?_,fun z hz=>dn z (g4.there z hz)⟩
        ·rcases g4.new z o hz with w | w | w | w
         ·exact .inl w
         ·exact .inr (.inl (dn z w))
         ·exact .inr (.inr w)
         ·subst w;rw[g2] at hz;cases hz
        ·exact g4.keep z o (up z o hz) fun w=>w.elim nz fun w=>by subst w;rw[hx0] at hz;cases hz
        ·rcases g4.own z hz with(w | w) | w
         ·exact .inl w
         ·subst w;exact .inr hx0
         ·exact .inr (dn z w)
       have fin':=fin.mono (O':=fun z=>O' z∨z=x0∨z∈A) fun z hz=>.inl hz
       have Gb:=ad0 G1 L y s' fin';have xb:=afe (ps:=ρc.take n) G1 L y;have hA:∀z∈A,¬Own (putB ρ1 (none::js) (ρc.take n)) σ z/\(Own ρ1 σ z∨H1 z=none):=fun z hz=>by
        obtain⟨o1,o2,ws,o3,l,o4⟩:=g3.out z hz;have w:=y.own z (.inr (.inr hz));have rr:relR X.K (.fr l) (.ref z) H1 (Own (lend ρ1 (none::js) (none::ds)) ((V.ref x0::vs).map some)) F' H' O':=⟨z,ws,rfl,w.symm,o2,o3,o4,o1⟩;obtain⟨a,vs',e',h1,h2,h3,h4,h5⟩:=air (ps:=ρc.take n) G1 L fin rr;cases e';exact⟨h5,h1.symm⟩
       have hx9:¬Own (putB ρ1 (none::js) (ρc.take n)) σ x0:=fun z=>by
        obtain⟨j,z⟩:=z;obtain⟨_,ws,hw⟩:=G1.ownAt ⟨j,aci z⟩;rw[hx0] at hw;cases hw
       have htg:∀m',m' < 1000->tg m'=(fun m=>if m < 1000 then tg m else A.getD (m - 1000) 0) m':=fun m' hm=>by simp[hm]
       have hnm:∀(m:Nat) (e':Addr),A[m]? = some e'->(fun m=>if m < 1000 then tg m else A.getD (m - 1000) 0) (1000+(0+m))=e':=fun m e' he'=>by
        show(if 1000+(0+m) < 1000 then tg (1000+(0+m)) else A.getD (1000+(0+m) - 1000) 0)=e'
        rw[if_neg (by omega),show 1000+(0+m) - 1000=m by omega,aG,he']
        rfl
       have Gt:=Gb.retag (tg1:=fun m=>if m < 1000 then tg m else A.getD (m - 1000) 0) hb htg
       obtain⟨k1,k2,k3⟩:=axt (tg1:=fun m=>if m < 1000 then tg m else A.getD (m - 1000) 0) (n:=0) g3 hnm
       have Gi:=Gt.put (s:=.box c (mkFs rs 0)) (v:=.ref x0) i ⟨x0,C,dx,fvs,rfl,g2,g1,hC,k1,k2,k3⟩ (fun t l a z=>by cases z)
       have ob:∀z,Own (bA (putB ρ1 (none::js) (ρc.take n)) i (.box c (mkFs rs 0))) (bA σ i (some (V.ref x0))) z->Own (putB ρ1 (none::js) (ρc.take n)) σ z:=fun z hz=>by
        rcases aaw Gb.len hz with w | ⟨⟨t,l,w⟩,_⟩
        ·exact w
        ·cases w
       obtain⟨σ2,Gf,s1,s2,s3⟩:=aws (n:=0) g3 Gi (fun z hz w=>(hA z hz).1 (ob z w)) hnm e3
       refine⟨σ2,⟨s2,fun j yy v hj' hv vis =>?_⟩,_,F',ρ3,fl,ρ4,Gf,e4,?_⟩
       ·by_cases hg:j∈gs
        ·exact absurd vis (hgh j hg yy hj')
        ·rw[<-s1 j hg];exact hv
       ·have xx:=x1.trans xb;refine FlOk.off (fun m hm=>(htg m hm).symm) hb4 (FlOk.back ⟨xx.sub,xx.new,xx.keep,fun z hz =>?_,xx.there⟩ q)
        rcases s3 z hz with w | w
        ·exact xx.own z (ob z w)
        ·rcases(hA z w).2 with w | w
         ·exact x1.own z w
         ·exact .inr (x1.there z w)
      ·cases em
     ·cases em
    ·cases em
   ·cases em
  ·cases em
 ·cases em
def avx(s:Stmt)(n:Nat):Stmt:=match s with
 | .ClassDef _ _ _ b _ _ _ _ _ _ _=>b.getD n s
 | _=>s
def boxB(K:Fg9)(C:Addr)(fs:List Str):Bool:=kJ K C Str.empty&&jV K C&&pM K C&&(jJ K (.ref C) "__setattr__" == some (some (.builtin "object.__setattr__")))&&nM K C&&eQ K (.ref C)&&fs.all fun f=>jJ K (.ref C) f==some none
section
variable{K:Fg9}{C:Addr}{fs:List Str}{c f m:Str}
theorem aip(e:boxB K C fs=true):Cls K C/\nM K C=true/\eQ K (.ref C)=true/\∀f∈fs,acu K C f:=by
 unfold boxB at e;simp only[bF,beq_iff_eq,fP] at e;obtain⟨⟨⟨⟨⟨⟨a,b⟩,c⟩,d⟩,g⟩,h⟩,i⟩:=e;exact⟨⟨a,b,c,d⟩,g,h,fun f hf=>i f hf⟩
theorem agi(a:nsIn K aP c=some (some (.ref C)))(e:boxB K C fs=true)(h:fs.contains f=true):FldT K c f:=fun C' h'=>by
 rw[a] at h';cases h';obtain⟨x,_,_,y⟩:=aip e;exact⟨x,y f (kE.mp h)⟩
theorem ayu{P:aZ}{w:World}{mg:Str->Option Value}{base:Heap}{fa:Addr}{fd:fM}{ps:List Str}{k:Nat}{sp:Sp}(a:nsIn K aP c=some (some (.ref C)))(e:boxB K C fs=true)(b:jJ K (.ref C) m=some (some (.ref fa)))(h1:jZ K (.ref fa)=true)(h2:eQ K (.ref fa)=true)
  (F:FnOk P w K mg base CX0 k fa fd ps sp) (B:Binds K fd ps []):DfnM P w K mg base c m ps k sp:=⟨C,fa,fd,a,(aip e).1,⟨b,h1,h2⟩,F,B⟩
theorem ayv{P:aZ}{w:World}{mg:Str->Option Value}{base:Heap}{fa:Addr}{fd:fM}{ps:List Str}{k:Nat}{sp:Addr->Sp}(a:nsIn K aP c=some (some (.ref C)))(g:mg c=some (.ref C))(e:boxB K C fs=true)(b:jJ K (.ref C) "__init__" = some (some (.ref fa)))(h1:jZ K (.ref fa)=true)
  (F:FnOk P w K mg base CX0 k fa fd ps (sp C)) (B:Binds K fd ps []):DfnI P w K mg base c ps k sp:=⟨C,fa,fd,a,g,⟨(aip e).2.1,b,h1,(aip e).2.2.1⟩,F,B⟩
end
def ghB(N:List Str)(gs:List Nat)(sc:Scope):Bool:=gs.all fun j=>match N[j]? with
 | some y=>(sc.names.lookup y).isNone
 | none=>true
theorem a1r{N:List Str}{gs:List Nat}{sc:Scope}(h:ghB N gs sc=true):∀j∈gs,∀y,N[j]? = some y->¬Vis sc y:=fun j hj y hy v=>by
 have z:=fP.mp h j hj;rw[hy] at z;have z:sc.names.lookup y=none:=rO.mp z;rcases v with v | v | v <;> (rw[z] at v;cases v)
def noTf:Rv->Bool
 | .tf _ _=>false
 | _=>true
def a7y(i j:Nat)(m1 m2:M Rv):Sd:=dM m1 fun r1=>dM m2 fun r2 ρ=>if noTf r1=true/\noTf r2=true then some (.nx,bA (bA ρ i r1.sl) j r2.sl) else none
section
variable{K:Fg9}{X:Cx}{tg:Nat->Addr}{F H F1 H1 F2 H2:Hp}{ρ ρ1 ρ2:Ro}{σ:L2.St}{e a b:Expr}{pos:Pos}
theorem ahz{O O1 O2:Addr->Prop}{r:Rv}{v:V}(ht:noTf r=true)(h:relR K r v H O F1 H1 O1)(x:Ext O1 O2 F1 H1 F2 H2):relR K r v H O F2 H2 O2:=by
 cases r with
 | v d=>exact Is.mono x.sub h
 | fr l =>
  obtain⟨c,vs,e,h1,h2,h3,h4,h5⟩:=h;refine⟨c,vs,e,h1,?_,x.keep c _ h3 h5,h4.mono x.sub,fun z =>?_⟩
  ·cases z:F2 c with
   | none=>rfl
   | some o =>
    rcases x.new c o z with z | z | z
    ·rw[h2] at z;cases z
    ·rw[h3] at z;cases z
    ·exact absurd z h5
  ·rcases x.own c z with z | z
   ·exact h5 z
   ·rw[h3] at z;cases z
 | tf d l=>cases ht
theorem Good.store2{F0 H0:Hp}{O:Addr->Prop}(G:Good K tg F H ρ σ)(x:Ext O (Own ρ σ) F0 H0 F H){r1 r2:Rv}{v1 v2:V}(i j:Nat)(h1:relR K r1 v1 H0 O F H (Own ρ σ))(h2:relR K r2 v2 H0 O F H (Own ρ σ))(ht1:noTf r1=true)(ht2:noTf r2=true)
  (hd:∀l1 l2 c,r1=.fr l1->r2=.fr l2->v1=.ref c->v2≠.ref c) :
  Good K tg F H (bA (bA ρ i r1.sl) j r2.sl) (bA (bA σ i (some v1)) j (some v2))/\Ext O (Own (bA (bA ρ i r1.sl) j r2.sl) (bA (bA σ i (some v1)) j (some v2))) F0 H0 F H:=by
 obtain⟨G1,x1⟩:=G.store x i h1;refine G1.store x1 j ?_;cases r2 with
 | v d=>exact h2
 | fr l =>
  obtain⟨c,vs,e,k1,k2,k3,k4,k5⟩:=h2;refine⟨c,vs,e,k1,k2,k3,k4,fun w =>?_⟩
  rcases aaw G.len w with w | ⟨⟨t,l',w1⟩,w2⟩
  ·exact k5 w
  ·cases r1 with
   | v d=>cases w1
   | fr l1=>exact hd l1 l c rfl rfl w2 e
   | tf d l1=>cases ht1
 | tf d l=>cases ht2
theorem two_rel{r1 r2:Rv}{v1 v2:V}(ht1:noTf r1=true)(x1:Ext (Own ρ σ) (Own ρ1 σ) F H F1 H1)(rr1:relR K r1 v1 H (Own ρ σ) F1 H1 (Own ρ1 σ))(x2:Ext (Own ρ1 σ) (Own ρ2 σ) F1 H1 F2 H2)(rr2:relR K r2 v2 H1 (Own ρ1 σ) F2 H2 (Own ρ2 σ)) :
  relR K r1 v1 H (Own ρ σ) F2 H2 (Own ρ2 σ)/\relR K r2 v2 H (Own ρ σ) F2 H2 (Own ρ2 σ)/\∀l1 l2 c,r1=.fr l1->r2=.fr l2->v1=.ref c->v2≠.ref c:=by
 refine⟨ahz ht1 rr1 x2,n8 x1 rr2,fun l1 l2 c e1 e2 e3 e4 =>?_⟩
 subst e1 e2;obtain⟨c1,vs1,q1,a1,a2,a3,a4,a5⟩:=rr1;obtain⟨c2,vs2,q2,b1,b2,b3,b4,b5⟩:=rr2;rw[q1] at e3;rw[q2] at e4;cases e3;cases e4;rcases b1 with z | z
 ·rw[a3] at z;cases z
 ·exact a5 z
end
@[simp] theorem a4k(i j:Nat)(m1 m2:M Rv)(ρ:Ro):a7y i j m1 m2 ρ=dM m1 (fun r1=>dM m2 fun r2 ρ=>if noTf r1=true/\noTf r2=true then some (.nx,bA (bA ρ i r1.sl) j r2.sl) else none) ρ:=rfl
end Dn
namespace Mn
open L2
section
variable{X:Cx}
theorem ar6(hc:X.calm=true):zj X (.builtin "any") (fun xs H Q=>∃(p:Addr) (ns:List Int),xs=[.ref p]/\SqL X.K H p (ns.map V.int)/\Q (.bl ((ns.map fun n=>n != 0).any id)) H):=by
 intro zv s σ H xs us Q I r h;obtain⟨p,ns,rfl,hq,q⟩:=h;obtain⟨u,rfl,ru⟩:=vals1 r;cases ru;obtain⟨its,rv,pl,hz⟩:=I.list hq;have hl:=pl.isList;have hlen:=rv.length;rw[aF] at hlen;have hlt:p < s.heap.objs.size:=by obtain⟨_,e,_⟩:=hl;exact aQ e
 refine call_any_walk (wpAny_pyIter_list hl ?_);refine⟨s.heap.objs.size,[s.heap.objs.size,p],[s.heap.objs.size],its.toArray.size,_,_,fun i=>((ns.map fun n=>n != 0)[i]?).getD true,rfl,rZ (A:=X.A.in1) (I.ok.hd hc) _ p (bD hlt) its.toArray,
  ⟨⟨_,aK _ rfl,rfl,rfl⟩,hl.push _⟩,fun i v s' Q' E' hP hQ =>?_,fun h' tk hk =>?_⟩
 ·have hi:its[i]? = some v:=by simpa using hP
  cases e:ns[i]? with
  | none =>
   have h1:ns.length<=i:=jE.mp e;have h2:i < its.length:=(aN.mp hi).1;omega
  | some b =>
   obtain⟨u,hu,ru⟩:=rv.get (i:=i) (x:=V.int b) (by rw[aO,e];rfl)
   rw[hi] at hu;cases hu;obtain⟨t,rfl⟩:∃t,v=lZ b t:=ru
   simp only[aO,e,nQ,vV] at hQ;exact PySem.P.truthy_int hQ
 ·have e:((bG its.toArray.size).any fun i=>((ns.map fun n=>n != 0)[i]?).getD true)=(ns.map fun n=>n != 0).any id:=by
   rw[aV,<-hlen,show ns.length=(ns.map fun n=>n != 0).length by rw[aF]]
   exact range_any _
  rw[e];exact⟨.bl _,H,I.kept (t':=tk) (lA hk),rfl,q⟩
end
end Mn
namespace Dn
open L2 Mn
section
variable{K:Fg9}{X:Cx}
def ayj:D->Option Rv
 | .lst l=>(qu l).map fun ns=>.v (.bl ((ns.map fun n=>n != 0).any id))
 | _=>none
@[simp] theorem a1z(l:List D):ayj (.lst l)=(qu l).map fun ns=>.v (.bl ((ns.map fun n=>n != 0).any id)):=rfl
theorem ay1(hc:X.calm=true):CallD K X (.builtin "any") (g1 ayj):=adz fun hk zv s σ0 H x u Q tg F ρ σ d r I ru G bd eg q=>by
 subst hk;cases d with
 | lst l =>
  have eg:(qu l).map (fun ns=>Rv.v (.bl ((ns.map fun n=>n != 0).any id)))=some r:=eg
  cases e:qu l with
  | none=>rw[e] at eg;cases eg
  | some bs =>
   rw[e] at eg;cases eg;obtain⟨a,vs,rfl,ea,hl⟩:=bd.lst G.sub;rw[aca e] at hl;rw[hl.int_inv] at ea;exact ar6 hc zv s σ0 H [.ref a] [u] Q I (.cons ru .nil) ⟨a,bs,rfl,SqL.of ea,Res.same G q (.bl _)⟩
 | _=>cases eg
end
def ayw(i j k:Nat)(m1 m2 m3:M Rv):Sd:=dM m1 fun r1=>dM m2 fun r2=>dM m3 fun r3 ρ=>if noTf r1=true/\noTf r2=true/\noTf r3=true then some (.nx,bA (bA (bA ρ i r1.sl) j r2.sl) k r3.sl) else none
section
variable{K:Fg9}{X:Cx}{tg:Nat->Addr}{F H:Hp}{ρ:Ro}{σ:L2.St}{a b c:Expr}{pos:Pos}
theorem Good.store3{F0 H0:Hp}{O:Addr->Prop}(G:Good K tg F H ρ σ)(x:Ext O (Own ρ σ) F0 H0 F H){r1 r2 r3:Rv}{v1 v2 v3:V}(i j k:Nat)(h1:relR K r1 v1 H0 O F H (Own ρ σ))(h2:relR K r2 v2 H0 O F H (Own ρ σ))(h3:relR K r3 v3 H0 O F H (Own ρ σ))(ht1:noTf r1=true)(ht2:noTf r2=true)(ht3:noTf r3=true)
  (hd:∀l1 l2 c,r1=.fr l1->r2=.fr l2->v1=.ref c->v2≠.ref c) (hd1:∀l1 l2 c,r1=.fr l1->r3=.fr l2->v1=.ref c->v3≠.ref c) (hd2:∀l1 l2 c,r2=.fr l1->r3=.fr l2->v2=.ref c->v3≠.ref c) :
  Good K tg F H (bA (bA (bA ρ i r1.sl) j r2.sl) k r3.sl) (bA (bA (bA σ i (some v1)) j (some v2)) k (some v3))/\Ext O (Own (bA (bA (bA ρ i r1.sl) j r2.sl) k r3.sl) (bA (bA (bA σ i (some v1)) j (some v2)) k (some v3))) F0 H0 F H:=by
 obtain⟨G1,x1⟩:=G.store2 x i j h1 h2 ht1 ht2 hd;refine G1.store x1 k ?_;cases r3 with
 | v d=>exact h3
 | fr l =>
  obtain⟨c,vs,e,k1,k2,k3,k4,k5⟩:=h3;refine⟨c,vs,e,k1,k2,k3,k4,fun w =>?_⟩
  rcases aaw (by rw[bC,bC];exact G.len) w with w | ⟨⟨t,l',w1⟩,w2⟩
  ·rcases aaw G.len w with w | ⟨⟨t,l',w1⟩,w2⟩
   ·exact k5 w
   ·cases r1 with
    | v d=>cases w1
    | fr l1=>exact hd1 l1 l c rfl rfl w2 e
    | tf d l1=>cases ht1
  ·cases r2 with
   | v d=>cases w1
   | fr l1=>exact hd2 l1 l c rfl rfl w2 e
   | tf d l1=>cases ht2
 | tf d l=>cases ht3
theorem awl{i j k:Nat}{x y z:Str}{px py pz pt:Pos}{kt k2:Nat}{pt2:Pos}{m1 m2 m3:M Rv}(hc:X.calm=true)(hN:X.N.Nodup)(hi:X.N[i]? = some x)(hj:X.N[j]? = some y)(hk:X.N[k]? = some z)(hx:Loc X.env.scope x)(hy:Loc X.env.scope y)(hz:Loc X.env.scope z)(h1:ER K X a m1)(h2:ER K X b m2)(h3:ER K X c m3)
  (hs1:aW [a,b,c] X.env=(false,eval a X.env)::aW [b,c] X.env:=by rfl) (hs2:aW [b,c] X.env=(false,eval b X.env)::aW [c] X.env:=by rfl) (hs3:aW [c] X.env=(false,eval c X.env)::aW [] X.env:=by rfl)
  (hfx:X.fn x=true∨X.env.scope.names.lookup x=some .local:=by first | exact .inl rfl | exact .inr rfl | assumption) (hfy:X.fn y=true∨X.env.scope.names.lookup y=some .local:=by first | exact .inl rfl | exact .inr rfl | assumption) (hfz:X.fn z=true∨X.env.scope.names.lookup z=some .local:=by first | exact .inl rfl | exact .inr rfl | assumption)
  (hs:swapsWithSole [.Tuple [.Name x px,.Name y py,.Name z pz] kt pt] (.Tuple [a,b,c] k2 pt2) pos.line X.env=pure false:=by rfl) (hw:swappedStores [.Tuple [.Name x px,.Name y py,.Name z pz] kt pt] (.Tuple [a,b,c] k2 pt2) X.env=pure none:=by rfl)
  (ha1:(dY [.Tuple [.Name x px,.Name y py,.Name z pz] kt pt] X.env).map (·.2)=[kZ (.Tuple [.Name x px,.Name y py,.Name z pz] kt pt) X.env]:=by rfl)
  (ht1:(dY [.Name x px,.Name y py,.Name z pz] X.env).map (·.2)=kZ (.Name x px) X.env::(dY [.Name y py,.Name z pz] X.env).map (·.2):=by rfl)
  (ht2:(dY [.Name y py,.Name z pz] X.env).map (·.2)=kZ (.Name y py) X.env::(dY [.Name z pz] X.env).map (·.2):=by rfl)
  (ht3:(dY [.Name z pz] X.env).map (·.2)=kZ (.Name z pz) X.env::(dY [] X.env).map (·.2):=by rfl)
  (hn:(dY [.Name x px,.Name y py,.Name z pz] X.env).length=3:=by rfl) (hst:(dY [.Name x px,.Name y py,.Name z pz] X.env).findIdx? (·.1)=none:=by rfl) :
  SV K X (.Assign [.Tuple [.Name x px,.Name y py,.Name z pz] kt pt] (.Tuple [a,b,c] k2 pt2) pos) (ayw i j k m1 m2 m3):=SV.mk fun hq=>PS.imp (amc (avi (ut (h1 hq) (ut (h2 hq) (ut (h3 hq) afu hs3) hs2) hs1)) (avf hc (afb (ah3 hN hi hx hfx) (afb (ah3 hN hj hy hfy) (afb (ah3 hN hk hz hfz) ap1 ht3) ht2) ht1) hn hst) hs hw ha1) fun E σ H ⟨tg,F,ρ,fl,ρ',G,em,q⟩=>mj em q fun r1 ρ1 e1 em=>mj em q fun r2 ρ2 e2 em=>mj em q fun r3 ρ3 e3 em=>by
 split at em
 ·rename_i hz;cases em;refine⟨tg,F,ρ,r1,ρ1,G,e1,fun v1 H1 F1 G1 x1 rr1=>⟨tg,F1,ρ1,r2,ρ2,G1,e2,fun v2 H2 F2 G2 x2 rr2=>⟨tg,F2,ρ2,r3,ρ3,G2,e3,fun v3 H3 F3 G3 x3 rr3=>⟨by rw[gQ];show 3<=16777216;decide,fun p hp =>?_⟩⟩⟩⟩
  obtain⟨k1,k2,k3⟩:=two_rel hz.1 x1 rr1 x2 rr2;obtain⟨a1,a3,a13⟩:=two_rel hz.1 (x1.trans x2) k1 x3 rr3;obtain⟨b2,_,b23⟩:=two_rel hz.2.1 (x1.trans x2) k2 x3 rr3;have x4:=G3.freshX hp (.tup [v1,v2,v3]);have G4:=G3.fresh hp (.tup [v1,v2,v3]);obtain⟨G5,x5⟩:=G4.store3 (((x1.trans x2).trans x3).trans x4) i j k (ahz hz.1 a1 x4) (ahz hz.2.1 b2 x4) (ahz hz.2.2 a3 x4) hz.1 hz.2.1 hz.2.2 k3 a13 b23;exact⟨p,[v1,v2,v3],rfl,SqT.of je,rfl,v1,[v2,v3],rfl,v2,[v3],rfl,v3,[],rfl,rfl,q _ _ F3 G5 x5⟩
 ·cases em
end
@[simp] theorem a4j(i j k:Nat)(m1 m2 m3:M Rv)(ρ:Ro):ayw i j k m1 m2 m3 ρ=dM m1 (fun r1=>dM m2 fun r2=>dM m3 fun r3 ρ=>if noTf r1=true/\noTf r2=true/\noTf r3=true then some (.nx,bA (bA (bA ρ i r1.sl) j r2.sl) k r3.sl) else none) ρ:=rfl
end Dn
end
namespace Dn
open PySem L2
@[simp] abbrev gL9(d:D):Option Rv:=(itemsD d).map fun l=>.v (.int l.length)
@[simp] abbrev gT9(d:D):Option Rv:=(itemsD d).map fun l=>.v (.tup l)
end Dn
namespace My
open PySem L2 Mn Dn
def ahh:Sd :=
 (dRet (M.v (mAnd (mIsi .int (gj 0)) (mUn gNot (mIsi .bool (gj 0))))))
def wz:Fd:=fnD 1 1 ahh
def aak:Sd :=
 (dRet (M.v (mAnd (M.d (mFn wz [some 0] (bw 0 gr))) (ajt (fun i j=>decide (i<=j)) (fun i j=>decide (i<=j)) (mVar 1) (mVar 0) (mVar 2)))))
def jm:Fd:=fnD 3 3 aak
def p8:Sd :=
 (dRet (M.v (mAnd (mIsi .tuple (gj 0)) (ajt (fun i j=>decide (i<=j)) (fun i j=>decide (i<=j)) (mVar 1) (M.d (dz (g1 gL9) (dg 0 mNil))) (mVar 2)))))
def gf:Fd:=fnD 3 3 p8
def abf:Sd :=
 (dRet (mFn jm [none,none,none] (bf (mVar 1) (bf (ret (.int 0)) (bf (M.d (mOp (gInt fSub) (gq (M.d (dz (g1 gL9) (dg 0 mNil))) (ret (.int 1))))) gr)))))
def m9:Fd:=fnD 2 2 abf
def alv:M D :=
 (M.d (mOp (gIn false) (cu 0 (gj 1))))
def aio:M Bool :=
 (abm (M.d (dz (g1 gAll) (bh (M.d (xj [none,some 1] (abe (M.d (mOp gIx (cu 2 (gj 0))))) (bu 0) (ret true) alv)) mNil))))
def alu:M D :=
 (mVar 0)
def ahq:M Bool :=
 (m8 (gCmp fun i j=>decide (i < j)) (gq (M.d (dz (g1 gL9) (dg 1 mNil))) (gj 2)))
def aho:Sd :=
 (dSeq (dSet 2 (dz (g1 gL9) (dg 1 mNil))) (dSet 1 (xj [none,some 1,some 0] (abe (mVar 1)) (bu 0) aio alu)))
def avr:Sd :=
 (dSeq (dSet 1 (aed (bh (M.d (dz (g1 gL9) (dg 0 mNil))) mNil))) (dSeq (dSet 2 (mOp gAdd (gq (M.d (dz (g1 gL9) (dg 1 mNil))) (ret (.int 1))))) (dSeq (whileD ahq aho fuel) (dRet (dz (g1 gT9) (dg 1 mNil))))))
def aj6:Fd:=fnD 3 1 avr
def uv:Sd :=
 (dSeq (dSet 1 (mFn aj6 [some 0] (bw 0 gr))) (dIf (m8 (gEq true) (cu 1 (mTup mNil))) (fun _=>none) dNx))
def jc:Fd:=fnD 2 1 uv
def abv:M D :=
 (M.d (mFn jm [some 0,none,none] (bw 0 (bf (ret (.int 0)) (bf (M.d (mOp (gInt fSub) (gq (M.d (dz (g1 gL9) (dg 1 mNil))) (ret (.int 1))))) gr)))))
def agd:Sd :=
 (dSeq (dIf (ae7 (abm (M.d (mFn gf [some 1,none,none] (bw 1 (bf (M.d (dz (g1 gL9) (dg 0 mNil))) (bf (M.d (dz (g1 gL9) (dg 0 mNil))) gr))))))) (dRet (M.v (ret (.bl false)))) dNx) (dRet (dz (g1 gAll) (bh (M.d (xj [none,none] (mGet ag1 (bh (mVar 1) (bh (mVar 0) mNil))) (bTup 2 (gk (bu 0) (gk (bu 1) bNil))) (ret true) abv)) mNil))))
def xu:Fd:=fnD 2 2 agd
def sy:Sd :=
 (dIf (ae7 (abm (M.d (mFn xu [none,none] (bf (mVar 0) (bf (mVar 1) gr)))))) (fun _=>none) dNx)
def ig:Fd:=fnD 2 2 sy
def abt:M D :=
 (M.d (mOp (gInt fMod) (gq (M.d (mOp gAdd (cu 0 (gj 1)))) (M.d (dz (g1 gL9) (dg 2 mNil))))))
def af9:Sd :=
 (dRet (dz (g1 gT9) (bh (M.d (xj [none,none,none] (mGet aqu (bh (mVar 1) (bh (mVar 2) (bh (mVar 0) mNil)))) (bTup 3 (gk (bu 0) (gk (bu 1) (gk (bu 2) bNil)))) (ret true) abt)) mNil)))
def xq:Fd:=fnD 3 3 af9
def abu:M D :=
 (M.d (mOp gIx (cu 1 (M.d (mOp (gInt fSub) (cu 0 (ret (.int 1))))))))
def agb:Sd :=
 (dRet (dz (g1 gT9) (bh (M.d (xj [none,none] (mGet ag1 (bh (mVar 1) (bh (mVar 0) mNil))) (bTup 2 (gk (bu 0) (gk (bu 1) bNil))) (ret true) abu)) mNil)))
def xr:Fd:=fnD 2 2 agb
def u9:M Bool :=
 (m8 (gIn false) (gq (M.d (mOp gIx (cu 2 (gj 0)))) (gj 1)))
def zg:M D :=
 (mVar 0)
def u5:M Bool :=
 (m8 (gCmp fun i j=>decide (i < j)) (gq (M.d (dz (g1 gL9) (dg 2 mNil))) (gj 3)))
def yz:Sd :=
 (dSeq (dSet 3 (dz (g1 gL9) (dg 2 mNil))) (dSet 2 (xj [none,some 2,some 0] (abe (mVar 2)) (bu 0) u9 zg)))
def adw:Sd :=
 (dSeq (dSet 2 (dz (g1 fun d=>(itemsD d).map fun l=>.fr l) (dg 1 mNil))) (dSeq (dSet 3 (mOp gAdd (gq (M.d (dz (g1 gL9) (dg 2 mNil))) (ret (.int 1))))) (dSeq (whileD u5 yz fuel) (dRet (aid 2)))))
def t7:Fd:=fnD 4 2 adw
def aa3:M D :=
 (M.d (mFn jm [some 0,none,some 1] (bw 0 (bf (ret (.int 0)) (bw 1 gr)))))
def ae0:Sd :=
 (dSeq (dIf (ae7 (abm (M.d (mFn gf [some 1,none,none] (bw 1 (bf (M.d (dz (g1 gL9) (dg 0 mNil))) (bf (M.d (dz (g1 gL9) (dg 0 mNil))) gr))))))) (dRet (M.v (ret (.bl false)))) dNx) (dRet (dz (g1 gAll) (bh (M.d (xj [none,some 2] (abe (mVar 1)) (bu 0) (ret true) aa3)) mNil))))
def vo:Fd:=fnD 3 3 ae0
def xn:Sd :=
 (dIf (ae7 (abm (M.d (mFn vo [some 0,none,none] (bw 0 (bf (mVar 1) (bf (ret (.int 100)) gr))))))) (fun _=>none) dNx)
def kh:Fd:=fnD 2 2 xn
def aef:Sd :=
 (dSeq (dSet 5 (mOp (gInt fMod) (gq (M.d (mOp (gInt fSub) (cu 4 (gj 1)))) (gj 0)))) (abw (M.v (mMut 3 aek (bh (M.d (mOp (gInt fDiv) (gq (M.d (mOp (gInt fSub) (gq (M.d (mOp (gInt fSub) (gq (M.d (mOp gAdd (cu 2 (gj 0)))) (ret (.int 1))))) (gj 5)))) (gj 0)))) mNil)))))
def aj1:Sd :=
 (dSeq (dSet 3 (mLst mNil)) (dSeq (dFor (mGet uw (bh (mVar 0) mNil)) (bu 4) aef) (dRet (aid 3))))
def aal:Fd:=fnD 6 3 aj1
def za:Sd :=
 (abw (M.v (mMut 3 aek (bh (M.d (dz (g1 gT9) (bh (M.d (mFn aal [none,some 5,some 6] (bf (M.d (dz (g1 gL9) (dg 4 mNil))) (bw 5 (bw 6 gr))))) mNil))) mNil))))
def adt:Sd :=
 (dSeq (dSet 3 (mLst mNil)) (dSeq (dFor (mGet aqu (bh (mVar 0) (bh (mVar 1) (bh (mVar 2) mNil)))) (bTup 3 (gk (bu 4) (gk (bu 5) (gk (bu 6) bNil)))) za) (dRet (dz (g1 gT9) (dg 3 mNil)))))
def qb:Fd:=fnD 7 3 adt
def lr:Sd :=
 (dIf (m8 (gCmp fun i j=>decide (j<=i)) (cu 9 (ret (.int 0)))) (dSubAugF (fun i j=>i+j) "Crowd" 0 "standing" 4 (mVar 9) (mVar 10)) (dSubAugF (fun i j=>i+j) "Crowd" 0 "gone" 5 (M.d (mOp (gInt fSub) (gq (mUn gNeg (mVar 9)) (ret (.int 1))))) (mVar 10)))
def g_Crowd_let_leave:Sd :=
 (dSeq (dSet 7 (mOp gIx (gq (mFV "Crowd" 0 "house") (gj 1)))) (dSeq (dSet 8 (mFn aal [none,none,some 2] (bf (M.d (dz (g1 gL9) (dg 7 mNil))) (bf (M.d (mOp gIx ((mLnk "Crowd" 0 "turning" 3).bind fun _=>cu 3 (gj 1)))) (bw 2 gr))))) (dSeq (dSubF "Crowd" 0 "turning" 3 (mVar 1) (M.d (mOp (gInt fMod) (gq (M.d (mOp gAdd (gq (M.d (mOp gIx ((mLnk "Crowd" 0 "turning" 3).bind fun _=>cu 3 (gj 1)))) (gj 2)))) (M.d (dz (g1 gL9) (dg 7 mNil))))))) (dSeq (dSubAugF (fun i j=>i+j) "Crowd" 0 "left" 6 (mVar 1) (mVar 2)) (dSeq (dSubAugF (fun i j=>i - j) "Crowd" 0 "standing" 4 (mVar 1) (mVar 2)) (dFor (mGet ag1 (bh (mVar 7) (bh (mVar 8) mNil))) (bTup 2 (gk (bu 9) (gk (bu 10) bNil))) lr))))))
def cz:Fd:=fnD 11 7 g_Crowd_let_leave
def aa0:List (Str×M Rv) :=
 [("house", (M.v (mVar 1))),("turning", (dz (g1 fun d=>(itemsD d).map fun l=>.fr l) (dg 2 mNil))),("standing", (dz (g1 fun d=>(itemsD d).map fun l=>.fr l) (dg 3 mNil))),("gone", (mOp gMul (gq (M.d (mLst (bh (ret (.int 0)) mNil))) (ret (.int 3))))),("left", (mOp gMul (gq (M.d (mLst (bh (ret (.int 0)) mNil))) (M.d (dz (g1 gL9) (dg 1 mNil))))))]
def aaf:Sd :=
 (dIf (m8 (gCmp fun i j=>decide (j < i)) (gq (M.d (mOp gIx ((mLnk "Crowd" 3 "standing" 6).bind fun _=>cu 6 (gj 4)))) (ret (.int 0)))) (abw (afz "Crowd" 3 "let_leave" ["turning","standing","gone","left"] ["house"] [5,6,7,8] cz [some 4,none] (bw 4 (bf (M.d (mOp gIx ((mLnk "Crowd" 3 "standing" 6).bind fun _=>cu 6 (gj 4)))) gr)))) dNx)
def zq:M Bool :=
 (abm (M.d (dz (g1 ayj) ((mLnk "Crowd" 3 "standing" 6).bind fun _=>dg 6 mNil))))
def ab0:Sd :=
 (dFor (mGet uw (bh (M.d (dz (g1 gL9) (dg 0 mNil))) mNil)) (bu 4) aaf)
def aga:Sd :=
 (dNew "Crowd" 3 [5,6,7,8] 4 4 aa0 [some 0,some 1,some 2] (bw 0 (bw 1 (bw 2 gr))) (dSeq (whileD zq ab0 fuel) (dRet (M.v (mTup (bh (M.d (dz (g1 gT9) ((mLnk "Crowd" 3 "gone" 7).bind fun _=>dg 7 mNil))) (bh (M.d (dz (g1 gT9) ((mLnk "Crowd" 3 "turning" 5).bind fun _=>dg 5 mNil))) (bh (M.d (dz (g1 gT9) ((mLnk "Crowd" 3 "left" 8).bind fun _=>dg 8 mNil))) mNil))))))))
def abq:Fd:=fnD 9 3 aga
def aaj:Sd :=
 (dSeq (abw (mFn ig [none,none] (bf (mVar 0) (bf (mVar 1) gr)))) (abw (mFn kh [some 0,none] (bw 0 (bf (mVar 2) gr)))))
def jl:Fd:=fnD 3 3 aaj
def avs:Sd :=
 (dSeq (abw (mFn jl [none,none,none] (bf (mVar 0) (bf (mVar 1) (bf (mVar 2) gr))))) (dSeq (abw (mFn jc [some 0] (bw 0 gr))) (dRet (mFn abq [some 0,some 1,some 2] (bw 0 (bw 1 (bw 2 gr)))))))
def ahj:Fd:=fnD 3 3 avs
def wu:Sd :=
 (dSeq (dIf (mOrB (ae7 (abm (M.d (mFn m9 [some 0,none] (bw 0 (bf (mVar 6) gr)))))) (m8 (gEq false) (gq (M.d (mOp gIx ((mLnk "Crowd" 4 "standing" 8).bind fun _=>cu 8 (gj 6)))) (ret (.int 0))))) (fun _=>none) dNx) (abw (afz "Crowd" 4 "let_leave" ["turning","standing","gone","left"] ["house"] [7,8,9,10] cz [some 6,none] (bw 6 (bf (ret (.int 1)) gr)))))
def aj2:Sd :=
 (dSeq (abw (mFn jl [none,none,none] (bf (mVar 0) (bf (mVar 1) (bf (mVar 2) gr))))) (dNew "Crowd" 4 [7,8,9,10] 4 4 aa0 [some 0,some 1,some 2] (bw 0 (bw 1 (bw 2 gr))) (dSeq (dFor (mGet aoq (bh (mVar 3) mNil)) (bTup 2 (gk (bu 5) (gk (bu 6) bNil))) wu) (dRet (M.v (mTup (bh (M.d (dz (g1 gT9) ((mLnk "Crowd" 4 "turning" 7).bind fun _=>dg 7 mNil))) (bh (M.d (dz (g1 gT9) ((mLnk "Crowd" 4 "standing" 8).bind fun _=>dg 8 mNil))) (bh (M.d (dz (g1 gT9) ((mLnk "Crowd" 4 "gone" 9).bind fun _=>dg 9 mNil))) mNil)))))))))
def aam:Fd:=fnD 11 4 aj2
def ae1:Sd :=
 (dSeq (abw (mFn ig [none,none] (bf (mVar 0) (bf (mVar 1) gr)))) (dRet (mFn qb [none,none,none] (bf (mVar 0) (bf (mVar 1) (bf (mVar 2) gr))))))
def vp:Fd:=fnD 3 3 ae1
def zb:M D :=
 (mAnd (M.d (mFn wz [some 0] (bw 0 gr))) (M.d (mOp (gCmp fun i j=>decide (j<=i)) (cu 0 (ret (.int 0))))))
def adu:Sd :=
 (dSeq (dIf (ae7 (abm (M.d (mFn gf [some 1,none,none] (bw 1 (bf (M.d (dz (g1 gL9) (dg 0 mNil))) (bf (M.d (dz (g1 gL9) (dg 0 mNil))) gr))))))) (dRet (M.v (ret (.bl false)))) dNx) (dRet (dz (g1 gAll) (bh (M.d (xj [none] (abe (mVar 1)) (bu 0) (ret true) zb)) mNil))))
def tu:Fd:=fnD 2 2 adu
def aag:Sd :=
 (dIf (m8 (gCmp fun i j=>decide (j<=i)) (cu 5 (ret (.int 0)))) (alx (fun i j=>i+j) 2 (mVar 5) (mVar 6)) dNx)
def aee:Sd :=
 (dFor (mGet ag1 (bh (mVar 3) (bh (mVar 4) mNil))) (bTup 2 (gk (bu 5) (gk (bu 6) bNil))) aag)
def aj3:Sd :=
 (dSeq (dSet 2 (mOp gMul (gq (M.d (mLst (bh (ret (.int 0)) mNil))) (M.d (dz (g1 gL9) (dg 0 mNil)))))) (dSeq (dFor (mGet ag1 (bh (mVar 0) (bh (mVar 1) mNil))) (bTup 2 (gk (bu 3) (gk (bu 4) bNil))) aee) (dRet (aid 2))))
def abr:Fd:=fnD 7 2 aj3
def acg:M D :=
 (M.d (mOp (gEq false) (gq (M.d (mOp gAdd (cu 0 (gj 1)))) (gj 2))))
def aar:M Bool :=
 (m8 (gCmp fun i j=>decide (j < i)) (cu 1 (ret (.int 0))))
def acf:M D :=
 (mVar 0)
def agc:Sd :=
 (dSeq (abw (mFn jl [none,none,none] (bf (mVar 0) (bf (mVar 1) (bf (mVar 2) gr))))) (dSeq (abw (mFn jc [some 0] (bw 0 gr))) (dSeq (dIf (ae7 (abm (M.d (mFn tu [some 0,none] (bw 0 (bf (mVar 3) gr)))))) (dRet (M.v (ret (.bl false)))) dNx) (dSeq (dSet 4 (mFn abr [none,none] (bf (mVar 0) (bf (M.d (mFn qb [none,none,none] (bf (mVar 0) (bf (mVar 1) (bf (mVar 3) gr))))) gr)))) (dSeq (dIf (ae7 (abm (M.d (dz (g1 gAll) (bh (M.d (xj [none,none,none] (mGet aqu (bh (mVar 2) (bh (mVar 4) (bh (mVar 3) mNil)))) (bTup 3 (gk (bu 0) (gk (bu 1) (gk (bu 2) bNil)))) (ret true) acg)) mNil))))) (dRet (M.v (ret (.bl false)))) dNx) (dSeq (dSet 5 (mFn xr [none,none] (bf (mVar 0) (bf (M.d (mFn xq [none,none,none] (bf (mVar 0) (bf (mVar 1) (bf (mVar 3) gr))))) gr)))) (dRet (mOp (gEq false) (gq (M.d (mFn t7 [some 5,none] (bw 5 (bf (M.d (xj [none,none] (mGet aoq (bh (mVar 3) mNil)) (bTup 2 (gk (bu 0) (gk (bu 1) bNil))) aar acf)) gr)))) (M.d (mLst mNil)))))))))))
def aan:Fd:=fnD 6 4 agc
def ac3:Sd :=
 (dSeq (dIf (m8 (gCmp fun i j=>decide (i < j)) (cu 1 (M.d (dz (g1 gL9) (dg 0 mNil))))) (dRet (mOp gIx (cu 0 (gj 1)))) dNx) (dRet (M.v (ret (.int 0)))))
def f__law_cell:Fd:=fnD 2 2 ac3
def ahi:Sd :=
 (dSeq (dSet 1 (dz (g2 (gInt fun i j=>some (if j > i then j else i))) (dg 0 (bh (M.d (mOp (gInt fSub) (gq (ret (.int 0)) (gj 0)))) mNil)))) (dRet (mLst (bh (mVar 1) (bh (M.d (dz (g1 aur) (bh (M.d (mOp (gCmp fun i j=>decide (j<=i)) (cu 1 (M.d (mOp (gInt fPow) (gq (ret (.int 10)) (ret (.int 18)))))))) mNil))) mNil)))))
def f__law_pen:Fd:=fnD 2 1 ahi
def ac2:Sd :=
 (dSeq (dIf (m8 (gEq false) (gq (M.d (mOp gIx (cu 0 (ret (.int 1))))) (ret (.int 1)))) (dSeq (dAsg (M.d (dz (g2 aii) (bh (M.d (mOp gIx (cu 0 (ret (.int 0))))) (dg 1 mNil)))) (bTup 2 (gk (bu 2) (gk (bu 3) bNil)))) (dSeq (dSub 0 (ret (.int 0)) (mVar 2)) (dRet (aid 3)))) dNx) (dSeq (dSet 4 (mOp (gInt fMod) (gq (M.d (mOp gMul (gq (M.d (mOp gAdd (gq (M.d (mOp (gInt fMod) (gq (M.d (mOp gIx (cu 0 (ret (.int 0))))) (ret (.int 2147483647))))) (ret (.int 40503))))) (ret (.int 69621))))) (ret (.int 2147483629))))) (dSeq (dSet 4 (mOp (gInt fMod) (gq (M.d (mOp gAdd (gq (M.d (mOp gMul (cu 4 (gj 4)))) (ret (.int 7817))))) (ret (.int 2147483587))))) (dSeq (dSub 0 (ret (.int 0)) (M.d (mOp (gInt fMod) (gq (M.d (mOp gAdd (gq (M.d (mOp gMul (cu 4 (ret (.int 48271))))) (ret (.int 11))))) (ret (.int 2147483629)))))) (dRet (mOp (gInt fMod) (gq (M.d (mOp (gInt fDiv) (gq (M.d (mOp gIx (cu 0 (ret (.int 0))))) (ret (.int 32))))) (gj 1))))))))
def f__law_draw:Fd:=fnD 5 2 ac2
def aa5:M D :=
 (M.d (mOp (gInt fSub) (gq (M.d (mFn f__law_draw [some 1,none] (bw 1 (bf (M.d (mOp gAdd (cu 2 (gj 3)))) gr)))) (gj 3))))
def aaz:Sd :=
 (dSeq (dSet 7 (mOp gAdd (gq (ret (.int 1)) (M.d (mFn f__law_draw [some 0,some 2] (bw 0 (bw 2 gr))))))) (abw (M.v (mMut 5 aek (bh (M.d (dz (g1 gT9) (bh (M.d (xj [none,some 0,some 3,some 4] (mGet uw (bh (mVar 7) mNil)) (bu 0) (ret true) aa5)) mNil))) mNil)))))
def ae3:Sd :=
 (dSeq (dSet 3 (mOp gAdd (gq (ret (.int 1)) (M.d (mFn f__law_draw [some 0,some 1] (bw 0 (bw 1 gr))))))) (dSeq (dSet 4 (mOp gIx (gq (M.d (mLst (bh (ret (.int 0)) (bh (ret (.int 1)) (bh (ret (.int 3)) (bh (ret (.int 3)) mNil)))))) (M.d (mFn f__law_draw [some 0,none] (bw 0 (bf (ret (.int 4)) gr))))))) (dSeq (dSet 5 (mLst mNil)) (dSeq (dFor (mGet uw (bh (mVar 3) mNil)) (bu 6) aaz) (dRet (dz (g1 gT9) (dg 5 mNil)))))))
def f__law_house:Fd:=fnD 8 3 ae3
def yh:M Bool :=
 (m8 (gIn true) (cu 0 (gj 1)))
def yg:M D :=
 (mVar 0)
def nu:M Bool :=
 (m8 (gCmp fun i j=>decide (i < j)) (cu 3 (M.d (dz (g1 gL9) (dg 2 mNil)))))
def j8:Sd :=
 (dSeq (dIf (m8 (gCmp fun i j=>decide (j<=i)) (gq (M.d (mOp gIx (cu 2 (gj 3)))) (ret (.int 0)))) (dSet 2 (mOp gAdd (cu 2 (M.d (xj [none,some 2] (abe (M.d (dz (g1 gSet) (bh (M.d (mOp gIx (cu 0 (M.d (mOp gIx (cu 2 (gj 3))))))) mNil)))) (bu 0) yh yg))))) dNx) (dSet 3 (mOp gAdd (cu 3 (ret (.int 1))))))
def acr:Sd :=
 (dSeq (dSet 2 (mLst (bh (mVar 1) mNil))) (dSeq (dSet 3 (M.v (ret (.int 0)))) (dSeq (whileD nu j8 fuel) (dRet (aid 2)))))
def ql:Fd:=fnD 4 2 acr
def l1__law_open:Sd :=
 (dIf (m8 (gCmp fun i j=>decide (j<=i)) (gq (M.d (dz (g1 ax7) (bh (M.d (mFn ql [some 3,none] (bw 3 (bf (mVar 4) gr)))) mNil))) (ret (.int 0)))) (dSeq (dSet 5 (mFn f__law_draw [some 0,none] (bw 0 (bf (M.d (dz (g1 gL9) (bh (M.d (mOp gIx (cu 3 (gj 4)))) mNil))) gr)))) (dSub 3 (mVar 4) (M.d (mOp gAdd (gq (M.d (mOp gAdd (gq (M.d (mCut (M.d (mOp gIx (cu 3 (gj 4)))) (ret none) (ald (mVar 5)))) (mTup (bh (M.d (mOp (gInt fSub) (gq (mUn gNeg (ret (.int 1))) (M.d (mFn f__law_draw [some 0,none] (bw 0 (bf (ret (.int 3)) gr))))))) mNil))))) (M.d (mCut (M.d (mOp gIx (cu 3 (gj 4)))) (ald (M.d (mOp gAdd (cu 5 (ret (.int 1)))))) (ret none)))))))) dNx)
def agf:Sd :=
 (dSeq (dSet 3 (dz (g1 fun d=>(itemsD d).map fun l=>.fr l) (bh (M.d (mFn f__law_house [some 0,some 1,some 2] (bw 0 (bw 1 (bw 2 gr))))) mNil))) (dSeq (dFor (mGet uw (bh (M.d (dz (g1 gL9) (dg 3 mNil))) mNil)) (bu 4) l1__law_open) (dRet (dz (g1 gT9) (dg 3 mNil)))))
def f__law_open:Fd:=fnD 6 3 agf
def aa6:M D :=
 (M.d (mFn f__law_draw [some 1,none] (bw 1 (bf (M.d (dz (g1 gL9) (dg 0 mNil))) gr))))
def ae4:Sd :=
 (dRet (dz (g1 gT9) (bh (M.d (xj [none,some 0] (abe (mVar 1)) (bu 0) (ret true) aa6)) mNil)))
def f__law_drawn:Fd:=fnD 2 2 ae4
def ye:M D :=
 (M.d (dz (g2 (gInt fun i j=>some (if j > i then j else i))) (bh (ret (.int 0)) (bh (M.d (mOp (gInt fSub) (gq (M.d (mFn f__law_draw [some 1,none] (bw 1 (bf (M.d (mOp gAdd (cu 2 (ret (.int 3))))) gr)))) (ret (.int 2))))) mNil))))
def acq:Sd :=
 (dRet (dz (g1 gT9) (bh (M.d (xj [none,some 0,some 2] (abe (mVar 1)) (bu 0) (ret true) ye)) mNil)))
def qj:Fd:=fnD 3 3 acq
def ac1:Sd :=
 (dSeq (dSet 5 (mOp gIx (gq (M.d (mOp gIx (cu 0 (gj 4)))) (M.d (mOp gIx (cu 1 (gj 4))))))) (dSeq (dSub 1 (mVar 4) (M.d (mOp (gInt fMod) (gq (M.d (mOp gAdd (gq (M.d (mOp gIx (cu 1 (gj 4)))) (ret (.int 1))))) (M.d (dz (g1 gL9) (bh (M.d (mOp gIx (cu 0 (gj 4)))) mNil))))))) (dSeq (dSub 2 (mVar 4) (M.d (mOp (gInt fSub) (gq (M.d (mOp gIx (cu 2 (gj 4)))) (ret (.int 1)))))) (dIf (m8 (gCmp fun i j=>decide (j<=i)) (cu 5 (ret (.int 0)))) (dSub 2 (mVar 5) (M.d (mOp gAdd (gq (M.d (mOp gIx (cu 2 (gj 5)))) (ret (.int 1)))))) (dSub 3 (M.d (mOp (gInt fSub) (gq (M.d (mOp (gInt fSub) (gq (ret (.int 0)) (gj 5)))) (ret (.int 1))))) (M.d (mOp gAdd (gq (M.d (mOp gIx (cu 3 (M.d (mOp (gInt fSub) (gq (M.d (mOp (gInt fSub) (gq (ret (.int 0)) (gj 5)))) (ret (.int 1)))))))) (ret (.int 1))))))))))
def ux:Fd:=fnD 6 5 ac1
def age:Sd :=
 (dSeq (dAsg (M.d (mOp gIx (gq (M.d (mLst (bh (mTup (bh (ret (.int 3)) (bh (ret (.int 4)) mNil))) (bh (mTup (bh (ret (.int 4)) (bh (ret (.int 3)) mNil))) (bh (mTup (bh (ret (.int 5)) (bh (ret (.int 3)) mNil))) (bh (mTup (bh (ret (.int 5)) (bh (ret (.int 2)) mNil))) (bh (mTup (bh (ret (.int 4)) (bh (ret (.int 4)) mNil))) (bh (mTup (bh (ret (.int 3)) (bh (ret (.int 6)) mNil))) (bh (mTup (bh (ret (.int 2)) (bh (ret (.int 6)) mNil))) (bh (mTup (bh (ret (.int 8)) (bh (ret (.int 2)) mNil))) mNil)))))))))) (M.d (mFn f__law_draw [some 0,none] (bw 0 (bf (ret (.int 8)) gr))))))) (bTup 2 (gk (bu 1) (gk (bu 2) bNil)))) (dRet (mFn f__law_open [some 0,some 1,some 2] (bw 0 (bw 1 (bw 2 gr))))))
def f__law_wide:Fd:=fnD 3 1 age
def aa9:M Bool :=
 (m8 (gCmp fun i j=>decide (j < i)) (gq (M.d (mOp gIx (cu 1 (gj 0)))) (ret (.int 0))))
def aa4:M D :=
 (mVar 0)
def v5:M Bool :=
 (m8 (gCmp fun i j=>decide (j < i)) (gq (M.d (dz (g1 ax8) (dg 3 mNil))) (ret (.int 0))))
def v4:Sd :=
 (dSeq (dSet 6 (xj [none,some 3] (mGet uw (bh (M.d (dz (g1 gL9) (dg 1 mNil))) mNil)) (bu 0) aa9 aa4)) (dSeq (abw (M.v (mMut 5 aek (bh (M.d (mOp gIx (cu 6 (M.d (mFn f__law_draw [some 0,none] (bw 0 (bf (M.d (dz (g1 gL9) (dg 6 mNil))) gr))))))) mNil)))) (abw (mFn ux [some 1,some 2,some 3,some 4,none] (bw 1 (bw 2 (bw 3 (bw 4 (bf (M.d (mOp gIx (cu 5 (mUn gNeg (ret (.int 1)))))) gr)))))))))
def ae2:Sd :=
 (dSeq (ayw 2 3 4 (dz (g1 fun d=>(itemsD d).map fun l=>.fr l) (dg 2 mNil)) (dz (g1 fun d=>(itemsD d).map fun l=>.fr l) (dg 3 mNil)) (mLst (bh (ret (.int 0)) (bh (ret (.int 0)) (bh (ret (.int 0)) mNil))))) (dSeq (dSet 5 (mLst mNil)) (dSeq (whileD v5 v4 fuel) (dRet (aid 5)))))
def vq:Fd:=fnD 7 4 ae2
def j9:Sd :=
 (dIf (m8 (gCmp fun i j=>decide (j<=i)) (cu 8 (ret (.int 0)))) (dSub 4 (mVar 8) (M.d (mOp gAdd (gq (M.d (mOp gIx (cu 4 (gj 8)))) (gj 9))))) (dSub 5 (M.d (mOp (gInt fSub) (gq (mUn gNeg (ret (.int 1))) (gj 8)))) (M.d (mOp gAdd (gq (M.d (mOp gIx (cu 5 (M.d (mOp (gInt fSub) (gq (mUn gNeg (ret (.int 1))) (gj 8))))))) (gj 9))))))
def qt:Sd :=
 (dFor (mGet ag1 (bh (mVar 6) (bh (mVar 7) mNil))) (bTup 2 (gk (bu 8) (gk (bu 9) bNil))) j9)
def yu:Sd :=
 (dSeq (dSet 4 (dz (g1 fun d=>(itemsD d).map fun l=>.fr l) (dg 2 mNil))) (dSeq (dSet 5 (mLst (bh (ret (.int 0)) (bh (ret (.int 0)) (bh (ret (.int 0)) mNil))))) (dSeq (dFor (mGet ag1 (bh (mVar 0) (bh (M.d (mFn vp [none,none,none] (bf (mVar 0) (bf (mVar 1) (bf (M.d (mOp gIx (cu 3 (ret (.int 2))))) gr))))) mNil))) (bTup 2 (gk (bu 6) (gk (bu 7) bNil))) qt) (dRet (M.v (mAnd (M.d (mOp (gEq false) (gq (M.d (dz (g1 gT9) (dg 4 mNil))) (M.d (mOp gIx (cu 3 (ret (.int 2)))))))) (mAnd (M.d (mOp (gEq false) (gq (M.d (dz (g1 gT9) (dg 5 mNil))) (M.d (mOp gIx (cu 3 (ret (.int 0)))))))) (M.d (mOp (gEq false) (gq (M.d (dz (g1 gSum) (dg 5 mNil))) (M.d (dz (g1 gSum) (dg 2 mNil)))))))))))))
def lu:Fd:=fnD 10 4 yu
def arh:M D :=
 (ret (.int 0))
def arf:M D :=
 (aqf 1 (bh (mVar 0) mNil))
def am5:M D :=
 (M.d (mOp gAdd (cu 0 (gj 1))))
def amt:Sd :=
 (dSeq (dSet 9 (mFn vq [some 2,some 3,some 4,some 5] (bw 2 (bw 3 (bw 4 (bw 5 gr)))))) (dSeq (dIf (m8 (gEq true) (gq (M.d (mFn aam [none,none,none,none] (bf (mVar 3) (bf (mVar 4) (bf (mVar 5) (bf (mVar 9) gr)))))) (mTup (bh (M.d (mOp gIx (cu 6 (ret (.int 1))))) (bh (mVar 7) (bh (M.d (mOp gIx (cu 6 (ret (.int 0))))) mNil)))))) (dRet (M.v (ret (.bl false)))) dNx) (dSeq (dIf (m8 (gEq true) (gq (M.d (dz (g1 gT9) (bh (M.d (xj [none,some 9] (mGet uw (bh (M.d (dz (g1 gL9) (dg 3 mNil))) mNil)) (bu 0) (ret true) arf)) mNil))) (M.d (mOp gIx (cu 6 (ret (.int 2))))))) (dRet (M.v (ret (.bl false)))) dNx) (dSeq (dSet 10 (mFn f__law_draw [some 2,none] (bw 2 (bf (M.d (mOp gAdd (gq (M.d (dz (g1 gL9) (dg 9 mNil))) (ret (.int 1))))) gr)))) (dSeq (dAsg (M.d (mFn aam [none,none,none,none] (bf (mVar 3) (bf (mVar 4) (bf (mVar 5) (bf (M.d (at4 9 (ret none) (ald (mVar 10)))) gr)))))) (bTup 3 (gk (bu 11) (gk (bu 12) (gk (bu 13) bNil))))) (dSeq (dSet 14 (mFn ahj [none,none,none] (bf (mVar 3) (bf (mVar 11) (bf (mVar 12) gr))))) (dIf (mOrB (m8 (gEq true) (gq (M.d (mOp gIx (cu 14 (ret (.int 1))))) (M.d (mOp gIx (cu 6 (ret (.int 1))))))) (m8 (gEq true) (gq (M.d (dz (g1 gT9) (bh (M.d (xj [none,none] (mGet ag1 (bh (mVar 13) (bh (M.d (mOp gIx (cu 14 (ret (.int 0))))) mNil))) (bTup 2 (gk (bu 0) (gk (bu 1) bNil))) (ret true) am5)) mNil))) (M.d (mOp gIx (cu 6 (ret (.int 0)))))))) (dRet (M.v (ret (.bl false)))) dNx)))))))
def l2_law:Sd :=
 (dSeq (dSet 2 (mFn f__law_pen [some 1] (bw 1 gr))) (dSeq (dSet 3 (mFn f__law_wide [some 2] (bw 2 gr))) (dSeq (dPar 4 5 (bh (M.d (mFn f__law_drawn [some 2,none] (bw 2 (bf (mVar 3) gr)))) (bh (M.d (mFn qj [some 2,none,none] (bw 2 (bf (mVar 3) (bf (ret (.int 3)) gr))))) mNil))) (dSeq (dSet 6 (mFn ahj [none,none,none] (bf (mVar 3) (bf (mVar 4) (bf (mVar 5) gr))))) (dSeq (dSet 7 (dz (g1 gT9) (bh (M.d (xj [none] (abe (mVar 3)) (bu 0) (ret true) arh)) mNil))) (dSeq (dIf (mOrB (ae7 (abm (M.d (mFn lu [none,none,some 5,some 6] (bf (mVar 3) (bf (mVar 4) (bw 5 (bw 6 gr)))))))) (ae7 (abm (M.d (mFn aan [none,none,none,none] (bf (mVar 3) (bf (mVar 4) (bf (mVar 5) (bf (M.d (mOp gIx (cu 6 (ret (.int 2))))) gr))))))))) (dRet (M.v (ret (.bl false)))) dNx) (dFor (mGet uw (bh (ret (.int 2)) mNil)) (bu 8) amt)))))))
def a1s:Sd :=
 (dSeq (dFor (abe (M.d (mOp gAdd (gq (M.d (mLst (bh (M.d (mFn f__law_cell [some 0,none] (bw 0 (bf (ret (.int 0)) gr)))) mNil))) (M.d (at4 0 (ald (ret (.int 1))) (ald (ret (.int 3))))))))) (bu 1) l2_law) (dRet (M.v (ret (.bl true)))))
def aq6:Fd:=fnD 15 1 a1s
def al5:D->Bool
 | .int _=>true
 | _=>false
def ad1(a b:Int):D->Bool
 | .int i=>decide (a<=i)&&decide (i<=b)
 | _=>false
@[simp] theorem axz(d:D):wz [.val d]=some (.ok (.v (.bl (al5 d))),[.val d]):=by
 cases d <;> simp[wz,ahh,isTy,al5]
@[simp] theorem amv(d:D)(a b:Int):jm [.val d,.val (.int a),.val (.int b)]=some (.ok (.v (.bl (ad1 a b d))),[.val d,.val (.int a),.val (.int b)]):=by
 cases d <;> simp[jm,aak,al5,ad1]
theorem aru(ns:List Int)(k:Int)(h:0<=k):∃n,f__law_cell [.val (.kst (ns.map D.int)),.val (.int k)]=some (.ok (.v (.int n)),[.val (.kst (ns.map D.int)),.val (.int k)]):=by
 by_cases hk:k < (ns.length:Int)
 ·have e:atI (ns.map D.int) k=some (.int (ns[k.toNat]'(by omega))):=by
   have h2:atI (ns.map D.int) ((k.toNat:Nat):Int)=some (.int (ns[k.toNat]'(by omega))):=ais (by simp[aO,aC (show k.toNat < ns.length by omega)])
   rw[show((k.toNat:Nat):Int)=k by omega] at h2
   exact h2
  exact⟨ns[k.toNat]'(by omega),by simp[f__law_cell,ac3,hk,e]⟩
 ·exact⟨0,by simp[f__law_cell,ac3,hk]⟩
noncomputable def pen(P:Int×Int):List D:=[.int P.1,.int P.2]
theorem atm(n:Int):∃P,f__law_pen [.val (.int n)]=some (.ok (.fr (pen P)),[.val (.int n)]):=by
 refine⟨(if 0 - n > n then 0 - n else n,if 10 ^ 18<=(if 0 - n > n then 0 - n else n) then 1 else 0),?_⟩
 simp[f__law_pen,ahi,pen,fPow]
theorem o9(P:Int×Int)(m:Int)(h0:0 < m)(h1:m < 1000000000000000000000000000000000000000000000000000000000000):∃r P',f__law_draw [.own (some 0) (pen P),.val (.int m)]=some (.ok (.v (.int r)),[.own (some 0) (pen P'),.val (.int m)])/\0<=r/\r < m:=by
 obtain⟨a,b⟩:=P
 by_cases hb:b=1
 ·refine⟨a % m,(a / m,b),?_,fZ _ (by omega),dW _ h0⟩
  simp[f__law_draw,ac2,pen,hb,h0,h1,atI,ixN]
 ·have z0:0<=(a % 2147483647+40503)*69621 % 2147483629:=fZ _ (by decide)
  have z1:(a % 2147483647+40503)*69621 % 2147483629 < 2147483629:=dW _ (by decide)
  generalize hz:(a % 2147483647+40503)*69621 % 2147483629=z at z0 z1;have hm:fMul z z=some (z*z):=by
   unfold fMul;rw[if_pos (.inl ⟨by omega,by omega⟩)]
  refine⟨((z*z+7817) % 2147483587*48271+11) % 2147483629 / 32 % m,(((z*z+7817) % 2147483587*48271+11) % 2147483629,b),?_,fZ _ (by omega),dW _ h0⟩
  have h69:∀x:Int,fMul x 69621=some (x*69621):=fun x=>by unfold fMul;rw[if_pos (.inr (by decide))]
  have h48:∀x:Int,fMul x 48271=some (x*48271):=fun x=>by unfold fMul;rw[if_pos (.inr (by decide))]
  simp[f__law_draw,ac2,pen,hb,h0,h1,atI,ixN,h69,h48,hm,fMod,fDiv,hz]
structure HouseOk (m w:Int) (qv:LL9):Prop where
 one:1<=qv.length
 most:(qv.length:Int)<=m
 room:∀r∈qv,1<=r.length/\(r.length:Int)<=w/\∀x∈r,-3<=x/\x < (qv.length:Int)
def hDs(qv:LL9):List D:=qv.map fun r=>D.tup (r.map D.int)
def hD(qv:LL9):D:=.tup (hDs qv)
theorem aom(P:Int×Int)(m w:Int)(m1:1<=m)(m2:m<=10)(w1:1<=w)(w2:w<=6):∃qv P',f__law_house [.own (some 0) (pen P),.val (.int m),.val (.int w)]=some (.ok (.v (hD qv)),[.own (some 0) (pen P'),.val (.int m),.val (.int w)])/\HouseOk m w qv:=by
 obtain⟨r1,P1,e1,r1a,r1b⟩:=o9 P m (by omega) (by omega)
 obtain⟨r2,P2,e2,r2a,r2b⟩:=o9 P1 4 (by decide) (by decide)
 have hg:∃g:Int,atI [D.int 0,D.int 1,D.int 3,D.int 3] r2=some (.int g)/\0<=g/\g<=3:=by
  have:r2=0∨r2=1∨r2=2∨r2=3:=by omega
  rcases this with rfl | rfl | rfl | rfl
  ·exact⟨0,rfl,by decide,by decide⟩
  ·exact⟨1,rfl,by decide,by decide⟩
  ·exact⟨3,rfl,by decide,by decide⟩
  ·exact⟨3,rfl,by decide,by decide⟩
 obtain⟨g,eg,g0,g3⟩:=hg;have loop:=yw (b:=bu 6) (g:=aaz) (fun i ρ=>∃qv P o1 o2,ρ=[.own (some 0) (pen P),.val (.int m),.val (.int w),.val (.int (1+r1)),.val (.int g),.own none (hDs qv),o1,o2]/\qv.length=i/\∀r∈qv,1<=r.length/\(r.length:Int)<=w/\∀x∈r,-3<=x/\x < 1+r1)
  (l:=jy 0 (1+r1).toNat) (ρ:=[.own (some 0) (pen P2),.val (.int m),.val (.int w),.val (.int (1+r1)),.val (.int g),.own none [],.emp,.emp]) 0 ⟨[],P2,.emp,.emp,rfl,rfl,by simp⟩ ?_
 ·obtain⟨ρ',e3,qv,P3,o1,o2,rfl,hl,hr⟩:=loop;have hl:qv.length=(1+r1).toNat:=by simpa[jy] using hl
  refine⟨qv,P3,?_,by omega,by omega,fun r h =>?_⟩
  ·have hb:(1+r1).natAbs < 4611686018427387904:=by omega
   simp[f__law_house,ae3,e1,e2,eg,hb,e3,hD]
  ·obtain⟨a,b,c⟩:=hr r h;exact⟨a,b,fun x hx=>by have:=c x hx;omega⟩
 ·rintro i d ρ hd ⟨qv,P4,o1,o2,rfl,hl,hr⟩
  obtain⟨r5,P5,e5,r5a,r5b⟩:=o9 P4 w (by omega) (by omega)
  have comp:=t8 (b:=bu 0) (mc:=ret true) (me:=aa5) (fun j ys ρ=>∃ns P o,ρ=[o,.own (some 1) (pen P),.val (.int (1+r1)),.val (.int g)]/\ys=ns.map D.int/\ns.length=j/\∀x∈ns,-3<=x/\x < 1+r1)
   (l:=jy 0 (1+r5).toNat) (ys:=[]) (ρ:=[.emp,.own (some 1) (pen P5),.val (.int (1+r1)),.val (.int g)]) 0 ⟨[],P5,.emp,rfl,rfl,rfl,by simp⟩ ?_
  ·obtain⟨ys,ρ',e6,ns,P6,o,rfl,rfl,hn,hx⟩:=comp;have hn:ns.length=(1+r5).toNat:=by simpa[jy] using hn
   have hb:(1+r5).natAbs < 4611686018427387904:=by omega
   have hc1:ns.length<=capS:=bj (by omega)
   have hi:i < (1+r1).toNat:=by
    have:=(aN.mp hd).1
    simpa[jy] using this
   have hc2:(hDs qv).length < capS:=by simp[hDs,capS];omega
   refine⟨_,[.own (some 0) (pen P6),.val (.int m),.val (.int w),.val (.int (1+r1)),.val (.int g),.own none (hDs (qv++[ns])),.val d,.val (.int (1+r5))],rfl,.inl (by simp[aaz,e5,hb,e6,hc1,hc2];simp[hDs]),qv++[ns],P6,_,_,rfl,by simp[hl],fun r h =>?_⟩
   rcases cO.mp h with h | h
   ·exact hr r h
   ·obtain rfl:r=ns:=by simpa using h
    exact⟨by omega,by omega,hx⟩
  ·rintro j d ys ρ hd ⟨ns,P6,o,rfl,rfl,hn,hx⟩
   obtain⟨r7,P7,e7,r7a,r7b⟩:=o9 P6 (1+r1+g) (by omega) (by omega)
   refine⟨_,_,true,rfl,rfl,.inr ⟨rfl,.int (r7 - g),_,by simp[aa5,e7];rfl,ns++[r7 - g],P7,_,rfl,by simp,by simp[hn],fun x h =>?_⟩⟩
   rcases cO.mp h with h | h
   ·exact hx x h
   ·obtain rfl:x=r7 - g:=by simpa using h
    omega
structure Hs (qv:LL9):Prop where
 one:1<=qv.length
 most:qv.length<=10
 room:∀r∈qv,1<=r.length/\r.length<=6/\∀x∈r,-3<=x/\x < (qv.length:Int)
noncomputable def dr(qv:LL9)(x:Int):List Int:=qv.getD x.toNat []
inductive Rch (qv:LL9) (a:Int):Int->Prop
 | base:Rch qv a a
 | step {x d:Int}:Rch qv a x->0<=x->d∈dr qv x->Rch qv a d
theorem agv{qv:LL9}{x:Int}(h0:0<=x)(h1:x < (qv.length:Int)):atI (hDs qv) x=some (.tup ((dr qv x).map D.int)):=by
 have hk:x.toNat < qv.length:=by omega
 have q:atI (hDs qv) ((x.toNat:Nat):Int)=some (.tup ((dr qv x).map D.int)):=ais (by simp[hDs,dr,aC hk])
 rw[show((x.toNat:Nat):Int)=x by omega] at q
 exact q
theorem Hs.dr{qv:LL9}(h:Hs qv){x:Int}(h0:0<=x)(h1:x < (qv.length:Int)):1<=(dr qv x).length/\(My.dr qv x).length<=6/\∀y∈My.dr qv x,-3<=y/\y < (qv.length:Int):=by
 have hk:x.toNat < qv.length:=by omega
 have e:My.dr qv x=qv[x.toNat]:=by simp[My.dr,hk]
 rw[e];exact h.room _ (bT hk)
theorem Rch.range{qv:LL9}(h:Hs qv){a x:Int}(ha:0<=a/\a < (qv.length:Int))(r:Rch qv a x) : -3<=x/\x < (qv.length:Int):=by
 induction r with
 | base=>omega
 | step r h0 hd ih=>exact(h.dr h0 ih.2).2.2 _ hd
theorem ajq:∀(m:Nat) (l:List Int),l.Nodup->(∀x∈l,-3<=x/\x < (m:Int) - 3)->l.length<=m
 | 0,l,_,h=>by
  cases l with
  | nil=>simp
  | cons x r=>have:=h x (aR ..);omega
 | m+1,l,hn,h=>by
  have h1:(l.erase ((m:Int) - 3)).length<=m:=ajq m _ (hn.erase _) fun x hx=>by
   rw[hn.mem_erase_iff] at hx;have:=h x hx.2;have:=hx.1;omega
  have h2:l.length<=(l.erase ((m:Int) - 3)).length+1:=by
   rw[vH];split <;> omega
  omega
theorem awr{qv:LL9}(h:Hs qv){a:Int}(ha:0<=a/\a < (qv.length:Int)){ns:List Int}(hn:ns.Nodup)(hr:∀x∈ns,Rch qv a x):ns.length<=13:=by
 have:=ajq (qv.length+3) ns hn fun x hx=>by have:=Rch.range h ha (hr x hx);omega
 have:=h.most;omega
theorem anr{qv:LL9}{a:Int}{ns:List Int}(h0:a∈ns)(hc:∀x∈ns,0<=x->∀d∈dr qv x,d∈ns){x:Int}(r:Rch qv a x):x∈ns:=by
 induction r with
 | base=>exact h0
 | step r h0 hd ih=>exact hc _ ih h0 _ hd
theorem a2o{ns:List Int}{i:Nat}(h:i < ns.length):atI (ns.map D.int) (i:Int)=some (.int ns[i]):=ais (by simp[aC h])
def a2w(qv:LL9)(S:Sl):Prop:=S=.val (hD qv)∨S=.own (some 0) (hDs qv)
theorem ajd{qv:LL9}(h:Hs qv){S:Sl}(hS:a2w qv S){a:Int}{ns:List Int}{i:Nat}(hi:i < ns.length)(hz:ns.length<=13)(hx:ns[i] < (qv.length:Int)) :
  j8 [S,.val (.int a),.own none (ns.map D.int),.val (.int (i:Nat))]=some (.nx,[S,.val (.int a),.own none ((if 0<=ns[i] then ns++(setI (dr qv ns[i])).filter (fun d => !decide (d∈ns)) else ns).map D.int),.val (.int ((i:Nat)+1))]):=by
 have ei:=a2o hi
 by_cases h0:0<=ns[i]
 ·obtain⟨k1,k2,k3⟩:=h.dr h0 hx;have er:=agv h0 hx;have es:=aqw (ns:=dr qv ns[i]) (by omega)
  have ef:compD (bu 0) yh yg ((setI (dr qv ns[i])).map D.int) [] [.emp,.own (some 1) (ns.map D.int)]=some (.ok (((setI (dr qv ns[i])).filter (fun d => !decide (d∈ns))).map D.int),abo .emp ((setI (dr qv ns[i])).map D.int)::[.own (some 1) (ns.map D.int)]):=by
   rw[rz (p:=fun d=>match d with | .int k => !decide (k∈ns) | _=>false) (f:=id)]
   ·simp[nY,jX]
   ·intro d hd;obtain⟨k,_,rfl⟩:=cW.mp hd;simp[yh,alo]
   ·intro d hd _;simp[yg]
  have hlen:(setI (dr qv ns[i])).length<=6:=by
   unfold setI;rw[(sortI_perm _).length_eq];exact cF (acz _) k2
  have hc1:((setI (dr qv ns[i])).filter (fun d => !decide (d∈ns))).length<=6:=cF (fG _ _) hlen
  have hc2:ns.length+((setI (dr qv ns[i])).filter (fun d => !decide (d∈ns))).length<=capS:=bj (by omega)
  have hc3:((setI (dr qv ns[i])).filter (fun d => !decide (d∈ns))).length<=capS:=bj (by omega)
  rcases hS with rfl | rfl
  ·simp[j8,hD,ei,h0,er,es,ef,hc1,hc2,hc3]
  ·simp[j8,ei,h0,er,es,ef,hc1,hc2,hc3]
 ·simp[j8,ei,h0]
theorem aje{qv:LL9}(h:Hs qv){S:Sl}(hS:a2w qv S){a:Int}(ha:0<=a/\a < (qv.length:Int)) :
  ∃ns:List Int,ql [S,.val (.int a)]=some (.ok (.fr (ns.map D.int)),[S,.val (.int a)])/\ns≠[]/\∀x,x∈ns↔Rch qv a x:=by
 have loop:=v9 (c:=nu) (g:=j8)
  (fun k ρ=>∃(ns:List Int) (i:Nat),ρ=[S,.val (.int a),.own none (ns.map D.int),.val (.int (i:Nat))]/\k=20 - i/\i<=ns.length/\ns.Nodup/\a∈ns/\(∀x∈ns,Rch qv a x)/\∀j (hj:j < ns.length),j < i->0<=ns[j]->∀d∈dr qv ns[j],d∈ns)
  (fun ρ=>∃(ns:List Int) (o:Sl),ρ=[S,.val (.int a),.own none (ns.map D.int),o]/\ns≠[]/\∀x,x∈ns↔Rch qv a x) ?_ fuel 20 [S,.val (.int a),.own none ([a].map D.int),.val (.int ((0:Nat):Int))] (lH (by decide) adx)
  ⟨[a],0,rfl,rfl,by simp,by simp,by simp,by simp;exact .base,fun j hj hlt=>absurd hlt (nR _)⟩
 ·obtain⟨ρ',e,ns,o,rfl,hne,hm⟩:=loop;have e:whileD nu j8 fuel [S,.val (.int a),.own none [.int a],.val (.int 0)]=some (.nx,[S,.val (.int a),.own none (ns.map D.int),o]):=e;refine⟨ns,?_,hne,hm⟩;rcases hS with rfl | rfl <;> simp[ql,acr,e]
 ·rintro k ρ ⟨ns,i,rfl,rfl,hi,hn,h0,hr,hc⟩
  have hz:=awr h ha hn hr
  by_cases hlt:i < ns.length
  ·refine .inr ⟨[S,.val (.int a),.own none (ns.map D.int),.val (.int (i:Nat))],_,20 - (i+1),?_,ajd h hS hlt hz (Rch.range h ha (hr _ (bT hlt))).2,by omega,?_⟩
   ·have:(i:Int) < (ns.length:Int):=by omega
    rcases hS with rfl | rfl <;> simp[nu,this]
   ·by_cases hp:0<=ns[i]
    ·rw[if_pos hp];refine⟨_,i+1,rfl,rfl,by simp;omega,?_,gR _ h0,?_,?_⟩
     ·rw[vG];refine⟨hn,nZ uK (aod _),fun x hx y hy e =>?_⟩
      have:=(cM.mp hy).2;subst e;simp[hx] at this
     ·intro x hx;rcases cO.mp hx with hx | hx
      ·exact hr x hx
      ·exact .step (hr _ (bT hlt)) hp ((amm _ _).mp (cM.mp hx).1)
     ·intro j hj hji hjp d hd;have hjl:j < ns.length:=by omega
      rw[List.getElem_append_left hjl] at hjp hd;rcases iR j i with z | z
      ·exact gR _ (hc j hjl z hjp d hd)
      ·have:j=i:=by omega
       subst this
       by_cases hdn:d∈ns
       ·exact gR _ hdn
       ·exact cX _ (cM.mpr ⟨(amm _ _).mpr hd,by simp[hdn]⟩)
    ·rw[if_neg hp];refine⟨_,i+1,rfl,rfl,hlt,hn,h0,hr,?_⟩;intro j hj hji hjp d hd;rcases iR j i with z | z
     ·exact hc j hj z hjp d hd
     ·have:j=i:=by omega
      subst this;exact absurd hjp hp
  ·refine .inl ⟨[S,.val (.int a),.own none (ns.map D.int),.val (.int (i:Nat))],?_,ns,_,rfl,List.ne_nil_of_mem h0,fun x=>⟨hr x,anr h0 fun y hy hp d hd =>?_⟩⟩
   ·have:¬(i:Int) < (ns.length:Int):=by omega
    rcases hS with rfl | rfl <;> simp[nu,this]
   ·obtain⟨j,hj,rfl⟩:=fO.mp hy;exact hc j hj (by omega) hp d hd
open Classical in
noncomputable def caught(qv:LL9)(a:Int):Bool:=decide (∀x,Rch qv a x->0<=x)
theorem xf(qv:LL9)(a:Int):caught qv a=true↔∀x,Rch qv a x->0<=x:=by
 unfold caught;exact @decide_eq_true_iff _ (Classical.propDecidable _)
def upto(n:Nat):List Int:=(bG n).map fun i=>((i:Nat):Int)
theorem xg(n:Nat):jy 0 n=(upto n).map D.int:=by
 unfold jy upto;rw[fD];apply jH;intro i _;simp
theorem jx{n:Nat}{x:Int}(h:x∈upto n):0<=x/\x < (n:Int):=by
 obtain⟨i,hi,rfl⟩:=cW.mp h;have:=dG.mp hi;omega
noncomputable def aau(qv:LL9):List Int:=(upto qv.length).filter (caught qv)
theorem afn{qv:LL9}(h:Hs qv):(qv.length:Int).natAbs < 4611686018427387904:=by have:=h.most;omega
theorem aps{qv:LL9}(h:Hs qv):uw [.int (qv.length:Int)]=some (jy 0 qv.length):=by
 rw[aln,if_pos (afn h),aX]
def keepI(qv:LL9)(S:List Int):List Int:=S.filter fun x=>(dr qv x).all fun d=>decide (d∈S)
theorem awc{qv:LL9}(h:Hs qv)(S:List Int){x:Int}(h0:0<=x)(h1:x < (qv.length:Int)) :
  aio [.val (.int x),.val (.lst (S.map D.int)),.val (hD qv)]=some (.ok ((dr qv x).all fun d=>decide (d∈S)),[.val (.int x),.val (.lst (S.map D.int)),.val (hD qv)]):=by
 have er:=agv h0 h1;obtain⟨k1,k2,k3⟩:=h.dr h0 h1;have ef:compD (bu 0) (ret true) alv ((dr qv x).map D.int) [] [.emp,.val (.lst (S.map D.int))]=some (.ok ((dr qv x).map fun d=>.bl (decide (d∈S))),abo .emp ((dr qv x).map D.int)::[.val (.lst (S.map D.int))]):=by
  rw[aap (f:=fun d=>match d with | .int k=>.bl (decide (k∈S)) | _=>.non)]
  ·simp
  ·intro d hd;obtain⟨k,_,rfl⟩:=cW.mp hd;simp[alv,alo]
 have hc:(dr qv x).length<=capS:=bj (by omega)
 have hb:uc ((dr qv x).map fun d=>D.bl (decide (d∈S)))=some ((dr qv x).map fun d=>decide (d∈S)):=alz _ _
 simp[aio,hD,er,ef,hc,hb,jX]
theorem apd{qv:LL9}(h:Hs qv)(S:List Int)(hS:∀x∈S,0<=x/\x < (qv.length:Int)) :
  compD (bu 0) aio alu (S.map D.int) [] [.emp,.val (.lst (S.map D.int)),.val (hD qv)]=some (.ok ((keepI qv S).map D.int),abo .emp (S.map D.int)::[.val (.lst (S.map D.int)),.val (hD qv)]):=by
 rw[rz (p:=fun d=>match d with | .int x=>(dr qv x).all fun d=>decide (d∈S) | _=>false) (f:=id)]
 ·simp only[keepI,nY,jX,uJ,cU]
 ·intro d hd;obtain⟨k,hk,rfl⟩:=cW.mp hd;exact awc h S (hS k hk).1 (hS k hk).2
 ·intro d hd _;simp[alu]
theorem azn{qv:LL9}(h:Hs qv){S:List Int}(hS:∀x∈S,0<=x/\x < (qv.length:Int))(hl:S.length<=10)(o:Sl) :
  aho [.val (hD qv),.own none (S.map D.int),o]=some (.nx,[.val (hD qv),.own none ((keepI qv S).map D.int),.val (.int (S.length:Nat))]):=by
 have e:=apd h S hS;have hc:(keepI qv S).length<=capS:=bj (cF (fG _ _) (by omega))
 generalize keepI qv S=T at e hc;simp only[hD] at e ⊢
 simp[aho,e,hc]
theorem ate{qv:LL9}{x d y:Int}(h0:0<=x)(hd:d∈dr qv x)(hy:Rch qv d y):Rch qv x y:=by
 induction hy with
 | base=>exact .step .base h0 hd
 | step r h1 hd1 ih=>exact .step ih h1 hd1
theorem apc{qv:LL9}(h:Hs qv):aj6 [.val (hD qv)]=some (.ok (.v (.tup ((aau qv).map D.int))),[.val (hD qv)]):=by
 have hm:=h.most;have ul:(upto qv.length).length=qv.length:=by simp[upto]
 have e0:((upto qv.length).filter fun _=>true)=upto qv.length:=oV.mpr fun _ _=>rfl
 have loop:=v9 (c:=ahq) (g:=aho)
  (fun k ρ=>∃(p:Int->Bool) (m:Nat),ρ=[.val (hD qv),.own none (((upto qv.length).filter p).map D.int),.val (.int (m:Nat))]/\k=m/\((upto qv.length).filter p).length<=m/\(m=((upto qv.length).filter p).length->keepI qv ((upto qv.length).filter p)=(upto qv.length).filter p)/\∀x∈aau qv,p x=true)
  (fun ρ=>∃o,ρ=[.val (hD qv),.own none ((aau qv).map D.int),o]) ?_ fuel (qv.length+1) [.val (hD qv),.own none (((upto qv.length).filter fun _=>true).map D.int),.val (.int ((qv.length+1:Nat):Int))] (lH (show qv.length+1 < 100000 by omega) adx)
  ⟨fun _=>true,qv.length+1,rfl,rfl,by rw[e0,ul];omega,fun z=>by rw[e0,ul] at z;omega,fun _ _=>rfl⟩
 ·obtain⟨ρ',e,o,rfl⟩:=loop;rw[e0] at e;have hb:uw [.int (qv.length:Int)]=some (jy 0 qv.length):=aps h;have hb':qv.length < 1000000:=by omega
  have hl:(hDs qv).length=qv.length:=by simp[hDs]
  have er:=xg qv.length;have hcast:((qv.length+1:Nat):Int)=(qv.length:Int)+1:=by omega
  rw[hcast] at e;simp only[hD] at e ⊢
  simp[aj6,avr,hl,hb',er,ul,e]
 ·rintro k ρ ⟨p,m,rfl,hkm,hle,hcl,hp⟩
  subst hkm;have hS:∀x∈(upto qv.length).filter p,0<=x/\x < (qv.length:Int):=fun x hx=>jx (cM.mp hx).1
  have hl:((upto qv.length).filter p).length<=10:=cF (fG _ _) (by omega)
  by_cases hlt:((upto qv.length).filter p).length < k
  ·refine .inr ⟨_,_,((upto qv.length).filter p).length,?_,azn h hS hl (.val (.int (k:Nat))),hlt,(fun x=>((dr qv x).all fun d=>decide (d∈(upto qv.length).filter p))&&p x),((upto qv.length).filter p).length,?_,rfl,?_,?_,?_⟩
   ·generalize (upto qv.length).filter p=S at hlt;have:(S.length:Int) < (k:Int):=by omega
    simp[ahq,this]
   ·unfold keepI;rw[pD]
   ·rw[<-pD];exact fG _ _
   ·rw[<-pD];intro z;have:keepI qv ((upto qv.length).filter p)=(upto qv.length).filter p:=oV.mpr fun a ha=>by
     by_cases q:((dr qv a).all fun d=>decide (d∈(upto qv.length).filter p))=true
     ·exact q
     ·exfalso;have:(((upto qv.length).filter p).filter fun x=>(dr qv x).all fun d=>decide (d∈(upto qv.length).filter p)).length < ((upto qv.length).filter p).length:=List.length_filter_lt_length_iff_exists.mpr ⟨a,ha,by simpa using q⟩
      omega
    show keepI qv (keepI qv ((upto qv.length).filter p))=keepI qv ((upto qv.length).filter p);rw[this,this]
   ·intro x hx;rw[bF];refine⟨List.all_eq_true.mpr fun d hd=>decide_eq_true ?_,hp x hx⟩
    obtain⟨x1,x2⟩:=cM.mp hx;have hx0:=jx x1;have hd0:0<=d:=(xf qv x).mp x2 d (.step .base hx0.1 hd);have hd1:=((h.dr hx0.1 hx0.2).2.2 d hd).2;have du:d∈upto qv.length:=by
     unfold upto;exact cW.mpr ⟨d.toNat,dG.mpr (by omega),by omega⟩
    have dt:d∈aau qv:=cM.mpr ⟨du,(xf qv d).mpr fun y hy=>(xf qv x).mp x2 y (ate hx0.1 hd hy)⟩
    exact cM.mpr ⟨du,hp d dt⟩
  ·refine .inl ⟨[.val (hD qv),.own none (((upto qv.length).filter p).map D.int),.val (.int (k:Nat))],?_,.val (.int (k:Nat)),?_⟩
   ·generalize (upto qv.length).filter p=S at hlt;have:¬(S.length:Int) < (k:Int):=by omega
    simp[ahq,this]
   ·have hk:=hcl (by omega)
    have:(upto qv.length).filter p=aau qv:=by
     unfold aau;refine List.filter_congr fun x hx =>?_
     by_cases c:caught qv x=true
     ·rw[c];exact hp x (cM.mpr ⟨hx,c⟩)
     ·have:p x=false:=by
       cases q:p x with
       | false=>rfl
       | true =>
        exfalso;refine c ((xf qv x).mpr fun y hy =>?_)
        have:y∈(upto qv.length).filter p:=by
         induction hy with
         | base=>exact cM.mpr ⟨hx,q⟩
         | step r h0 hd ih =>
          rw[<-hk] at ih;have:=fP.mp (cM.mp ih).2 _ hd
          simpa using this
        exact(hS y this).1
      rw[this]
      simpa using c
    rw[this]
theorem HouseOk.hs{m w:Int}{qv:LL9}(h:HouseOk m w qv)(hm:m<=10)(hw:w<=6):Hs qv :=
 ⟨h.one,by have:=h.most;omega,fun r hr=>by obtain⟨a,b,c⟩:=h.room r hr;exact⟨a,by omega,c⟩⟩
theorem apq{n d:Nat}{k:Int}(h0:0<=k):HT.sIx n d (some k)=min k.toNat n:=by
 show(if k < 0 then (k+(n:Int)).toNat else min k.toNat n)=_
 rw[if_neg (by omega)]
theorem a2i{ns:List Int}{k:Int}(h0:0<=k)(h1:k < (ns.length:Int)):cutD (ns.map D.int) none (some k)=(ns.take k.toNat).map D.int:=by
 unfold cutD;rw[apq h0,aF,pA];have:HT.sIx ns.length 0 none=0:=rfl;rw[this,nT (by omega),tQ,rT]
theorem au0{ns:List Int}{k:Int}(h0:0<=k)(h1:k<=(ns.length:Int)):cutD (ns.map D.int) (some k) none=(ns.drop k.toNat).map D.int:=by
 unfold cutD;rw[apq h0,aF,wX];have:HT.sIx ns.length ns.length none=ns.length:=rfl;rw[this,nT (by omega)]
 exact nF (by simp)
noncomputable def bend(r:List Int)(k:Nat)(x:Int):List Int:=r.take k++[x]++r.drop (k+1)
theorem ata(qv:LL9)(j:Nat)(r:List Int):(hDs qv).set j (.tup (r.map D.int))=hDs (qv.set j r):=by
 simp[hDs,fY]
theorem Hs.set{qv:LL9}(h:Hs qv)(j:Nat){r:List Int}(hr:1<=r.length/\r.length<=6/\∀x∈r,-3<=x/\x < (qv.length:Int)):Hs (qv.set j r) :=
 ⟨by rw[bC];exact h.one,by rw[bC];exact h.most,fun q hq=>by
  rw[bC];rcases rP hq with z | rfl
  ·exact h.room q z
  ·exact hr⟩
def Opn(qv:LL9)(a:Int):Prop:=∃x,Rch qv a x/\x < 0
theorem alw{qv:LL9}{k:Int}(h0:0<=k)(h1:k < (qv.length:Int))(r:List Int):dr (qv.set k.toNat r) k=r:=by
 have:k.toNat < qv.length:=by omega
 simp[dr,this]
theorem arj{qv:LL9}{k y:Int}(h0:0<=k)(hy:0<=y)(hne:y≠k)(r:List Int):dr (qv.set k.toNat r) y=dr qv y:=by
 have:k.toNat≠y.toNat:=by omega
 simp[dr,bQ,this]
theorem awq{qv:LL9}{k a y:Int}(h0:0<=k)(r:List Int)(h:Rch qv a y):Rch (qv.set k.toNat r) a y∨Rch qv k y:=by
 induction h with
 | base=>exact .inl .base
 | step p hp hd ih =>
  rename_i x d;rcases ih with ih | ih
  ·by_cases e:x=k
   ·subst e;exact .inr (.step .base hp hd)
   ·exact .inl (.step ih hp (by rw[arj h0 hp e];exact hd))
  ·exact .inr (.step ih hp hd)
theorem ap4{qv:LL9}(h:Hs qv){W:Nat}(hW:∀r∈qv,r.length<=W)(P:Int×Int){A B o:Sl}{k:Int}(h0:0<=k)(h1:k < (qv.length:Int)) :
  ∃rooms' P' o',l1__law_open [.own (some 0) (pen P),A,B,.own none (hDs qv),.val (.int k),o]=some (.nx,[.own (some 0) (pen P'),A,B,.own none (hDs rooms'),.val (.int k),o'])/\Hs rooms'/\(∀r∈rooms',r.length<=W)/\rooms'.length=qv.length/\Opn rooms' k/\∀a,Opn qv a->Opn rooms' a:=by
 obtain⟨ns,e,hne,hm⟩:=aje h (S:=.own (some 0) (hDs qv)) (.inr rfl) ⟨h0,h1⟩;have em:=aup hne
 by_cases z:0<=minI ns
 ·have hcaught:∀x,Rch qv k x->0<=x:=fun x hx=>(aml hne).mp z x ((hm x).mpr hx)
  obtain⟨a1,a2,a3⟩:=h.dr h0 h1;have er:=agv h0 h1;have aw:=hW (dr qv k) (by
   have hk:k.toNat < qv.length:=by omega
   unfold dr;rw[aG,aC hk];exact bT hk)
  generalize hrow:dr qv k=r at a1 a2 a3 er aw;obtain⟨r1,P1,e1,r1a,r1b⟩:=o9 P r.length (by omega) (by omega)
  obtain⟨r2,P2,e2,r2a,r2b⟩:=o9 P1 3 (by decide) (by decide)
  have c1:=a2i (ns:=r) r1a r1b;have c2:=au0 (ns:=r) (k:=r1+1) (by omega) (by omega)
  have hk:(r1+1).toNat=r1.toNat+1:=by omega
  rw[hk] at c2;have ix:ixN (hDs qv).length k=some k.toNat:=by
   have hl:(hDs qv).length=qv.length:=by simp[hDs]
   rw[hl];unfold ixN;simp[h0,h1]
  have k1:(r.take r1.toNat).length<=6:=by rw[gB];omega
  have k2:(r.drop (r1.toNat+1)).length<=6:=by rw[jG];omega
  have k3:(r.take r1.toNat).length+1<=capS:=bj (by omega)
  have k4:(r.take r1.toNat).length+1+(r.drop (r1.toNat+1)).length<=capS:=bj (by omega)
  have hin:(-1 - r2)∈bend r r1.toNat (-1 - r2):=by simp[bend]
  refine⟨qv.set k.toNat (bend r r1.toNat (-1 - r2)),P2,.val (.int r1),?_,h.set _ ?_,fun q hq =>?_,bC,⟨-1 - r2,.step .base h0 (by rw[alw h0 h1];exact hin),by omega⟩,fun a ⟨x,hx,hx0⟩ =>?_⟩
  ·rw[<-ata];unfold bend;generalize r.take r1.toNat=ta at c1 k3 k4;generalize r.drop (r1.toNat+1)=td at c2 k4;simp[l1__law_open,e,em,z,er,e1,e2,c1,c2,k3,k4,ix]
  ·refine⟨by simp[bend];omega,by simp[bend];omega,fun x hx =>?_⟩
   have:=h.one;unfold bend at hx;rcases cO.mp hx with hx | hx
   ·rcases cO.mp hx with hx | hx
    ·exact a3 x (oG hx)
    ·rw[cV] at hx;omega
   ·exact a3 x (List.mem_of_mem_drop hx)
  ·rcases rP hq with z | rfl
   ·exact hW q z
   ·simp[bend];omega
  ·rcases awq h0 (bend r r1.toNat (-1 - r2)) hx with q | q
   ·exact⟨x,q,hx0⟩
   ·have:=hcaught x q;omega
 ·refine⟨qv,P,o,by simp[l1__law_open,e,em,z],h,hW,rfl,?_,fun _ x=>x⟩
  have:¬ ∀y∈ns,0<=y:=fun w=>z ((aml hne).mpr w)
  apply cN;intro w;refine this fun y hy =>?_
  rcases lN y 0 with q | q
  ·exact absurd ⟨y,(hm y).mp hy,q⟩ w
  ·exact q
theorem asx{qv:LL9}(h:∀a,0<=a->a < (qv.length:Int)->Opn qv a):aau qv=[]:=by
 unfold aau;refine List.filter_eq_nil_iff.mpr fun a ha hc =>?_
 obtain⟨x,hx,hx0⟩:=h a (jx ha).1 (jx ha).2;have:=(xf qv a).mp hc x hx;omega
theorem open_spec(P:Int×Int)(m w:Int)(m1:1<=m)(m2:m<=10)(w1:1<=w)(w2:w<=6):∃qv P',f__law_open [.own (some 0) (pen P),.val (.int m),.val (.int w)]=some (.ok (.v (hD qv)),[.own (some 0) (pen P'),.val (.int m),.val (.int w)])/\Hs qv/\aau qv=[]/\(qv.length:Int)<=m/\∀r∈qv,r.length<=w.toNat:=by
 obtain⟨qv,P1,e1,ho⟩:=aom P m w m1 m2 w1 w2;have h:=ho.hs m2 w2;have loop:=yw (b:=bu 4) (g:=l1__law_open) (fun i ρ=>∃rs P o1 o2,ρ=[.own (some 0) (pen P),.val (.int m),.val (.int w),.own none (hDs rs),o1,o2]/\Hs rs/\(∀r∈rs,r.length<=w.toNat)/\rs.length=qv.length/\∀a:Int,0<=a->a < (i:Int)->Opn rs a)
  (l:=jy 0 qv.length) (ρ:=[.own (some 0) (pen P1),.val (.int m),.val (.int w),.own none (hDs qv),.emp,.emp]) 0 ⟨qv,P1,.emp,.emp,rfl,h,fun r hr=>by have:=(ho.room r hr).2.1;omega,rfl,fun a x y=>by omega⟩ ?_
 ·obtain⟨ρ',e2,rs,P2,o1,o2,rfl,hs,hw,hl,hop⟩:=loop;refine⟨rs,P2,?_,hs,asx fun a x y=>hop a x (by simp[jy];omega),by rw[hl];exact ho.most,hw⟩
  have hl0:(hDs qv).length=qv.length:=by simp[hDs]
  have hb':qv.length < 4611686018427387904:=by simpa using afn h
  simp[f__law_open,agf,e1,hD,hl0,hb',e2]
 ·rintro i d ρ hd ⟨rs,P3,o1,o2,rfl,hs,hw,hl,hop⟩
  rw[xg,aO] at hd;obtain⟨k,hk,rfl⟩:=bH.mp hd;have hk':=jx (cC hk);have hki:k=(i:Int):=by
   unfold upto at hk;rw[aO] at hk;obtain⟨j,hj,rfl⟩:=bH.mp hk;have hlt:i < qv.length:=by
    have:=(aN.mp hj).1
    simpa using this
   rw[dJ hlt] at hj;cases hj;rfl
  obtain⟨rs',P4,o',e3,hs',hw',hl',h5,h6⟩:=ap4 hs hw P3 (A:=.val (.int m)) (B:=.val (.int w)) (o:=o2) hk'.1 (by rw[hl];exact hk'.2)
  refine⟨[.own (some 0) (pen P3),.val (.int m),.val (.int w),.own none (hDs rs),.val (.int k),o2],_,rfl,.inl e3,rs',P4,_,_,rfl,hs',hw',hl'.trans hl,fun a x y =>?_⟩
  by_cases q:a=k
  ·rw[q];exact h5
  ·exact h6 a (hop a x (by omega))
theorem mq(qv:LL9):(hDs qv).length=qv.length:=by simp[hDs]
theorem af8{qv:LL9}{i:Nat}{d:D}(h:(hDs qv)[i]? = some d):∃r,qv[i]? = some r/\d=.tup (r.map D.int):=by
 unfold hDs at h;rw[aO] at h;obtain⟨r,e,rfl⟩:=bH.mp h;exact⟨r,e,rfl⟩
structure Arr (qv:LL9) (as:List Int):Prop where
 len:as.length=qv.length
 ok:∀(i:Nat) (a:Int) (r:List Int),as[i]? = some a->qv[i]? = some r->0<=a/\a < (r.length:Int)
def ar(as:List Int)(x:Int):Int:=as.getD x.toNat 0
theorem Arr.at{qv:LL9}{as:List Int}(h:Arr qv as){x:Int}(h0:0<=x)(h1:x < (qv.length:Int)):0<=ar as x/\ar as x < ((dr qv x).length:Int):=by
 have hk:x.toNat < qv.length:=by omega
 have hk2:x.toNat < as.length:=by rw[h.len];exact hk
 have:=h.ok x.toNat as[x.toNat] qv[x.toNat] (aC hk2) (aC hk)
 simpa[ar,dr,hk,hk2] using this
theorem al2(P:Int×Int){qv:LL9}(h:Hs qv):∃as P',f__law_drawn [.own (some 0) (pen P),.val (hD qv)]=some (.ok (.v (.tup (as.map D.int))),[.own (some 0) (pen P'),.val (hD qv)])/\Arr qv as:=by
 have comp:=t8 (b:=bu 0) (mc:=ret true) (me:=aa6) (fun j ys ρ=>∃ns P o,ρ=[o,.own (some 1) (pen P)]/\ys=ns.map D.int/\ns.length=j/\∀(i:Nat) (a:Int) (r:List Int),ns[i]? = some a->qv[i]? = some r->0<=a/\a < (r.length:Int))
  (l:=hDs qv) (ys:=[]) (ρ:=[.emp,.own (some 1) (pen P)]) 0 ⟨[],P,.emp,rfl,rfl,rfl,by simp⟩ ?_
 ·obtain⟨ys,ρ',e6,ns,P6,o,rfl,rfl,hn,hx⟩:=comp;rw[mq,cT] at hn;have hc:ns.length<=capS:=bj (by have:=h.most;omega)
  exact⟨ns,P6,by simp[f__law_drawn,ae4,hD,e6,hc],hn,hx⟩
 ·rintro j d ys ρ hd ⟨ns,P6,o,rfl,rfl,hn,hx⟩
  obtain⟨r,hr,rfl⟩:=af8 hd;obtain⟨k1,k2,k3⟩:=h.room r (cC hr);obtain⟨r7,P7,e7,r7a,r7b⟩:=o9 P6 (r.length:Int) (by omega) (by omega)
  refine⟨_,_,true,rfl,rfl,.inr ⟨rfl,.int r7,[.val (.tup (r.map D.int)),.own (some 1) (pen P7)],by simp[aa6,e7],ns++[r7],P7,_,rfl,by simp,by simp[hn],fun i a q ha hq =>?_⟩⟩
  rcases iR i ns.length with z | z
  ·rw[bB z] at ha;exact hx i a q ha hq
  ·have hi:i=ns.length:=by
    have:=(aN.mp ha).1;simp at this;omega
   subst hi;simp at ha;subst ha;have:ns.length=j:=by omega
   rw[this,hr] at hq;cases hq;exact⟨r7a,r7b⟩
def gone(qv:LL9)(as:List Int)(k:Int):List Int:=as.set k.toNat ((ar as k+1) % ((dr qv k).length:Int))
def led(qv:LL9)(as:List Int)(k:Int):Int:=(dr qv k).getD (ar as k).toNat 0
section
variable{qv:LL9}(h:Hs qv){as:List Int}(ha:Arr qv as){k:Int}(h0:0<=k)(h1:k < (qv.length:Int))
include h ha h0 h1
theorem ane:atI (as.map D.int) k=some (.int (ar as k)):=qd h0 (by rw[ha.len];exact h1)
theorem ay7:atI ((dr qv k).map D.int) (ar as k)=some (.int (led qv as k)):=qd (ha.at h0 h1).1 (ha.at h0 h1).2
theorem aj5(x:Int):fMod x ((dr qv k).length:Int)=some (x % ((dr qv k).length:Int)):=by
 have:=(h.dr h0 h1).1;unfold fMod;rw[if_pos (by omega)]
end
section
variable{qv:LL9}(h:Hs qv){as:List Int}(ha:Arr qv as){k:Int}(h0:0<=k)(h1:k < (qv.length:Int))
include h ha h0 h1
theorem acb:Arr qv (gone qv as k):=by
 have hd:=(h.dr h0 h1).1;refine⟨by unfold gone;rw[bC];exact ha.len,fun i a r g1 g2 =>?_⟩
 unfold gone at g1;rw[bQ] at g1;split at g1
 ·rename_i hi;subst hi;split at g1
  ·cases g1;have:dr qv k=r:=by simp[dr,g2]
   rw[this] at hd ⊢
   exact⟨Int.emod_nonneg _ (by omega),dW _ (by omega)⟩
  ·cases g1
 ·exact ha.ok i a r g1 g2
end
theorem amr{qv:LL9}(h:Hs qv){as:List Int}(ha:Arr qv as){k:Int}(h0:0<=k)(h1:k < (qv.length:Int)) : -3<=led qv as k/\led qv as k < (qv.length:Int):=by
 obtain⟨a1,a2⟩:=ha.at h0 h1;have hk:(ar as k).toNat < (dr qv k).length:=by omega
 have:led qv as k∈dr qv k:=by
  unfold led;simp[hk]
 exact(h.dr h0 h1).2.2 _ this
theorem aey{qv:LL9}(h:Hs qv){as:List Int}(ha:Arr qv as):xu [.val (hD qv),.val (.tup (as.map D.int))]=some (.ok (.v (.bl true)),[.val (hD qv),.val (.tup (as.map D.int))]):=by
 have hl:=ha.len;have hle:(as.map D.int).length<=(hDs qv).length:=by rw[mq,aF];omega
 have comp:=t8 (b:=bTup 2 (gk (bu 0) (gk (bu 1) bNil))) (mc:=ret true) (me:=abv) (fun j ys ρ=>∃o1 o2,ρ=[o1,o2]/\ys=(aD j true).map D.bl)
  (l:=sr (as.map D.int) (hDs qv)) (ys:=[]) (ρ:=[.emp,.emp]) 0 ⟨.emp,.emp,rfl,rfl⟩ ?_
 ·obtain⟨ys,ρ',e6,o1,o2,rfl,rfl⟩:=comp;rw[aiv hle,aF,cT] at e6;have hc:as.length<=capS:=bj (by have:=h.most;omega)
  have e1:gf [.val (.tup (as.map D.int)),.val (.int (qv.length:Int)),.val (.int (qv.length:Int))]=some (.ok (.v (.bl true)),[.val (.tup (as.map D.int)),.val (.int (qv.length:Int)),.val (.int (qv.length:Int))]):=by
   have:(as.length:Int)=qv.length:=by omega
   simp[gf,p8,isTy,this]
  have hle2:as.length<=(hDs qv).length:=by simpa using hle
  have hl3:=mq qv;have hl4:qv.length<=capS:=hl▸hc;have hbl:uc (aD qv.length (D.bl true))=some (aD qv.length true):=by
   have:=aas (aD qv.length true);rwa[lM] at this
  simp only[hD];simp[xu,agd,hl3,e1,e6,hl,hl4,hbl]
 ·rintro j d ys ρ hd ⟨o1,o2,rfl,rfl⟩
  obtain⟨d1,d2,g1,g2,rfl⟩:=afh hd;obtain⟨r,hr,rfl⟩:=af8 g2;rw[aO] at g1;obtain⟨a,ga,rfl⟩:=bH.mp g1;obtain⟨b0,b1⟩:=ha.ok j a r ga hr;have b2:a<=(r.length:Int) - 1:=by omega
  refine⟨[.val (.int a),.val (.tup (r.map D.int))],_,true,by simp,rfl,.inr ⟨rfl,.bl true,[.val (.int a),.val (.tup (r.map D.int))],by simp[abv,ad1,b0,b2],_,_,rfl,?_⟩⟩
  rw[uA,cG];rfl
@[simp] theorem aeh(qv:LL9)(d:D):m9 [.val (hD qv),.val d]=some (.ok (.v (.bl (ad1 0 ((qv.length:Int) - 1) d))),[.val (hD qv),.val d]):=by
 simp[m9,abf,hD,hDs]
theorem abz{qv:LL9}{bs:List Int}{p:Int}(hp:p.toNat < bs.length):ar (gone qv bs p) p=(ar bs p+1) % ((dr qv p).length:Int):=by
 unfold gone;generalize (ar bs p+1) % ((dr qv p).length:Int)=z;unfold ar;simp[hp]
theorem aeo{qv:LL9}{bs:List Int}{p x:Int}(hx:0<=x)(hp:0<=p)(hne:x≠p):ar (gone qv bs p) x=ar bs x:=by
 have:p.toNat≠x.toNat:=by omega
 unfold gone;generalize (ar bs p+1) % ((dr qv p).length:Int)=z;unfold ar;simp[aG,bQ,this]
theorem ahd:∀(m:Nat) (l:List Int),l.Nodup->(∀x∈l,0<=x/\x < (m:Int))->l.length<=m
 | 0,l,_,h=>by
  cases l with
  | nil=>simp
  | cons x r=>have:=h x (aR ..);omega
 | m+1,l,hn,h=>by
  have h1:(l.erase (m:Int)).length<=m:=ahd m _ (hn.erase _) fun x hx=>by
   rw[hn.mem_erase_iff] at hx;have:=h x hx.2;have:=hx.1;omega
  have h2:l.length<=(l.erase (m:Int)).length+1:=by
   rw[vH];split <;> omega
  omega
theorem least{P:Nat->Prop}:∀n,P n->∃m,P m/\∀i < m,¬P i:=fun n=>by
 induction n using Nat.strongRecOn with
 | _ n ih =>
  intro hn
  by_cases q:∃i,i < n/\P i
  ·obtain⟨i,hi,hp⟩:=q;exact ih i hi hp
  ·exact⟨n,hn,fun i hi hp=>q ⟨i,hi,hp⟩⟩
theorem ajp:∀{a b:List Int},a.Nodup->(∀x∈a,x∈b)->a.length<=b.length
 | [],b,_,_=>dI _
 | x::r,b,hn,h=>by
  have hx:=h x (aR ..);have h1:r.length<=(b.erase x).length:=ajp (tX hn) fun y hy=>by
   have hne:y≠x:=fun e=>(fL.mp hn).1 y hy e.symm
   exact(List.mem_erase_of_ne hne).mpr (h y (aL _ hy))
  rw[List.length_erase_of_mem hx] at h1;have:=tE hx;rw[bO];omega
def run(qv:LL9)(as:List Int)(k:Int):Nat->List Int×Int
 | 0=>(as,k)
 | n+1=>(gone qv (run qv as k n).1 (run qv as k n).2,led qv (run qv as k n).1 (run qv as k n).2)
section
variable{qv:LL9}(h:Hs qv){as:List Int}(ha:Arr qv as){k:Int}(h0:0<=k)(h1:k < (qv.length:Int))
include h ha h0 h1
theorem ahc:∀t:Nat,(∀i < t,0<=(run qv as k i).2)->Arr qv (run qv as k t).1 /\ -3<=(run qv as k t).2/\(run qv as k t).2 < (qv.length:Int)
 | 0,_=>⟨ha,by show -3<=k;omega,h1⟩
 | t+1,hp=>by
  obtain⟨a1,a2,a3⟩:=ahc t fun i hi=>hp i (by omega)
  have a0:=hp t (by omega)
  exact⟨acb h a1 a0 a3,amr h a1 a0 a3⟩
end
def gdB(R:List Int)(d:Int):Bool:=decide (d < 0)||decide (d∈R)
section
variable{qv:LL9}(h:Hs qv){R:List Int}
include h
theorem ap9(hop:aau qv=[])(hl:R.length < qv.length):∃y,0<=y/\y < (qv.length:Int)/\y∉R/\∃d∈dr qv y,gdB R d=true:=by
 apply cN;intro H;have hy:∃y:Int,0<=y/\y < (qv.length:Int)/\y∉R:=by
  apply cN;intro H2;have:=ajp (a:=(bG qv.length).map fun(i:Nat)=>(i:Int)) (b:=R) (by
   rw[List.Nodup,vD];exact vJ (fun{a b} hab=>by omega) jT) fun x hx=>by
   obtain⟨i,hi,rfl⟩:=cW.mp hx;have:=dG.mp hi;apply cN;intro hn;exact H2 ⟨(i:Int),by omega,by omega,hn⟩
  rw[aF,dD] at this;omega
 obtain⟨y,y0,y1,yn⟩:=hy;have all:∀z,Rch qv y z->0<=z/\z < (qv.length:Int)/\z∉R:=fun z hz=>by
  induction hz with
  | base=>exact⟨y0,y1,yn⟩
  | @step x d r _ hd ih =>
   have hb:=(h.dr ih.1 ih.2.1).2.2 d hd;have hg:gdB R d≠true:=fun g=>H ⟨x,ih.1,ih.2.1,ih.2.2,d,hd,g⟩
   unfold gdB at hg;rw[Ne,rD,decide_eq_true_eq,decide_eq_true_eq] at hg;exact⟨by
    rcases lN d 0 with q | q
    ·exact absurd (.inl q) hg
    ·exact q,hb.2,fun q=>hg (.inr q)⟩
 have:y∈aau qv:=cM.mpr ⟨by
  unfold upto;exact cW.mpr ⟨y.toNat,dG.mpr (by omega),by omega⟩,(xf qv y).mpr fun z hz=>(all z hz).1⟩
 rw[hop] at this;cases this
end
def cv(qv:LL9)(as:List Int)(k y:Int):Nat->Nat
 | 0=>0
 | t+1=>cv qv as k y t+if (run qv as k t).2=y then 1 else 0
def av(qv:LL9)(as:List Int)(k d:Int):Nat->Nat
 | 0=>0
 | t+1=>av qv as k d t+if (run qv as k (t+1)).2=d then 1 else 0
theorem a2n(qv:LL9)(as:List Int)(k d:Int):∀t,av qv as k d t<=cv qv as k d (t+1)
 | 0=>dI _
 | t+1=>by
  have ih:=a2n qv as k d t;show av qv as k d t+(if (run qv as k (t+1)).2=d then 1 else 0)<=cv qv as k d (t+1)+(if (run qv as k (t+1)).2=d then 1 else 0)
  omega
theorem a8a(qv:LL9)(as:List Int)(k d:Int)(t:Nat):av qv as k d t<=cv qv as k d t+1:=by
 have h:=a2n qv as k d t;have e:cv qv as k d (t+1)=cv qv as k d t+if (run qv as k t).2=d then 1 else 0:=rfl
 rw[e] at h;split at h <;> omega
theorem ark{qv:LL9}{as:List Int}{k d:Int}(hd:d < 0):∀t,(∀i < t,0<=(run qv as k i).2)->cv qv as k d t=0
 | 0,_=>rfl
 | t+1,hp=>by
  have ih:=ark hd t fun i hi=>hp i (by omega)
  have p0:=hp t (by omega)
  show cv qv as k d t+(if (run qv as k t).2=d then 1 else 0)=0
  rw[ih,if_neg (by omega)]
theorem alb{x w:Int}(h0 : -w<=x)(h1:x < 0):x % w=x+w:=by
 rw[<-lO x w];exact dR (by omega) (by omega)
theorem rot{a e w:Int}(a0:0<=a)(a1:a < w)(e0:0<=e)(e1:e < w)(ne:a≠e):((a+1) % w - e - 1) % w=(a - e - 1) % w+1:=by
 rcases lN (a+1) w with q | q
 ·rw[dR (by omega) q]
  rcases lN a e with z | z
  ·rw[alb (by omega) (by omega),alb (by omega) (by omega)]
   omega
  ·rw[dR (show 0<=a+1 - e - 1 by omega) (by omega),dR (show 0<=a - e - 1 by omega) (by omega)]
   omega
 ·have ew:a+1=w:=by omega
  rw[ew,Int.emod_self,alb (by omega) (by omega),dR (show 0<=a - e - 1 by omega) (by omega)]
  omega
section
variable{qv:LL9}(h:Hs qv){as:List Int}(ha:Arr qv as){k:Int}(h0:0<=k)(h1:k < (qv.length:Int))
include h ha h0 h1
theorem avw{y:Int}(y0:0<=y)(y1:y < (qv.length:Int)){e:Nat}(he:e < (dr qv y).length):∀t,(∀i < t,0<=(run qv as k i).2)->(cv qv as k y t:Int)<=((dr qv y).length:Int)*(av qv as k ((dr qv y).getD e 0) t:Int)+(ar (run qv as k t).1 y - (e:Int) - 1) % ((dr qv y).length:Int)
 | 0,_=>by
  have:0<=(ar (run qv as k 0).1 y - (e:Int) - 1) % ((dr qv y).length:Int):=fZ _ (by omega)
  show((0:Nat):Int)<=((dr qv y).length:Int)*((0:Nat):Int)+_;simp;exact this
 | t+1,hp=>by
  have hp':∀i < t,0<=(run qv as k i).2:=fun i hi=>hp i (by omega)
  have ih:=avw y0 y1 he t hp';obtain⟨a1,a2,a3⟩:=ahc h ha h0 h1 t hp';have p0:=hp t (by omega)
  have ec:cv qv as k y (t+1)=cv qv as k y t+if (run qv as k t).2=y then 1 else 0:=rfl
  have ea:av qv as k ((dr qv y).getD e 0) (t+1)=av qv as k ((dr qv y).getD e 0) t+if (run qv as k (t+1)).2=(dr qv y).getD e 0 then 1 else 0:=rfl
  have er:(run qv as k (t+1)).1=gone qv (run qv as k t).1 (run qv as k t).2:=rfl;have el:(run qv as k (t+1)).2=led qv (run qv as k t).1 (run qv as k t).2:=rfl;have aa:=a1.at y0 y1;have al:=a1.len
  by_cases hy:(run qv as k t).2=y
  ·rw[ec,ea,er,el,hy,if_pos rfl];rw[abz (by omega)]
   generalize hA:ar (run qv as k t).1 y=a at *
   by_cases ne:a=(e:Int)
   ·have:led qv (run qv as k t).1 y=(dr qv y).getD e 0:=by
     unfold led;rw[hA,ne];rfl
    rw[if_pos this];have b1:=dW (a - (e:Int) - 1) (show(0:Int) < ((dr qv y).length:Int) by omega)
    have b2:=fZ ((a+1) % ((dr qv y).length:Int) - (e:Int) - 1) (show((dr qv y).length:Int)≠0 by omega)
    have em:((dr qv y).length:Int)*((av qv as k ((dr qv y).getD e 0) t+1:Nat):Int)=((dr qv y).length:Int)*(av qv as k ((dr qv y).getD e 0) t:Int)+((dr qv y).length:Int):=by
     rw[iU,oW];simp
    rw[em];omega
   ·have b:=rot aa.1 aa.2 (show(0:Int)<=(e:Int) by omega) (by omega) ne
    have em:((dr qv y).length:Int)*(av qv as k ((dr qv y).getD e 0) t:Int)<=((dr qv y).length:Int)*((av qv as k ((dr qv y).getD e 0) t+(if led qv (run qv as k t).1 y=(dr qv y).getD e 0 then 1 else 0):Nat):Int):=kY (by omega) (by omega)
    rw[b];omega
  ·rw[ec,ea,er,if_neg hy,aeo y0 p0 (iI hy)];have em:((dr qv y).length:Int)*(av qv as k ((dr qv y).getD e 0) t:Int)<=((dr qv y).length:Int)*((av qv as k ((dr qv y).getD e 0) t+(if (run qv as k (t+1)).2=(dr qv y).getD e 0 then 1 else 0):Nat):Int):=kY (by omega) (by omega)
   omega
theorem ayx{W:Nat}(hw:∀r∈qv,r.length<=W){y:Int}(y0:0<=y)(y1:y < (qv.length:Int)){d:Int}(hd:d∈dr qv y){t:Nat}(hp:∀i < t,0<=(run qv as k i).2):cv qv as k y t<=W*cv qv as k d t+2*W:=by
 obtain⟨e,he,ed⟩:=fO.mp hd;have i:=avw h ha h0 h1 y0 y1 he t hp;have ed':(dr qv y).getD e 0=d:=by rw[aG,aC he];exact ed
 rw[ed'] at i;have b1:=dW (ar (run qv as k t).1 y - (e:Int) - 1) (show(0:Int) < ((dr qv y).length:Int) by omega)
 have w3:(dr qv y).length<=W:=hw _ (by
  have hk:y.toNat < qv.length:=by omega
  unfold dr;rw[aG,aC hk];exact bT hk)
 have al:=a8a qv as k d t;have em:((dr qv y).length:Int)*(av qv as k d t:Int)<=(W:Int)*(av qv as k d t:Int):=Int.mul_le_mul_of_nonneg_right (by omega) (by omega)
 have en:(W:Int)*(av qv as k d t:Int)<=(W:Int)*((cv qv as k d t:Int)+1):=kY (by omega) (by omega)
 rw[oW,qY] at en;have:(cv qv as k y t:Int)<=((W*cv qv as k d t+2*W:Nat):Int):=by
  rw[iU,qX,qX];omega
 omega
noncomputable def mx(W:Nat):Nat->Nat
 | 0=>0
 | j+1=>W*mx W j+2*W
def sx(W:Nat):Nat->Nat
 | 0=>0
 | j+1=>sx W j+mx W (j+1)
omit h ha h0 h1 in
theorem as4(f:Int->Nat)(p:Int):∀R:List Int,p∈R->(R.map f).sum+1<=(R.map fun x=>f x+if p=x then 1 else 0).sum:=fun R=>by
 have base:∀R:List Int,(R.map f).sum<=(R.map fun x=>f x+if p=x then 1 else 0).sum:=fun R=>by
  induction R with
  | nil=>exact aM _
  | cons x r ih =>
   rw[aU,aU,bL,bL];omega
 induction R with
 | nil=>intro hp;cases hp
 | cons x r ih =>
  intro hp;rw[aU,aU,bL,bL];rcases aY.mp hp with rfl | hp
  ·have:=base r;rw[if_pos rfl];omega
  ·have:=ih hp;omega
omit h ha h0 h1 in
theorem ai2{R:List Int}:∀t,(∀i < t,(run qv as k i).2∈R)->t<=(R.map fun x=>cv qv as k x t).sum
 | 0,_=>dI _
 | t+1,hp=>by
  have ih:=ai2 (R:=R) t fun i hi=>hp i (by omega)
  have:=as4 (fun x=>cv qv as k x t) (run qv as k t).2 R (hp t (by omega))
  exact cF (mY ih) this
theorem aiy{W:Nat}(hW1:1<=W)(hop:aau qv=[])(hw:∀r∈qv,r.length<=W){t:Nat}(hp:∀i < t,0<=(run qv as k i).2):t<=sx W qv.length:=by
 have claim:∀j,j<=qv.length->∃R:List Int,R.Nodup/\R.length=j/\(∀x∈R,0<=x/\x < (qv.length:Int))/\(∀x∈R,cv qv as k x t<=mx W j)/\(R.map fun x=>cv qv as k x t).sum<=sx W j:=fun j=>by
  induction j with
  | zero=>exact fun _=>⟨[],pQ,rfl,fun x hx=>absurd hx cQ,fun x hx=>absurd hx cQ,aM _⟩
  | succ j ih =>
   intro hj;obtain⟨R,nd,hl,hin,hm,hs⟩:=ih (by omega)
   obtain⟨y,y0,y1,yn,d,hd,hg⟩:=ap9 h (R:=R) hop (by omega)
   have cd:cv qv as k d t<=mx W j:=by
    unfold gdB at hg;rw[rD,decide_eq_true_eq,decide_eq_true_eq] at hg;rcases hg with q | q
    ·rw[ark q t hp];exact dI _
    ·exact hm d q
   have cy:=ayx h ha h0 h1 hw y0 y1 hd hp;have em:mx W (j+1)=W*mx W j+2*W:=rfl;have em2:W*cv qv as k d t<=W*mx W j:=Nat.mul_le_mul_left _ cd;have em3:mx W j<=W*mx W j:=Nat.le_mul_of_pos_left _ hW1;refine⟨y::R,pH (fun a ha e=>yn (e▸ha)) nd,by rw[bO,hl],fun x hx =>?_,fun x hx =>?_,?_⟩
   ·rcases aY.mp hx with rfl | hx
    ·exact⟨y0,y1⟩
    ·exact hin x hx
   ·rcases aY.mp hx with rfl | hx
    ·omega
    ·have:=hm x hx;omega
   ·rw[aU,bL];show _<=sx W j+mx W (j+1);omega
 obtain⟨R,nd,hl,hin,hm,hs⟩:=claim qv.length (aM _);refine cF (ai2 t fun i hi =>?_) hs
 have p0:=hp i hi;have p1:=(ahc h ha h0 h1 i fun j hj=>hp j (by omega)).2.2
 apply cN;intro hn;have:=ahd qv.length ((run qv as k i).2::R) (pH (fun a ha e=>hn (e▸ha)) nd) fun a ha=>by
  rcases aY.mp ha with rfl | ha
  ·exact⟨p0,p1⟩
  ·exact hin a ha
 rw[bO] at this;omega
theorem asu{W:Nat}(hW1:1<=W)(hop:aau qv=[])(hw:∀r∈qv,r.length<=W):∃T,1<=T/\T<=sx W qv.length/\(∀i < T,0<=(run qv as k i).2)/\(run qv as k T).2 < 0:=by
 have ex:∃t,(run qv as k t).2 < 0:=by
  apply cN;intro H;have:=aiy h ha h0 h1 hW1 hop hw (t:=sx W qv.length+1) fun i _=>by
   rcases lN (run qv as k i).2 0 with q | q
   ·exact absurd ⟨i,q⟩ H
   ·exact q
  omega
 obtain⟨t,ht⟩:=ex;obtain⟨T,hT,hmin⟩:=least (P:=fun t=>(run qv as k t).2 < 0) t ht
 have hp:∀i < T,0<=(run qv as k i).2:=fun i hi=>by
  have:¬(run qv as k i).2 < 0:=hmin i hi;omega
 refine⟨T,?_,aiy h ha h0 h1 hW1 hop hw hp,hp,hT⟩;rcases oZ T with z | z
 ·subst z;have:(run qv as k 0).2=k:=rfl;have hT:(run qv as k 0).2 < 0:=hT;omega
 ·exact z
end
def vis(qv:LL9)(as:List Int)(k:Int)(T:Nat):List Int:=(bG T).map fun i=>(run qv as k i).2
def go(qv:LL9):List Int->List Int->List Int
 | as,[]=>as
 | as,x::s=>go qv (gone qv as x) s
def arv(qv:LL9)(d:Int):List Int->List Int->Nat
 | _,[]=>0
 | as,x::s=>(if led qv as x=d then 1 else 0)+arv qv d (gone qv as x) s
def us(qv:LL9)(as:List Int)(y d:Int):Nat->Nat
 | 0=>0
 | n+1=>us qv as y d n+if (dr qv y).getD ((ar as y+(n:Int)) % ((dr qv y).length:Int)).toNat 0=d then 1 else 0
def InR(qv:LL9)(s:List Int):Prop:=∀x∈s,0<=x/\x < (qv.length:Int)
theorem adq(qv:LL9):∀(s t as:List Int),go qv as (s++t)=go qv (go qv as s) t
 | [],t,as=>rfl
 | x::s,t,as=>adq qv s t (gone qv as x)
theorem jf(qv:LL9)(d:Int):∀(s t as:List Int),arv qv d as (s++t)=arv qv d as s+arv qv d (go qv as s) t
 | [],t,as=>by simp[arv,go]
 | x::s,t,as=>by
  show(if led qv as x=d then 1 else 0)+arv qv d (gone qv as x) (s++t)=(if led qv as x=d then 1 else 0)+arv qv d (gone qv as x) s+arv qv d (go qv (gone qv as x) s) t
  rw[jf qv d s t];omega
theorem jd(x y:Int)(s:List Int):(x::s).count y=s.count y+if x=y then 1 else 0:=by
 rw[List.count_cons];simp
theorem ajs{a c w:Int}(hw:0 < w):((a+1) % w+c) % w=(a+(c+1)) % w:=by
 rw[vK]
 congr 1
 omega
theorem akx(qv:LL9)(as:List Int)(y d:Int){m n:Nat}(h:m<=n):us qv as y d m<=us qv as y d n:=by
 induction n with
 | zero =>
  have:m=0:=by omega
  rw[this];exact aM _
 | succ n ih =>
  by_cases q:m=n+1
  ·rw[q];exact aM _
  ·have:=ih (by omega)
   have e:us qv as y d (n+1)=us qv as y d n+if (dr qv y).getD ((ar as y+(n:Int)) % ((dr qv y).length:Int)).toNat 0=d then 1 else 0:=rfl
   omega
theorem ae9(f g:Int->Nat):∀l:List Int,(∀x∈l,f x<=g x)->(l.map f).sum<=(l.map g).sum
 | [],_=>aM _
 | x::l,h=>by
  rw[aU,aU,bL,bL];have:=h x (aR ..);have:=ae9 f g l fun y hy=>h y (aL _ hy)
  omega
theorem u6(f g:Int->Nat):∀l:List Int,(∀x∈l,f x=g x)->(l.map f).sum=(l.map g).sum
 | [],_=>rfl
 | x::l,h=>by
  rw[aU,aU,bL,bL,h x (aR ..),u6 f g l fun y hy=>h y (aL _ hy)]
theorem ahr(f g:Int->Nat)(x:Int)(k:Nat)(hx:f x=k+g x):∀l:List Int,l.Nodup->x∈l->(∀y∈l,y≠x->f y=g y)->(l.map f).sum=k+(l.map g).sum
 | [],_,h,_=>by cases h
 | y::l,hn,h,hs=>by
  obtain⟨h1,h2⟩:=fL.mp hn;rw[aU,aU,bL,bL]
  by_cases e:y=x
  ·subst e;rw[hx,u6 f g l fun z hz=>hs z (aL _ hz) fun q=>h1 z hz q.symm]
   omega
  ·have hm:x∈l:=by
    rcases aY.mp h with q | q
    ·exact absurd q.symm e
    ·exact q
   rw[hs y (aR ..) e,ahr f g x k hx l h2 hm fun z hz=>hs z (aL _ hz)]
   omega
theorem ad2(n:Nat):(upto n).Nodup:=by
 unfold upto;rw[List.Nodup,vD];exact vJ (fun{a b} hab=>by omega) jT
theorem yo{n:Nat}{x:Int}(h0:0<=x)(h1:x < (n:Int)):x∈upto n:=by
 unfold upto;exact cW.mpr ⟨x.toNat,dG.mpr (by omega),by omega⟩
section
variable{qv:LL9}(h:Hs qv)
include h
theorem yt:∀(s:List Int) {as:List Int},Arr qv as->InR qv s->Arr qv (go qv as s)
 | [],_,ha,_=>ha
 | x::s,as,ha,hs=>yt s (acb h ha (hs x (aR ..)).1 (hs x (aR ..)).2) fun y hy=>hs y (aL _ hy)
theorem ait{y:Int}(y0:0<=y)(y1:y < (qv.length:Int)):∀(s:List Int) {as:List Int},Arr qv as->InR qv s->ar (go qv as s) y=(ar as y+(s.count y:Int)) % ((dr qv y).length:Int)
 | [],as,ha,_=>by
  have a:=ha.at y0 y1;show ar as y=(ar as y+0) % _;rw[kI,dR a.1 a.2]
 | x::s,as,ha,hs=>by
  have hx:=hs x (aR ..);have hd:=(h.dr y0 y1).1;have hal:=ha.len;have ih:=ait y0 y1 s (acb h ha hx.1 hx.2) fun z hz=>hs z (aL _ hz)
  show ar (go qv (gone qv as x) s) y=_;rw[ih,jd]
  by_cases e:x=y
  ·subst e;rw[abz (by omega),if_pos rfl,ajs (by omega),iU]
   rfl
  ·rw[aeo y0 hx.1 (iI e),if_neg e];rfl
theorem azk{as:List Int}{x y d:Int}(x0:0<=x)(y0:0<=y)(e:y≠x):∀n,us qv (gone qv as x) y d n=us qv as y d n
 | 0=>rfl
 | n+1=>by
  unfold us;rw[azk x0 y0 e n,aeo y0 x0 e]
theorem akv{as:List Int}(ha:Arr qv as){x d:Int}(x0:0<=x)(x1:x < (qv.length:Int)):∀n,us qv as x d (n+1)=(if led qv as x=d then 1 else 0)+us qv (gone qv as x) x d n
 | 0=>by
  have a:=ha.at x0 x1;show 0+(if (dr qv x).getD ((ar as x+0) % ((dr qv x).length:Int)).toNat 0=d then 1 else 0)=_+0
  rw[kI,dR a.1 a.2];unfold led;omega
 | n+1=>by
  have ih:=akv ha (d:=d) x0 x1 n;have hd:=(h.dr x0 x1).1;have hal:=ha.len;have e1:us qv as x d (n+2)=us qv as x d (n+1)+if (dr qv x).getD ((ar as x+((n+1:Nat):Int)) % ((dr qv x).length:Int)).toNat 0=d then 1 else 0:=rfl
  have e2:us qv (gone qv as x) x d (n+1)=us qv (gone qv as x) x d n+if (dr qv x).getD ((ar (gone qv as x) x+(n:Int)) % ((dr qv x).length:Int)).toNat 0=d then 1 else 0:=rfl
  rw[e1,e2,ih,abz (by omega),ajs (by omega),iU]
  show _+_+(if (dr qv x).getD ((ar as x+((n:Int)+1)) % ((dr qv x).length:Int)).toNat 0=d then 1 else 0)=_
  omega
theorem aat(d:Int):∀(s:List Int) {as:List Int},Arr qv as->InR qv s->arv qv d as s=((upto qv.length).map fun y=>us qv as y d (s.count y)).sum
 | [],as,_,_=>by
  show 0=_
  symm
  rw[u6 (fun y=>us qv as y d (([]:List Int).count y)) (fun _=>0) _ fun x _=>rfl]
  generalize upto qv.length=l
  induction l with
  | nil=>rfl
  | cons x l ih=>rw[aU,bL,ih]
 | x::s,as,ha,hs=>by
  have hx:=hs x (aR ..);have ih:=aat d s (acb h ha hx.1 hx.2) fun z hz=>hs z (aL _ hz)
  show(if led qv as x=d then 1 else 0)+arv qv d (gone qv as x) s=_
  rw[ih]
  symm
  refine ahr _ _ x _ ?_ _ (ad2 _) (yo hx.1 hx.2) fun y hy e =>?_
  ·show us qv as x d ((x::s).count x)=_;rw[jd,if_pos rfl,akv h ha hx.1 hx.2]
  ·show us qv as y d ((x::s).count y)=us qv (gone qv as x) y d (s.count y);rw[jd,if_neg (iI e),azk h hx.1 (jx hy).1 e];rfl
theorem av4{as s t:List Int}(ha:Arr qv as)(hs:InR qv s)(ht:InR qv t)(hc:∀y,0<=y->y < (qv.length:Int)->s.count y<=t.count y)(d:Int):arv qv d as s<=arv qv d as t:=by
 rw[aat h d s ha hs,aat h d t ha ht];exact ae9 _ _ _ fun y hy=>akx _ _ _ _ (hc y (jx hy).1 (jx hy).2)
end
def Lg(qv:LL9)(as:List Int)(w:Int->Nat)(s:List Int):Prop:=∀p x q,s=p++x::q->(0<=x/\x < (qv.length:Int))/\p.count x < w x+arv qv x as p
def Stb(qv:LL9)(as:List Int)(w:Int->Nat)(s:List Int):Prop:=∀x,0<=x->x < (qv.length:Int)->s.count x=w x+arv qv x as s
theorem Lg.inR{qv:LL9}{as:List Int}{w:Int->Nat}{s:List Int}(l:Lg qv as w s):InR qv s:=fun x hx=>by
 obtain⟨p,q,e⟩:=List.append_of_mem hx;exact(l p x q e).1
theorem InR.count{qv:LL9}{s:List Int}(hs:InR qv s){x:Int}(hx:¬(0<=x/\x < (qv.length:Int))):s.count x=0:=pF.mpr fun q=>hx (hs x q)
theorem InR.append{qv:LL9}{s t:List Int}(hs:InR qv s)(ht:InR qv t):InR qv (s++t):=fun x hx=>(cO.mp hx).elim (hs x) (ht x)
section
variable{qv:LL9}(h:Hs qv){as:List Int}(ha:Arr qv as){w:Int->Nat}
include h ha
theorem adp{s t:List Int}(hs:Lg qv as w s)(ht:InR qv t)(hst:∀x,0<=x->x < (qv.length:Int)->w x+arv qv x as t<=t.count x)(x:Int):s.count x<=t.count x:=by
 have claim:∀k,k<=s.length->∀x,(s.take k).count x<=t.count x:=fun k=>by
  induction k with
  | zero=>intro _ x;simp
  | succ k ih =>
   intro hk x;have hk':k < s.length:=by omega
   have e:s.take (k+1)=s.take k++[s[k]]:=by rw[wL,aC hk'];rfl
   have es:s=s.take k++s[k]::s.drop (k+1):=by
    rw[<-lU hk',nW]
   obtain⟨b,l⟩:=hs _ _ _ es;have ih:=ih (by omega)
   rw[e,cR,jd]
   by_cases q:s[k]=x
   ·rw[if_pos q];have hin:InR qv (s.take k):=fun z hz=>hs.inR z (oG hz)
    have m:=av4 h ha hin ht (fun y _ _=>ih y) s[k]
    have z:=hst _ b.1 b.2;rw[<-q];simp;omega
   ·rw[if_neg q];have:=ih x;simp;exact this
 have:=claim s.length (aM _) x;rwa[kO] at this
theorem abel{s t:List Int}(hs:Lg qv as w s)(ss:Stb qv as w s)(ht:Lg qv as w t)(st:Stb qv as w t)(x:Int):s.count x=t.count x :=
 Nat.le_antisymm (adp h ha hs ht.inR (fun x a b=>lK (st x a b).symm) x) (adp h ha ht hs.inR (fun x a b=>lK (ss x a b).symm) x)
theorem go_same{s t:List Int}(hs:InR qv s)(ht:InR qv t)(hc:∀x,s.count x=t.count x):go qv as s=go qv as t:=by
 have l1:=(yt h s ha hs).len;have l2:=(yt h t ha ht).len;apply fW;intro i
 by_cases hi:i < qv.length
 ·have e1:=ait h (y:=(i:Int)) (by omega) (by omega) s ha hs
  have e2:=ait h (y:=(i:Int)) (by omega) (by omega) t ha ht
  rw[hc,<-e2] at e1;unfold ar at e1;rw[show((i:Nat):Int).toNat=i by omega,aG,aG,aC (by omega),aC (by omega)] at e1
  rw[aC (by omega),aC (by omega)]
  exact congrArg some e1
 ·rw[bN (by omega),bN (by omega)]
theorem Lg.append{w2:Int->Nat}{s t:List Int}(hs:Lg qv as w s)(ss:Stb qv as w s)(ht:Lg qv (go qv as s) w2 t):Lg qv as (fun x=>w x+w2 x) (s++t):=fun p x q e=>by
 rcases lV.mp e with⟨r,e1,e2⟩ | ⟨r,e1,e2⟩
 ·-- the beginning is longer than s
  obtain⟨b,l⟩:=ht r x q e2;have z:=ss x b.1 b.2;refine⟨b,?_⟩;rw[e1,cR,jf];show s.count x+r.count x < w x+w2 x+_;omega
 ·cases r with
  | nil =>
   rw[cU] at e2;obtain⟨b,l⟩:=ht [] x q (by rw[cU];exact e2.symm)
   rw[cZ] at e1;have z:=ss x b.1 b.2;refine⟨b,?_⟩;rw[<-e1];have l:([]:List Int).count x < w2 x+0:=l;simp at l;show s.count x < w x+w2 x+arv qv x as s;omega
  | cons y r =>
   rw[kW,lF] at e2;obtain⟨rfl,e2⟩:=e2;obtain⟨b,l⟩:=hs p x r e1;refine⟨b,?_⟩;show p.count x < w x+w2 x+_;omega
omit h ha in
theorem Stb.append{w2:Int->Nat}{s t:List Int}(ss:Stb qv as w s)(st:Stb qv (go qv as s) w2 t):Stb qv as (fun x=>w x+w2 x) (s++t):=fun x x0 x1=>by
 have a:=ss x x0 x1;have b:=st x x0 x1;rw[cR,jf];show _=w x+w2 x+_;omega
end
theorem al6(qv:LL9)(as:List Int)(k:Int)(t:Nat):vis qv as k (t+1)=vis qv as k t++[(run qv as k t).2]:=by
 unfold vis;rw[eY,cG];rfl
theorem aqt(qv:LL9)(as:List Int)(k:Int):∀t,go qv as (vis qv as k t)=(run qv as k t).1
 | 0=>rfl
 | t+1=>by
  rw[al6,adq,aqt qv as k t];rfl
theorem aku(qv:LL9)(as:List Int)(k d:Int):∀t,(vis qv as k t).count d+(if (run qv as k t).2=d then 1 else 0)=(if k=d then 1 else 0)+arv qv d as (vis qv as k t)
 | 0=>by
  show 0+(if k=d then 1 else 0)=(if k=d then 1 else 0)+0
  omega
 | t+1=>by
  have ih:=aku qv as k d t;rw[al6,cR,jf,aqt,jd];show(vis qv as k t).count d+(([]:List Int).count d+(if (run qv as k t).2=d then 1 else 0))+(if led qv (run qv as k t).1 (run qv as k t).2=d then 1 else 0)=(if k=d then 1 else 0)+(arv qv d as (vis qv as k t)+((if led qv (run qv as k t).1 (run qv as k t).2=d then 1 else 0)+0))
  have z:([]:List Int).count d=0:=rfl;omega
def at1(k:Int):Int->Nat:=fun x=>if k=x then 1 else 0
section
variable{qv:LL9}(h:Hs qv){as:List Int}(ha:Arr qv as){k:Int}(h0:0<=k)(h1:k < (qv.length:Int)){T:Nat}(hp:∀i < T,0<=(run qv as k i).2)
include h ha h0 h1 hp
theorem azj:Lg qv as (at1 k) (vis qv as k T):=fun p x q e=>by
 have hl:(vis qv as k T).length=T:=by simp[vis]
 have hpl:p.length < T:=by
  rw[<-hl,e,bM,bO];omega
 have ep:p=vis qv as k p.length:=by
  have:(vis qv as k T).take p.length=p:=by rw[e];exact List.take_left' rfl
  have e2:(vis qv as k T).take p.length=vis qv as k p.length:=by
   unfold vis;rw[<-pA,List.take_range,nT (by omega)]
  rw[<-e2,this]
 have ex:x=(run qv as k p.length).2:=by
  have:(vis qv as k T)[p.length]? = some x:=by rw[e,cJ (aM _),Nat.sub_self];rfl
  unfold vis at this;rw[aO,dJ hpl] at this;exact(bW this).symm
 have p0:=hp _ hpl;have p1:=(ahc h ha h0 h1 p.length fun j hj=>hp j (by omega)).2.2
 have b:=aku qv as k x p.length;rw[<-ep,<-ex,if_pos rfl] at b;refine⟨by rw[ex];exact⟨p0,p1⟩,?_⟩
 show p.count x < (if k=x then 1 else 0)+_
 omega
omit h ha h0 h1 hp in
theorem ao4(hn:(run qv as k T).2 < 0):Stb qv as (at1 k) (vis qv as k T):=fun x x0 x1=>by
 have b:=aku qv as k x T;rw[if_neg (by omega)] at b
 exact b
end
inductive Led (qv:LL9):List Int->List Int->List Int->Prop
 | nil (as:List Int):Led qv as [] []
 | cons {as:List Int} {k:Int} {T:Nat} {rs s:List Int} (h0:0<=k) (h1:k < (qv.length:Int)) (hp:∀i < T,0<=(run qv as k i).2) (hn:(run qv as k T).2 < 0) (t:Led qv (run qv as k T).1 rs s):Led qv as (k::rs) (vis qv as k T++s)
theorem Led.ok{qv:LL9}(h:Hs qv){as rs s:List Int}(l:Led qv as rs s):Arr qv as->Lg qv as (fun x=>rs.count x) s/\Stb qv as (fun x=>rs.count x) s:=by
 induction l with
 | nil as =>
  intro _;exact⟨fun p x q e=>by simp at e,fun x _ _=>rfl⟩
 | @cons as k T rs s h0 h1 hp hn t ih =>
  intro ha;obtain⟨l1,l2⟩:=ih (ahc h ha h0 h1 T hp).1;rw[<-aqt] at l1 l2;have a1:=(azj h ha h0 h1 hp).append h ha (ao4 hn) l1;have a2:=(ao4 hn).append l2;have e:(fun x=>at1 k x+rs.count x)=fun x=>(k::rs).count x:=by
   funext x
   rw[jd];unfold at1;omega
  rw[e] at a1 a2;exact⟨a1,a2⟩
theorem Led.same{qv:LL9}(h:Hs qv){as rs s rs' s':List Int}(l:Led qv as rs s)(l':Led qv as rs' s')(ha:Arr qv as)(hc:∀x,rs.count x=rs'.count x):(∀x,s.count x=s'.count x)/\go qv as s=go qv as s':=by
 obtain⟨a1,a2⟩:=l.ok h ha;obtain⟨b1,b2⟩:=l'.ok h ha;have e:(fun x=>rs.count x)=fun x=>rs'.count x:=funext hc
 rw[e] at a1 a2;have c:=abel h ha a1 a2 b1 b2;exact⟨c,go_same h ha a1.inR b1.inR c⟩
def tal(n:Nat)(s:List Int):List Int:=(bG n).map fun i=>((s.count ((i:Nat):Int):Nat):Int)
theorem su(n:Nat)(s:List Int):(tal n s).length=n:=by simp[tal]
theorem ape(n:Nat):tal n []=aD n 0:=by
 apply fW;intro i
 by_cases hi:i < n
 ·simp[tal,hi]
 ·simp[tal,hi]
theorem asz{n:Nat}{s t:List Int}(h:∀x,s.count x=t.count x):tal n s=tal n t:=by
 unfold tal;simp only[h]
theorem afk{n:Nat}(s:List Int){i:Nat}(hi:i < n):(tal n s)[i]? = some ((s.count ((i:Nat):Int):Nat):Int):=by
 unfold tal;rw[aO,dJ hi];rfl
theorem Lg.nil{qv:LL9}{as:List Int}{w:Int->Nat}:Lg qv as w []:=fun p x q e=>by simp at e
theorem Lg.snoc{qv:LL9}{as:List Int}{w:Int->Nat}{s:List Int}(l:Lg qv as w s){x:Int}(x0:0<=x)(x1:x < (qv.length:Int))(h:s.count x < w x+arv qv x as s):Lg qv as w (s++[x]):=fun p y q e=>by
 rcases lV.mp e with⟨r,e1,e2⟩ | ⟨r,e1,e2⟩
 ·cases r with
  | nil =>
   rw[cU,lF] at e2;rw[cZ] at e1;subst e1;rw[<-e2.1];exact⟨⟨x0,x1⟩,h⟩
  | cons z r=>simp at e2
 ·cases r with
  | nil =>
   rw[cU] at e2;rw[cZ] at e1;subst e1;have e3:=(lF ..).mp e2;rw[e3.1];exact⟨⟨x0,x1⟩,h⟩
  | cons z r =>
   rw[kW,lF] at e2;obtain⟨rfl,e2⟩:=e2;exact l p y r e1
def NN(qv:LL9)(as:List Int)(w:Int->Nat)(s:List Int):Prop:=∀x,0<=x->x < (qv.length:Int)->s.count x<=w x+arv qv x as s
theorem NN.nil{qv:LL9}{as:List Int}{w:Int->Nat}:NN qv as w []:=fun x _ _=>dI _
theorem NN.snoc{qv:LL9}{as:List Int}{w:Int->Nat}{s:List Int}(l:NN qv as w s){x:Int}(h:s.count x < w x+arv qv x as s):NN qv as w (s++[x]):=fun y y0 y1=>by
 have:=l y y0 y1;rw[cR,jd,jf]
 by_cases e:x=y
 ·subst e;rw[if_pos rfl];have z:([]:List Int).count x=0:=rfl;omega
 ·rw[if_neg e];have z:([]:List Int).count y=0:=rfl;omega
theorem af2{qv:LL9}:∀{s:List Int},InR qv s->s.length=((upto qv.length).map fun y=>s.count y).sum
 | [],_=>by
  symm
  rw[u6 (fun y=>([]:List Int).count y) (fun _=>0) _ fun x _=>rfl]
  generalize upto qv.length=l
  induction l with
  | nil=>rfl
  | cons x l ih=>rw[aU,bL,ih];rfl
 | x::s,hs=>by
  have hx:=hs x (aR ..);have ih:=af2 (s:=s) fun z hz=>hs z (aL _ hz)
  rw[bO,ih]
  symm
  rw[ahr (fun y=>(x::s).count y) (fun y=>s.count y) x 1 (by rw[jd,if_pos rfl];omega) _ (ad2 _) (yo hx.1 hx.2) fun y hy e=>by rw[jd,if_neg (iI e)];rfl]
  omega
theorem a1e{qv:LL9}{s t:List Int}(hs:InR qv s)(ht:InR qv t)(h:∀x,s.count x<=t.count x):s.length<=t.length:=by
 rw[af2 hs,af2 ht];exact ae9 _ _ _ fun x _=>h x
section
variable{qv:LL9}(h:Hs qv)(hop:aau qv=[]){W:Nat}(hW1:1<=W)(hw:∀r∈qv,r.length<=W)
include h hop hW1 hw
theorem avk:∀(rs:List Int) {as:List Int},Arr qv as->InR qv rs->∃s,Led qv as rs s/\s.length<=rs.length*sx W qv.length
 | [],as,ha,_=>⟨[],.nil _,dI _⟩
 | k::rs,as,ha,hr=>by
  have hk:=hr k (aR ..);obtain⟨T,t1,t2,hp,hn⟩:=asu h ha hk.1 hk.2 hW1 hop hw;obtain⟨s,l,hs⟩:=avk rs (ahc h ha hk.1 hk.2 T hp).1 fun y hy=>hr y (aL _ hy)
  refine⟨vis qv as k T++s,.cons hk.1 hk.2 hp hn l,?_⟩;have hv:(vis qv as k T).length=T:=by simp[vis]
  rw[bM,hv,bO,Nat.succ_mul];omega
end
noncomputable def rowW(ws:List Int):Nat->List Int
 | 0=>[]
 | j+1=>rowW ws j++aD (ws.getD j 0).toNat ((j:Nat):Int)
theorem aav(ws:List Int):∀n,∀x∈rowW ws n,0<=x/\x < (n:Int)
 | 0,x,hx=>by cases hx
 | n+1,x,hx=>by
  rcases cO.mp hx with q | q
  ·have:=aav ws n x q;omega
  ·have:=(uO.mp q).2;omega
theorem ad9(ws:List Int):∀(n:Nat) (i:Nat),(rowW ws n).count ((i:Nat):Int)=if i < n then (ws.getD i 0).toNat else 0
 | 0,i=>by simp[rowW]
 | n+1,i=>by
  show(rowW ws n++aD (ws.getD n 0).toNat ((n:Nat):Int)).count ((i:Nat):Int)=_;rw[cR,ad9 ws n i,uC]
  by_cases e:i=n
  ·subst e;simp
  ·have e2:¬((n:Nat):Int)=((i:Nat):Int):=by omega
   have e3:(((n:Nat):Int)==((i:Nat):Int))=false:=beq_eq_false_iff_ne.mpr e2;rw[e3];simp only[iK,if_false,Nat.add_zero]
   by_cases q:i < n
   ·rw[if_pos q,if_pos (by omega)]
   ·rw[if_neg q,if_neg (by omega)]
theorem ama(ws:List Int)(b:Nat)(hw:∀w∈ws,w<=(b:Int)):∀n,(rowW ws n).length<=b*n
 | 0=>dI _
 | n+1=>by
  have ih:=ama ws b hw n;have:(ws.getD n 0).toNat<=b:=by
   rw[aG];cases q:ws[n]? with
   | none=>exact dI _
   | some w =>
    have:=hw w (cC q);show w.toNat<=b;omega
  show(rowW ws n++aD (ws.getD n 0).toNat ((n:Nat):Int)).length<=_;rw[bM,bY,Nat.mul_succ];omega
def wf(ws:List Int):Int->Nat:=fun x=>(ws.getD x.toNat 0).toNat
def stn(qv:LL9)(as ws s:List Int):List Int:=(bG qv.length).map fun i=>((wf ws ((i:Nat):Int)+arv qv ((i:Nat):Int) as s:Nat):Int) - ((s.count ((i:Nat):Int):Nat):Int)
def gts(qv:LL9)(as s:List Int):List Int:=[(arv qv (-1) as s:Int),(arv qv (-2) as s:Int),(arv qv (-3) as s:Int)]
theorem gw(qv:LL9)(as ws s:List Int):(stn qv as ws s).length=qv.length:=by simp[stn]
theorem ud{qv:LL9}(as ws s:List Int){x:Int}(x0:0<=x)(x1:x < (qv.length:Int)):(stn qv as ws s).getD x.toNat 0=((wf ws x+arv qv x as s:Nat):Int) - ((s.count x:Nat):Int):=by
 have hk:x.toNat < qv.length:=by omega
 unfold stn;rw[aG,aO,dJ hk];show((wf ws ((x.toNat:Nat):Int)+arv qv ((x.toNat:Nat):Int) as s:Nat):Int) - ((s.count ((x.toNat:Nat):Int):Nat):Int)=_;rw[show((x.toNat:Nat):Int)=x by omega]
theorem most{qv:LL9}(h:Hs qv)(hop:aau qv=[]){W:Nat}(hW1:1<=W)(hw:∀r∈qv,r.length<=W){as ws:List Int}(ha:Arr qv as){b:Nat}(hb:∀w∈ws,w<=(b:Int)) :
  ∃S,Lg qv as (wf ws) S/\Stb qv as (wf ws) S/\∀s,Lg qv as (wf ws) s->s.length<=b*qv.length*sx W qv.length:=by
 obtain⟨S,l,hl⟩:=avk h hop hW1 hw (rowW ws qv.length) ha (aav ws qv.length);obtain⟨a1,a2⟩:=l.ok h ha;have hc:∀x,0<=x->x < (qv.length:Int)->(rowW ws qv.length).count x=wf ws x:=fun x x0 x1=>by
  have:=ad9 ws qv.length x.toNat;rw[if_pos (by omega),show((x.toNat:Nat):Int)=x by omega] at this
  exact this
 have b1:Lg qv as (wf ws) S:=fun p x q e=>by
  obtain⟨c1,c2⟩:=a1 p x q e;exact⟨c1,by rw[<-hc x c1.1 c1.2];exact c2⟩
 have b2:Stb qv as (wf ws) S:=fun x x0 x1=>by rw[<-hc x x0 x1];exact a2 x x0 x1
 refine⟨S,b1,b2,fun s hs =>?_⟩
 have z:=a1e hs.inR b1.inR (adp h ha hs b1.inR fun x x0 x1=>lK (b2 x x0 x1).symm)
 have r:=ama ws b hb qv.length;exact cF z (cF hl (tZ _ r))
theorem ak0{qv:LL9}{as ws:List Int}(hl:ws.length=qv.length)(h0:∀w∈ws,0<=w):stn qv as ws []=ws:=by
 apply fW;intro i
 by_cases hi:i < qv.length
 ·have hk:i < ws.length:=by omega
  unfold stn;rw[aO,dJ hi,aC hk];show some ((((ws.getD ((i:Nat):Int).toNat 0).toNat+0:Nat):Int) - ((0:Nat):Int))=some ws[i];rw[aX,aG,aC hk];have:=h0 ws[i] (bT hk);show some (((ws[i].toNat+0:Nat):Int) - ((0:Nat):Int))=_
  congr 1
  omega
 ·rw[bN (by rw[gw];omega),bN (by omega)]
def maxI(ns:List Int):Int:=acl (fun i j=>decide (i > j)) ns
theorem aq4(n:Int)(r:List Int):∀x:Int,(r.foldl (fun m y=>if decide (y > m)=true then y else m) x < n)↔x < n/\∀y∈r,y < n:=by
 induction r with
 | nil=>intro x;simp
 | cons z t ih =>
  intro x;rw[fB,ih]
  by_cases h:z > x
  ·simp only[h,decide_true,if_true,aY,forall_eq_or_imp];constructor
   ·rintro⟨a,b⟩;exact⟨by omega,a,b⟩
   ·rintro⟨_,a,b⟩;exact⟨a,b⟩
  ·simp only[h,decide_false,iK,if_false,aY,forall_eq_or_imp];constructor
   ·rintro⟨a,b⟩;exact⟨a,by omega,b⟩
   ·rintro⟨a,_,b⟩;exact⟨a,b⟩
theorem axv{ns:List Int}(h:ns≠[])(n:Int):maxI ns < n↔∀y∈ns,y < n:=by
 cases ns with
 | nil=>exact absurd rfl h
 | cons x r =>
  show r.foldl (fun m y=>if decide (y > m)=true then y else m) x < n↔_
  rw[aq4];simp
def U(n a L d:Int):Int:=(L+n - 1 - (d - a) % n) / n
theorem auz{x n:Int}(hn:0 < n):(x+1) / n=x / n+if x % n=n - 1 then 1 else 0:=by
 have h1:=fZ x (by omega:n≠0)
 have h2:=dW x hn;have h3:=oA x n;split
 ·rename_i h;exact((uD hn (r:=0) (q:=x / n+1)).mpr ⟨by rw[oW,qY];omega,by omega,hn⟩).1
 ·rename_i h;rw[kI];exact((uD hn (r:=x % n+1) (q:=x / n)).mpr ⟨by omega,by omega,by omega⟩).1
theorem aqc{n a L d:Int}(hn:0 < n)(d0:0<=d)(d1:d < n):(L+n - 1 - (d - a) % n) % n=n - 1↔d=(a+L) % n:=by
 have s0:=fZ (a+L) (by omega:n≠0)
 have s1:=dW (a+L) hn;have e1:=oA (a+L) n;have e2:=oA (d - a) n;have ex:L+n - 1 - (d - a) % n=((a+L) % n - d - 1)+n*((a+L) / n+(d - a) / n+1):=by
  rw[oW,oW,qY];omega
 rw[ex,Int.add_mul_emod_self_left];generalize (a+L) % n=s at s0 s1;constructor
 ·intro h;rcases Int.lt_trichotomy s d with q | q | q
  ·have:(s - d - 1) % n=s - d - 1+n:=by
    rw[<-lO];exact dR (by omega) (by omega)
   omega
  ·exact q.symm
  ·have:(s - d - 1) % n=s - d - 1:=dR (by omega) (by omega)
   omega
 ·intro h;subst h;have:(d - d - 1) % n=d - d - 1+n:=by
   rw[<-lO];exact dR (by omega) (by omega)
  omega
theorem a2v{n a L d:Int}(hn:0 < n)(d0:0<=d)(d1:d < n):U n a (L+1) d=U n a L d+if d=(a+L) % n then 1 else 0:=by
 unfold U;rw[show L+1+n - 1 - (d - a) % n=(L+n - 1 - (d - a) % n)+1 by omega,auz hn]
 by_cases h:d=(a+L) % n
 ·rw[if_pos ((aqc hn d0 d1).mpr h),if_pos h]
 ·rw[if_neg (fun z=>h ((aqc hn d0 d1).mp z)),if_neg h]
def vd(n:Nat)(a L:Int):List Int:=(bG n).map fun d=>U n a L (d:Nat)
theorem ac7(n:Nat)(a L:Int):(vd n a L).length=n:=by simp[vd]
theorem ag6{n:Nat}{a L:Int}(h1:1<=n)(h6:n<=6):aal [.val (.int (n:Nat)),.val (.int a),.val (.int L)]=some (.ok (.fr ((vd n a L).map D.int)),[.val (.int (n:Nat)),.val (.int a),.val (.int L)]):=by
 have hb:n < 4611686018427387904:=by omega
 have loop:=yw (b:=bu 4) (g:=aef) (fun i ρ=>∃o1 o2,ρ=[.val (.int (n:Nat)),.val (.int a),.val (.int L),.own none (((bG i).map fun d=>U n a L (d:Nat)).map D.int),o1,o2])
  (l:=jy 0 n) (ρ:=[.val (.int (n:Nat)),.val (.int a),.val (.int L),.own none [],.emp,.emp]) 0 ⟨.emp,.emp,rfl⟩ ?_
 ·obtain⟨ρ',e,o1,o2,rfl⟩:=loop;have hl:(jy 0 n).length=n:=by simp[jy]
  rw[hl,cT] at e;simp[-fD,aal,aj1,hb,e,vd]
 ·rintro i d ρ hd ⟨o1,o2,rfl⟩
  rw[cT] at *;unfold jy at hd;rw[aO] at hd;have hi:i < n:=by
   rcases iR i n with q | q
   ·exact q
   ·rw[bN (by simpa using q)] at hd
    cases hd
  rw[dJ hi] at hd;cases hd;have hn':(0:Int) < (n:Nat):=by omega
  have f1:∀x:Int,fMod x (n:Nat)=some (x % (n:Nat)):=fun x=>by unfold fMod;rw[if_pos hn']
  have f2:∀x:Int,fDiv x (n:Nat)=some (x / (n:Nat)):=fun x=>by unfold fDiv;rw[if_pos ⟨hn',by omega⟩]
  have hc:((bG i).map fun d=>U n a L (d:Nat)).length < capS:=by rw[aF,dD];unfold capS;omega
  have es:((bG (i+1)).map fun d=>U n a L (d:Nat))=((bG i).map fun d=>U n a L (d:Nat))++[U n a L (i:Nat)]:=by rw[eY,cG];rfl
  have e0:(0:Int)+(i:Nat)=(i:Nat):=by omega
  refine⟨_,[.val (.int (n:Nat)),.val (.int a),.val (.int L),.own none (((bG (i+1)).map fun d=>U n a L (d:Nat)).map D.int),.val (.int (0+(i:Nat))),.val (.int ((((i:Nat):Int) - a) % (n:Nat)))],rfl,.inl ?_,_,_,rfl⟩
  rw[es,e0];generalize ((bG i).map fun d=>U n a L (d:Nat))=Z at hc
  have hc':Z.length < capS:=hc;simp[aef,f1,f2,hc',U]
theorem ase{qv:LL9}(h:Hs qv){x:Int}(x0:0<=x)(x1:x < (qv.length:Int))(d:Int):∀(m:Nat) {as:List Int},Arr qv as->arv qv d as (aD m x)=us qv as x d m
 | 0,as,_=>rfl
 | m+1,as,ha=>by
  rw[eE,akv h ha x0 x1];show(if led qv as x=d then 1 else 0)+arv qv d (gone qv as x) (aD m x)=_
  rw[ase h x0 x1 d m (acb h ha x0 x1)]
def prs(r:List Int)(a L:Int):List (Int×Int):=(bG r.length).map fun k=>(r.getD k 0,U r.length a L (k:Nat))
theorem as5(f g:Nat->Int)(k0:Nat)(c:Int):∀n,(∀k,k < n->f k=g k+if k=k0 then c else 0)->k0 < n->((bG n).map f).sum=((bG n).map g).sum+c:=fun n=>by
 have aux:∀n,(∀k,k < n->f k=g k+if k=k0 then c else 0)->((bG n).map f).sum=((bG n).map g).sum+if k0 < n then c else 0:=fun n=>by
  induction n with
  | zero=>intro _;rfl
  | succ n ih =>
   intro hk;rw[eY,cG,cG,jQ,jQ,ih fun k hk'=>hk k (by omega)]
   have:=hk n (by omega)
   simp only[aU,pW,bL,List.sum_nil];rw[this]
   by_cases q:n=k0
   ·subst q;rw[if_pos rfl,if_neg (by omega),if_pos (by omega)]
    omega
   ·rw[if_neg q]
    by_cases q2:k0 < n
    ·rw[if_pos q2,if_pos (by omega)];omega
    ·rw[if_neg q2,if_neg (by omega)];omega
 intro hk h0;rw[aux n hk,if_pos h0]
theorem ai0{qv:LL9}(h:Hs qv){as:List Int}(ha:Arr qv as){x:Int}(x0:0<=x)(x1:x < (qv.length:Int))(d:Int):∀m:Nat,((us qv as x d m:Nat):Int)=((prs (dr qv x) (ar as x) (m:Int)).map fun p=>if p.1=d then p.2 else 0).sum
 | 0=>by
  have hw:=(h.dr x0 x1).1;show(0:Int)=_;unfold prs;rw[fD]
  symm
  have z:∀k∈List.range (dr qv x).length,((fun p:Int×Int=>if p.1=d then p.2 else 0)∘fun k:Nat=>((dr qv x).getD k 0,U (dr qv x).length (ar as x) ((0:Nat):Int) (k:Nat))) k=0:=fun k hk=>by
   have hk:=dG.mp hk;show(if (dr qv x).getD k 0=d then U (dr qv x).length (ar as x) 0 (k:Nat) else 0)=0
   have b0:=fZ ((k:Int) - ar as x) (show((dr qv x).length:Int)≠0 by omega)
   have b1:=dW ((k:Int) - ar as x) (show(0:Int) < ((dr qv x).length:Int) by omega)
   have:U (dr qv x).length (ar as x) 0 (k:Nat)=0:=Int.ediv_eq_zero_of_lt (by omega) (by omega)
   rw[this];split <;> rfl
  rw[jH z];generalize bG (dr qv x).length=l
  induction l with
  | nil=>rfl
  | cons y l ih=>rw[aU,bL,ih];rfl
 | m+1=>by
  have ih:=ai0 h ha x0 x1 d m;have hw:=(h.dr x0 x1).1;have b0:=fZ (ar as x+(m:Int)) (show((dr qv x).length:Int)≠0 by omega)
  have b1:=dW (ar as x+(m:Int)) (show(0:Int) < ((dr qv x).length:Int) by omega)
  show((us qv as x d m+(if (dr qv x).getD ((ar as x+(m:Int)) % ((dr qv x).length:Int)).toNat 0=d then 1 else 0):Nat):Int)=_
  rw[iU,ih];unfold prs;rw[fD,fD]
  symm
  rw[as5 _ ((fun p:Int×Int=>if p.1=d then p.2 else 0)∘fun k:Nat=>((dr qv x).getD k 0,U (dr qv x).length (ar as x) ((m:Nat):Int) (k:Nat))) ((ar as x+(m:Int)) % ((dr qv x).length:Int)).toNat (if (dr qv x).getD ((ar as x+(m:Int)) % ((dr qv x).length:Int)).toNat 0=d then 1 else 0)]
  ·split <;> rfl
  ·intro k hk;show(if (dr qv x).getD k 0=d then U (dr qv x).length (ar as x) ((m+1:Nat):Int) (k:Nat) else 0)=(if (dr qv x).getD k 0=d then U (dr qv x).length (ar as x) ((m:Nat):Int) (k:Nat) else 0)+_
   have us:=a2v (n:=((dr qv x).length:Int)) (a:=ar as x) (L:=(m:Int)) (d:=(k:Int)) (by omega) (by omega) (by omega)
   rw[iU];show(if (dr qv x).getD k 0=d then U (dr qv x).length (ar as x) ((m:Int)+1) (k:Nat) else 0)=_
   rw[us]
   by_cases q:k=((ar as x+(m:Int)) % ((dr qv x).length:Int)).toNat
   ·have q':(k:Int)=(ar as x+(m:Int)) % ((dr qv x).length:Int):=by omega
    rw[if_pos q,if_pos q',<-q];split <;> omega
   ·have q':¬(k:Int)=(ar as x+(m:Int)) % ((dr qv x).length:Int):=by omega
    rw[if_neg q,if_neg q'];split <;> omega
  ·omega
noncomputable def stp(p:List Int×List Int)(q:Int×Int):List Int×List Int:=if 0<=q.1 then (p.1.set q.1.toNat (p.1.getD q.1.toNat 0+q.2),p.2) else (p.1,p.2.set (-q.1 - 1).toNat (p.2.getD (-q.1 - 1).toNat 0+q.2))
theorem wy(l:List Int)(i j:Nat)(v:Int)(hi:i < l.length):(l.set i v).getD j 0=if i=j then v else l.getD j 0:=by
 rw[aG,bQ]
 by_cases e:i=j
 ·subst e;rw[if_pos rfl,if_pos hi,if_pos rfl];rfl
 ·rw[if_neg e,if_neg e,<-aG]
theorem ad4{n:Nat}:∀(ps:List (Int×Int)) (st gt:List Int),(∀p∈ps,-3<=p.1/\p.1 < (n:Int))->st.length=n->gt.length=3 ->
  (ps.foldl stp (st,gt)).1.length=n/\(ps.foldl stp (st,gt)).2.length=3/\(∀i,i < n->(ps.foldl stp (st,gt)).1.getD i 0=st.getD i 0+(ps.map fun p=>if p.1=(i:Int) then p.2 else 0).sum) /\
  ∀i,i < 3->(ps.foldl stp (st,gt)).2.getD i 0=gt.getD i 0+(ps.map fun p=>if p.1 = -1 - (i:Int) then p.2 else 0).sum
 | [],st,gt,_,h1,h2=>⟨h1,h2,fun i _=>by simp,fun i _=>by simp⟩
 | (d,t)::ps,st,gt,hp,h1,h2=>by
  have hd:=hp (d,t) (aR ..);have hd1 : -3<=d:=hd.1;have hd2:d < (n:Int):=hd.2;rw[fB]
  by_cases q:0<=d
  ·have e:stp (st,gt) (d,t)=(st.set d.toNat (st.getD d.toNat 0+t),gt):=if_pos q;rw[e];obtain⟨i1,i2,i3,i4⟩:=ad4 (n:=n) ps (st.set d.toNat (st.getD d.toNat 0+t)) gt (fun p hp'=>hp p (aL _ hp')) (by rw[bC];exact h1) h2
   refine⟨i1,i2,fun i hi =>?_,fun i hi =>?_⟩
   ·rw[i3 i hi,wy _ _ _ _ (by omega),aU,bL]
    by_cases z:d.toNat=i
    ·rw[if_pos z,if_pos (show d=(i:Int) by omega),z];omega
    ·rw[if_neg z,if_neg (show ¬d=(i:Int) by omega)];omega
   ·rw[i4 i hi,aU,bL,if_neg (show ¬d = -1 - (i:Int) by omega)];omega
  ·have e:stp (st,gt) (d,t)=(st,gt.set (-d - 1).toNat (gt.getD (-d - 1).toNat 0+t)):=if_neg q;rw[e];obtain⟨i1,i2,i3,i4⟩:=ad4 (n:=n) ps st (gt.set (-d - 1).toNat (gt.getD (-d - 1).toNat 0+t)) (fun p hp'=>hp p (aL _ hp')) h1 (by rw[bC];exact h2)
   refine⟨i1,i2,fun i hi =>?_,fun i hi =>?_⟩
   ·rw[i3 i hi,aU,bL,if_neg (show ¬d=(i:Int) by omega)];omega
   ·rw[i4 i hi,wy _ _ _ _ (by omega),aU,bL]
    by_cases z:(-d - 1).toNat=i
    ·rw[if_pos z,if_pos (show d = -1 - (i:Int) by omega),z];omega
    ·rw[if_neg z,if_neg (show ¬d = -1 - (i:Int) by omega)];omega
theorem ace{a b:List Int}(hl:a.length=b.length)(h:∀i,i < a.length->a.getD i 0=b.getD i 0):a=b:=by
 apply fW;intro i
 by_cases hi:i < a.length
 ·have:=h i hi;rw[aG,aG,aC hi,aC (by omega)] at this
  rw[aC hi,aC (by omega)]
  exact congrArg some this
 ·rw[bN (by omega),bN (by omega)]
section
variable{qv:LL9}(h:Hs qv){as:List Int}(ha:Arr qv as){ws s:List Int}(hs:InR qv s){x:Int}(x0:0<=x)(x1:x < (qv.length:Int))(m:Nat)
include h ha hs x0 x1
theorem az1:InR qv (s++aD m x):=hs.append fun y hy=>by rw[(uO.mp hy).2];exact⟨x0,x1⟩
theorem ago(y:Int):(s++aD m x).count y=s.count y+if x=y then m else 0:=by
 rw[cR,uC]
 by_cases e:x=y
 ·subst e;simp
 ·have:(x==y)=false:=beq_eq_false_iff_ne.mpr e;rw[this,if_neg e];rfl
theorem a1q:(go qv as s).set x.toNat ((ar (go qv as s) x+(m:Int)) % ((dr qv x).length:Int))=go qv as (s++aD m x):=by
 have hga:=yt h s ha hs;have hin:=az1 h ha hs x0 x1 m;have hg2:=yt h _ ha hin;have hl:=hga.len;apply ace
 ·rw[bC,hl,hg2.len]
 ·intro i hi;rw[bC] at hi;rw[wy _ _ _ _ (by omega)]
  have e2:=ait h (y:=(i:Int)) (by omega) (by omega) _ ha hin
  have e1:=ait h (y:=(i:Int)) (by omega) (by omega) s ha hs
  rw[ago h ha hs x0 x1] at e2;unfold ar at e1 e2;rw[aX] at e1 e2;rw[e2]
  by_cases z:x.toNat=i
  ·have zx:x=(i:Int):=by omega
   rw[if_pos z,if_pos zx];have e3:=ait h x0 x1 s ha hs;rw[e3,vK];unfold ar;rw[zx,aX,iU]
   congr 1
   omega
  ·rw[if_neg z,if_neg (show ¬x=(i:Int) by omega),e1]
   rfl
theorem awg:(tal qv.length s).set x.toNat ((tal qv.length s).getD x.toNat 0+(m:Int))=tal qv.length (s++aD m x):=by
 apply ace
 ·rw[bC,su,su]
 ·intro i hi;rw[bC,su] at hi;rw[wy _ _ _ _ (by rw[su];omega)]
  have g:∀t:List Int,(tal qv.length t).getD i 0=((t.count (i:Int):Nat):Int):=fun t=>by rw[aG,afk _ hi];rfl
  rw[g,g,ago h ha hs x0 x1]
  by_cases z:x.toNat=i
  ·rw[if_pos z,if_pos (show x=(i:Int) by omega),z,g];omega
  ·rw[if_neg z,if_neg (show ¬x=(i:Int) by omega)];rfl
theorem aut:(prs (dr qv x) (ar (go qv as s) x) (m:Int)).foldl stp ((stn qv as ws s).set x.toNat ((stn qv as ws s).getD x.toNat 0 - (m:Int)),gts qv as s)=(stn qv as ws (s++aD m x),gts qv as (s++aD m x)):=by
 have hga:=yt h s ha hs;obtain⟨i1,i2,i3,i4⟩:=ad4 (n:=qv.length) (prs (dr qv x) (ar (go qv as s) x) (m:Int)) ((stn qv as ws s).set x.toNat ((stn qv as ws s).getD x.toNat 0 - (m:Int))) (gts qv as s) (fun p hp=>by
  obtain⟨k,hk,rfl⟩:=cW.mp hp;have hk:=dG.mp hk;refine(h.dr x0 x1).2.2 _ ?_;show(dr qv x).getD k 0∈_;rw[aG,aC hk];exact bT hk) (by rw[bC,gw]) rfl
 have ea:∀d,arv qv d as (s++aD m x)=arv qv d as s+us qv (go qv as s) x d m:=fun d=>by rw[jf,ase h x0 x1 d m hga]
 refine wV ?_ ?_
 ·refine ace (by rw[i1,gw]) fun i hi =>?_
  rw[i1] at hi;have g:=ud (qv:=qv) as ws s (x:=(i:Int)) (by omega) (by omega)
  have g2:=ud (qv:=qv) as ws (s++aD m x) (x:=(i:Int)) (by omega) (by omega)
  rw[aX] at g g2;show(jM stp _ _).1.getD i 0=(stn qv as ws (s++aD m x)).getD i 0;rw[i3 i hi,wy _ _ _ _ (by rw[gw];omega),<-ai0 h hga x0 x1,g2,ea,ago h ha hs x0 x1]
  by_cases z:x.toNat=i
  ·rw[if_pos z,if_pos (show x=(i:Int) by omega),z,g];omega
  ·rw[if_neg z,if_neg (show ¬x=(i:Int) by omega),g];omega
 ·refine ace (by rw[i2];rfl) fun i hi =>?_
  rw[i2] at hi;show(jM stp _ _).2.getD i 0=(gts qv as (s++aD m x)).getD i 0;rw[i4 i hi,<-ai0 h hga x0 x1];have:i=0∨i=1∨i=2:=by omega
  unfold gts;rw[ea,ea,ea];rcases this with rfl | rfl | rfl
  ·show(arv qv (-1) as s:Int)+((us qv (go qv as s) x (-1) m:Nat):Int)=((arv qv (-1) as s+us qv (go qv as s) x (-1) m:Nat):Int);omega
  ·show(arv qv (-2) as s:Int)+((us qv (go qv as s) x (-2) m:Nat):Int)=((arv qv (-2) as s+us qv (go qv as s) x (-2) m:Nat):Int);omega
  ·show(arv qv (-3) as s:Int)+((us qv (go qv as s) x (-3) m:Nat):Int)=((arv qv (-3) as s+us qv (go qv as s) x (-3) m:Nat):Int);omega
end
def fsM(d:D):List (Str×(Nat ⊕ D)):=[("turning", .inl 3),("standing", .inl 4),("gone", .inl 5),("left", .inl 6),("house", .inr d)]
theorem fv_h(d:D)(r:Ro):mFV "Crowd" 0 "house" (.box "Crowd" (fsM d)::r)=some (.ok d,.box "Crowd" (fsM d)::r):=by rfl
theorem lk_t(d:D)(a b:Sl)(l:List D)(r:Ro):mLnk "Crowd" 0 "turning" 3 (.box "Crowd" (fsM d)::a::b::.own (some 3) l::r)=some (.ok (),.box "Crowd" (fsM d)::a::b::.own (some 3) l::r):=by rfl
theorem lk_s(d:D)(a b c:Sl)(l:List D)(r:Ro):mLnk "Crowd" 0 "standing" 4 (.box "Crowd" (fsM d)::a::b::c::.own (some 4) l::r)=some (.ok (),.box "Crowd" (fsM d)::a::b::c::.own (some 4) l::r):=by rfl
theorem lk_g(d:D)(a b c e:Sl)(l:List D)(r:Ro):mLnk "Crowd" 0 "gone" 5 (.box "Crowd" (fsM d)::a::b::c::e::.own (some 5) l::r)=some (.ok (),.box "Crowd" (fsM d)::a::b::c::e::.own (some 5) l::r):=by rfl
theorem lk_l(d:D)(a b c e f:Sl)(l:List D)(r:Ro):mLnk "Crowd" 0 "left" 6 (.box "Crowd" (fsM d)::a::b::c::e::f::.own (some 6) l::r)=some (.ok (),.box "Crowd" (fsM d)::a::b::c::e::f::.own (some 6) l::r):=by rfl
theorem aoj{n:Nat}{d t:Int}(hd1 : -3<=d)(hd2:d < (n:Int)){st gt:List Int}(h1:st.length=n)(h2:gt.length=3)(hd:D)(a b c f g u:Sl) :
  lr [.box "Crowd" (fsM hd),a,b,c,.own (some 4) (st.map D.int),.own (some 5) (gt.map D.int),f,g,u,.val (.int d),.val (.int t)]=some (.nx,[.box "Crowd" (fsM hd),a,b,c,.own (some 4) ((stp (st,gt) (d,t)).1.map D.int),.own (some 5) ((stp (st,gt) (d,t)).2.map D.int),f,g,u,.val (.int d),.val (.int t)]):=by
 by_cases q:0<=d
 ·have e:stp (st,gt) (d,t)=(st.set d.toNat (st.getD d.toNat 0+t),gt):=if_pos q;rw[e];have ix:ixN st.length d=some d.toNat:=vy q (by omega)
  have hlt:d.toNat < st.length:=by omega
  have hg:st[d.toNat]? = some (st.getD d.toNat 0):=by rw[aG,aC hlt];rfl
  have m3:(st.map D.int).set d.toNat (.int (st.getD d.toNat 0+t))=(st.set d.toNat (st.getD d.toNat 0+t)).map D.int:=by rw[fY]
  show _=some (Fl.nx,[Sl.box "Crowd" (fsM hd),a,b,c,.own (some 4) ((st.set d.toNat (st.getD d.toNat 0+t)).map D.int),.own (some 5) (gt.map D.int),f,g,u,.val (.int d),.val (.int t)]);rw[<-m3];generalize st.getD d.toNat 0=v at *;have hg2:(st.map D.int)[d.toNat]? = some (.int v):=by rw[aO,hg];rfl
  have ix2:ixN (st.map D.int).length d=some d.toNat:=by rw[aF];exact ix
  generalize st.map D.int=sm at *;simp[lr,q,dSubAugF,lk_s,ix2,hg2]
 ·have e:stp (st,gt) (d,t)=(st,gt.set (-d - 1).toNat (gt.getD (-d - 1).toNat 0+t)):=if_neg q;rw[e];have ix:ixN gt.length (-d - 1)=some (-d - 1).toNat:=vy (by omega) (by omega)
  have hlt:(-d - 1).toNat < gt.length:=by omega
  have hg:gt[(-d - 1).toNat]? = some (gt.getD (-d - 1).toNat 0):=by rw[aG,aC hlt];rfl
  have m3:(gt.map D.int).set (-d - 1).toNat (.int (gt.getD (-d - 1).toNat 0+t))=(gt.set (-d - 1).toNat (gt.getD (-d - 1).toNat 0+t)).map D.int:=by rw[fY]
  show _=some (Fl.nx,[Sl.box "Crowd" (fsM hd),a,b,c,.own (some 4) (st.map D.int),.own (some 5) ((gt.set (-d - 1).toNat (gt.getD (-d - 1).toNat 0+t)).map D.int),f,g,u,.val (.int d),.val (.int t)]);rw[<-m3];generalize gt.getD (-d - 1).toNat 0=v at *;have hg2:(gt.map D.int)[(-d - 1).toNat]? = some (.int v):=by rw[aO,hg];rfl
  have ix2:ixN (gt.map D.int).length (-d - 1)=some (-d - 1).toNat:=by rw[aF];exact ix
  generalize gt.map D.int=gm at *;generalize hkk : -d - 1=kk at *;simp[lr,q,dSubAugF,lk_g,ix2,hg2,hkk]
theorem ajw{n:Nat}(hd:D)(a b c f g u:Sl):∀(ps:List (Int×Int)) (st gt:List Int) (o1 o2:Sl),(∀p∈ps,-3<=p.1/\p.1 < (n:Int))->st.length=n->gt.length=3 ->
  ∃q1 q2,forD (bTup 2 (gk (bu 9) (gk (bu 10) bNil))) lr (ps.map fun p=>.tup [.int p.1,.int p.2]) [.box "Crowd" (fsM hd),a,b,c,.own (some 4) (st.map D.int),.own (some 5) (gt.map D.int),f,g,u,o1,o2]=some (.nx,[.box "Crowd" (fsM hd),a,b,c,.own (some 4) ((ps.foldl stp (st,gt)).1.map D.int),.own (some 5) ((ps.foldl stp (st,gt)).2.map D.int),f,g,u,q1,q2])
 | [],st,gt,o1,o2,_,_,_=>⟨o1,o2,rfl⟩
 | (d,t)::ps,st,gt,o1,o2,hp,h1,h2=>by
  have hd':=hp (d,t) (aR ..);have e:=aoj (n:=n) (d:=d) (t:=t) hd'.1 hd'.2 h1 h2 hd a b c f g u;obtain⟨l1,l2,_⟩:=ad4 (n:=n) [(d,t)] st gt (fun p hp'=>hp p (by rw[cV] at hp';rw[hp'];exact aR ..)) h1 h2
  have l1:(stp (st,gt) (d,t)).1.length=n:=l1;have l2:(stp (st,gt) (d,t)).2.length=3:=l2;obtain⟨q1,q2,e2⟩:=ajw (n:=n) hd a b c f g u ps (stp (st,gt) (d,t)).1 (stp (st,gt) (d,t)).2 (.val (.int d)) (.val (.int t)) (fun p hp'=>hp p (aL _ hp')) l1 l2
  refine⟨q1,q2,?_⟩;rw[fB,aU,vm];have ez:((stp (st,gt) (d,t)).1,(stp (st,gt) (d,t)).2)=stp (st,gt) (d,t):=rfl;rw[ez] at e2;generalize stp (st,gt) (d,t)=Z at *;generalize (ps.foldl stp Z).1.map D.int=F1 at *;generalize (ps.foldl stp Z).2.map D.int=F2 at *;generalize Z.1.map D.int=z1 at *;generalize Z.2.map D.int=z2 at *;generalize st.map D.int=sm at *;generalize gt.map D.int=gm at *;simp[e,e2]
theorem akr(r:List Int)(a L:Int):sr (r.map D.int) ((vd r.length a L).map D.int)=(prs r a L).map fun p=>.tup [.int p.1,.int p.2]:=by
 unfold sr prs vd;apply fW;intro i;rw[iT]
 by_cases hi:i < r.length
 ·simp[hi]
 ·simp[hi]
section
variable{qv:LL9}(h:Hs qv){as:List Int}(ha:Arr qv as){ws s:List Int}(hs:InR qv s){x:Int}(x0:0<=x)(x1:x < (qv.length:Int))(m:Nat)
include h ha hs x0 x1
theorem aex:cz [.box "Crowd" (fsM (hD qv)),.val (.int x),.val (.int (m:Int)),.own (some 3) ((go qv as s).map D.int),.own (some 4) ((stn qv as ws s).map D.int),.own (some 5) ((gts qv as s).map D.int),.own (some 6) ((tal qv.length s).map D.int)] =
  some (.ok (.v .non),[.box "Crowd" (fsM (hD qv)),.val (.int x),.val (.int (m:Int)),.own (some 3) ((go qv as (s++aD m x)).map D.int),.own (some 4) ((stn qv as ws (s++aD m x)).map D.int),.own (some 5) ((gts qv as (s++aD m x)).map D.int),.own (some 6) ((tal qv.length (s++aD m x)).map D.int)]):=by
 have hga:=yt h s ha hs;obtain⟨w1,w2,w3⟩:=h.dr x0 x1;have e1:=agv x0 x1;have e2:=ane h hga x0 x1;have e3:=ag6 (n:=(dr qv x).length) (a:=ar (go qv as s) x) (L:=(m:Int)) w1 w2;have e4:=aj5 h hga x0 x1 (ar (go qv as s) x+(m:Int));have i3:ixN ((go qv as s).map D.int).length x=some x.toNat:=by rw[aF];exact vy x0 (by rw[hga.len];exact x1)
 have i4:ixN ((stn qv as ws s).map D.int).length x=some x.toNat:=by rw[aF];exact vy x0 (by rw[gw];exact x1)
 have i6:ixN ((tal qv.length s).map D.int).length x=some x.toNat:=by rw[aF];exact vy x0 (by rw[su];exact x1)
 have g4:((stn qv as ws s).map D.int)[x.toNat]? = some (.int ((stn qv as ws s).getD x.toNat 0)):=by rw[aO,aG,aC (by rw[gw];omega)];rfl
 have g6:((tal qv.length s).map D.int)[x.toNat]? = some (.int ((tal qv.length s).getD x.toNat 0)):=by rw[aO,aG,aC (by rw[su];omega)];rfl
 have m3:((go qv as s).map D.int).set x.toNat (.int ((ar (go qv as s) x+(m:Int)) % ((dr qv x).length:Int)))=(go qv as (s++aD m x)).map D.int:=by rw[<-a1q h ha hs x0 x1 m,fY]
 have m6:((tal qv.length s).map D.int).set x.toNat (.int ((tal qv.length s).getD x.toNat 0+(m:Int)))=(tal qv.length (s++aD m x)).map D.int:=by rw[<-awg h ha hs x0 x1 m,fY]
 have m4:((stn qv as ws s).map D.int).set x.toNat (.int ((stn qv as ws s).getD x.toNat 0 - (m:Int)))=((stn qv as ws s).set x.toNat ((stn qv as ws s).getD x.toNat 0 - (m:Int))).map D.int:=by rw[fY]
 have hf:=aut (ws:=ws) h ha hs x0 x1 m;obtain⟨q1,q2,e5⟩:=ajw (n:=qv.length) (hD qv) (.val (.int x)) (.val (.int (m:Int))) (.own (some 3) ((go qv as (s++aD m x)).map D.int)) (.own (some 6) ((tal qv.length (s++aD m x)).map D.int)) (.val (.tup ((dr qv x).map D.int))) (.val (.lst ((vd (dr qv x).length (ar (go qv as s) x) (m:Int)).map D.int))) (prs (dr qv x) (ar (go qv as s) x) (m:Int)) ((stn qv as ws s).set x.toNat ((stn qv as ws s).getD x.toNat 0 - (m:Int))) (gts qv as s) .emp .emp (fun p hp=>by
  obtain⟨k,hk,rfl⟩:=cW.mp hp;have hk:=dG.mp hk;refine w3 _ ?_;show(dr qv x).getD k 0∈_;rw[aG,aC hk];exact bT hk) (by rw[bC,gw]) rfl
 rw[hf,<-akr] at e5;have hzl:(dr qv x).length<=((vd (dr qv x).length (ar (go qv as s) x) (m:Int)).map D.int).length:=by rw[aF,ac7];exact aM _
 have hdm:((dr qv x).map D.int).length=(dr qv x).length:=aF ..
 rw[<-m4,<-m3,<-m6] at e5;rw[<-m3,<-m6];generalize (vd (dr qv x).length (ar (go qv as s) x) (m:Int)).map D.int=uu at *;generalize (dr qv x).map D.int=dm at *;generalize (stn qv as ws s).getD x.toNat 0=sv at *;generalize (tal qv.length s).getD x.toNat 0=tv at *;generalize (stn qv as ws (s++aD m x)).map D.int=sm2 at *;generalize (stn qv as ws s).map D.int=sm at *;generalize (gts qv as (s++aD m x)).map D.int=gm2 at *;generalize (gts qv as s).map D.int=gm at *;generalize (tal qv.length s).map D.int=tm at *;generalize (go qv as s).map D.int=am at *;generalize ar (go qv as s) x=aa at *;simp only[hD] at *;simp[cz,g_Crowd_let_leave,fv_h,e1,hdm,lk_t,e2,e3,e4,dSubF,i3,dSubAugF,lk_l,lk_s,i6,g6,i4,g4,hzl,e5]
end
def fsC(d:D):List (Str×(Nat ⊕ D)):=[("house", .inr d),("turning", .inl 1000),("standing", .inl 1001),("gone", .inl 1002),("left", .inl 1003)]
def fr9(h A W o4:Sl)(d:D)(l1 l2 l3 l4:List D):Ro:=[h,A,W,.box "Crowd" (fsC d),o4,.own (some 1000) l1,.own (some 1001) l2,.own (some 1002) l3,.own (some 1003) l4]
theorem axu{h A W:Sl}{d:D}{x m:Int}{l1 l2 l3 l4 r1 r2 r3 r4:List D}{ms:M (List (Option D))}(hm:ms (fr9 h A W (.val (.int x)) d l1 l2 l3 l4)=some (.ok [none,some (.int m)],fr9 h A W (.val (.int x)) d l1 l2 l3 l4))
  (e:cz [.box "Crowd" (fsM d),.val (.int x),.val (.int m),.own (some 3) l1,.own (some 4) l2,.own (some 5) l3,.own (some 6) l4]=some (.ok (.v .non),[.box "Crowd" (fsM d),.val (.int x),.val (.int m),.own (some 3) r1,.own (some 4) r2,.own (some 5) r3,.own (some 6) r4])) :
  afz "Crowd" 3 "let_leave" ["turning","standing","gone","left"] ["house"] [5,6,7,8] cz [some 4,none] ms (fr9 h A W (.val (.int x)) d l1 l2 l3 l4)=some (.ok (.v .non),fr9 h A W (.val (.int x)) d r1 r2 r3 r4):=by
 have e0:mIsB "Crowd" 3 "let_leave" (fr9 h A W (.val (.int x)) d l1 l2 l3 l4)=some (.ok (fsC d),fr9 h A W (.val (.int x)) d l1 l2 l3 l4):=rfl;unfold afz M.bind;rw[e0];dsimp only;rw[hm];dsimp only;rw[e0];dsimp only;rw[if_pos ⟨rfl,rfl,rfl⟩];show(match cz [.box "Crowd" (fsM d),.val (.int x),.val (.int m),.own (some 3) l1,.own (some 4) l2,.own (some 5) l3,.own (some 6) l4] with
  | some (Out.ok r,ps)=>some (Out.ok r,putB (fr9 h A W (.val (.int x)) d l1 l2 l3 l4) [none,some 4,none,some 5,some 6,some 7,some 8] ps)
  | _=>none)=_
 rw[e];rfl
theorem at6(h A W o:Sl)(d:D)(l1 l2 l3 l4:List D):mLnk "Crowd" 3 "standing" 6 (fr9 h A W o d l1 l2 l3 l4)=some (.ok (),fr9 h A W o d l1 l2 l3 l4):=by rfl
theorem a6m(h A W o:Sl)(d:D)(l1 l2 l3 l4:List D):mLnk "Crowd" 3 "turning" 5 (fr9 h A W o d l1 l2 l3 l4)=some (.ok (),fr9 h A W o d l1 l2 l3 l4):=by rfl
theorem a6o(h A W o:Sl)(d:D)(l1 l2 l3 l4:List D):mLnk "Crowd" 3 "gone" 7 (fr9 h A W o d l1 l2 l3 l4)=some (.ok (),fr9 h A W o d l1 l2 l3 l4):=by rfl
theorem a6n(h A W o:Sl)(d:D)(l1 l2 l3 l4:List D):mLnk "Crowd" 3 "left" 8 (fr9 h A W o d l1 l2 l3 l4)=some (.ok (),fr9 h A W o d l1 l2 l3 l4):=by rfl
theorem ayk(h A W o:Sl)(d:D)(l1 l2 l3 l4:List D):(fr9 h A W o d l1 l2 l3 l4:List Sl)[4]? = some o:=rfl
theorem aus(h A W o:Sl)(d:D)(l1 l2 l3 l4:List D):(fr9 h A W o d l1 l2 l3 l4:List Sl)[6]? = some (.own (some 1001) l2):=rfl
section
variable{qv:LL9}(h:Hs qv){as:List Int}(ha:Arr qv as){ws s:List Int}(A W:Sl)
include h ha
theorem apr(hs:InR qv s){x:Int}(x0:0<=x)(x1:x < (qv.length:Int)) :
  aaf (fr9 (.val (hD qv)) A W (.val (.int x)) (hD qv) ((go qv as s).map D.int) ((stn qv as ws s).map D.int) ((gts qv as s).map D.int) ((tal qv.length s).map D.int)) =
  some (.nx,fr9 (.val (hD qv)) A W (.val (.int x)) (hD qv) ((go qv as (s++aD ((stn qv as ws s).getD x.toNat 0).toNat x)).map D.int) ((stn qv as ws (s++aD ((stn qv as ws s).getD x.toNat 0).toNat x)).map D.int) ((gts qv as (s++aD ((stn qv as ws s).getD x.toNat 0).toNat x)).map D.int) ((tal qv.length (s++aD ((stn qv as ws s).getD x.toNat 0).toNat x)).map D.int)):=by
 have e1:=qd (ns:=stn qv as ws s) x0 (by rw[gw];exact x1)
 have eL:=aex (ws:=ws) h ha hs x0 x1 ((stn qv as ws s).getD x.toNat 0).toNat
 by_cases q:0 < (stn qv as ws s).getD x.toNat 0
 ·rw[show((((stn qv as ws s).getD x.toNat 0).toNat:Nat):Int)=(stn qv as ws s).getD x.toNat 0 by omega] at eL
  have eM:=axu (h:=.val (hD qv)) (A:=A) (W:=W) (ms:=bw 4 (bf (M.d (mOp gIx ((mLnk "Crowd" 3 "standing" 6).bind fun _=>cu 6 (gj 4)))) gr)) (by
   generalize (stn qv as ws s).getD x.toNat 0=v at *;generalize (stn qv as ws s).map D.int=sm at *;generalize (go qv as s).map D.int=am at *;generalize (gts qv as s).map D.int=gm at *;generalize (tal qv.length s).map D.int=tm at *;generalize hD qv=hh at *;simp[at6,ayk,aus,e1]) eL
  generalize s++aD ((stn qv as ws s).getD x.toNat 0).toNat x=s2 at *;generalize (stn qv as ws s).getD x.toNat 0=v at *;generalize (stn qv as ws s).map D.int=sm at *;generalize (go qv as s).map D.int=am at *;generalize (gts qv as s).map D.int=gm at *;generalize (tal qv.length s).map D.int=tm at *;generalize (stn qv as ws s2).map D.int=sm2 at *;generalize (go qv as s2).map D.int=am2 at *;generalize (gts qv as s2).map D.int=gm2 at *;generalize (tal qv.length s2).map D.int=tm2 at *;generalize hD qv=hh at *;simp[aaf,at6,ayk,aus,e1,q,eM]
 ·rw[show((stn qv as ws s).getD x.toNat 0).toNat=0 by omega]
  rw[uI,cZ]
  clear eL
  generalize (stn qv as ws s).getD x.toNat 0=v at *;generalize (stn qv as ws s).map D.int=sm at *;generalize (go qv as s).map D.int=am at *;generalize (gts qv as s).map D.int=gm at *;generalize (tal qv.length s).map D.int=tm at *;generalize hD qv=hh at *;simp[aaf,at6,ayk,aus,e1,q]
omit ha in
theorem avb(hl:Lg qv as (wf ws) s)(hn:NN qv as (wf ws) s){x:Int}(x0:0<=x)(x1:x < (qv.length:Int)):∀m:Nat,s.count x+m<=wf ws x+arv qv x as s->Lg qv as (wf ws) (s++aD m x)/\NN qv as (wf ws) (s++aD m x)
 | 0,_=>by
  rw[uI,cZ];exact⟨hl,hn⟩
 | m+1,hm=>by
  obtain⟨a,b⟩:=avb hl hn x0 x1 m (by omega)
  have c:(s++aD m x).count x < wf ws x+arv qv x as (s++aD m x):=by
   rw[jf,cR,List.count_replicate_self];omega
  have e:s++aD (m+1) x=(s++aD m x)++[x]:=by rw[uA,fX]
  rw[e];exact⟨a.snoc x0 x1 c,b.snoc c⟩
theorem ajc:∀(l s:List Int) (o4:Sl),(∀x∈l,0<=x/\x < (qv.length:Int))->Lg qv as (wf ws) s->NN qv as (wf ws) s->∃(e:List Int) (q4:Sl),(tagB o4=true->tagB q4=true)/\(e=[]->∀x∈l,¬0 < (stn qv as ws s).getD x.toNat 0)/\Lg qv as (wf ws) (s++e)/\NN qv as (wf ws) (s++e) /\
  forD (bu 4) aaf (l.map D.int) (fr9 (.val (hD qv)) A W o4 (hD qv) ((go qv as s).map D.int) ((stn qv as ws s).map D.int) ((gts qv as s).map D.int) ((tal qv.length s).map D.int)) =
  some (.nx,fr9 (.val (hD qv)) A W q4 (hD qv) ((go qv as (s++e)).map D.int) ((stn qv as ws (s++e)).map D.int) ((gts qv as (s++e)).map D.int) ((tal qv.length (s++e)).map D.int))
 | [],s,o4,_,hl,hn=>⟨[],o4,id,(fun _ x hx=>by cases hx),by rw[cZ];exact hl,by rw[cZ];exact hn,by rw[cZ];rfl⟩
 | x::l,s,o4,hx,hl,hn=>by
  obtain⟨x0,x1⟩:=hx x (aR ..);have e1:=apr (ws:=ws) h ha A W hl.inR x0 x1;have g:=ud (qv:=qv) as ws s x0 x1;have hnx:=hn x x0 x1;obtain⟨l2,n2⟩:=avb h hl hn x0 x1 ((stn qv as ws s).getD x.toNat 0).toNat (by omega)
  obtain⟨e,q4,h4,c1,c2,c3,c4⟩:=ajc l (s++aD ((stn qv as ws s).getD x.toNat 0).toNat x) (.val (.int x)) (fun y hy=>hx y (aL _ hy)) l2 n2
  rw[fX] at c2 c3 c4;refine⟨List.replicate ((stn qv as ws s).getD x.toNat 0).toNat x++e,q4,fun _=>h4 rfl,fun z y hy =>?_,c2,c3,?_⟩
  ·obtain⟨z1,z2⟩:=List.append_eq_nil_iff.mp z;have z3:((stn qv as ws s).getD x.toNat 0).toNat=0:=by
    have:=congrArg List.length z1;rw[bY] at this;exact this
   rcases aY.mp hy with rfl | hy
   ·omega
   ·have:=c1 z2 y hy;rw[z1,cZ] at this;exact this
  ·rw[aU,vm];generalize aD ((stn qv as ws s).getD x.toNat 0).toNat x=R at *;have eb:bu 4 (.int x) (fr9 (.val (hD qv)) A W o4 (hD qv) ((go qv as s).map D.int) ((stn qv as ws s).map D.int) ((gts qv as s).map D.int) ((tal qv.length s).map D.int))=some (fr9 (.val (hD qv)) A W (.val (.int x)) (hD qv) ((go qv as s).map D.int) ((stn qv as ws s).map D.int) ((gts qv as s).map D.int) ((tal qv.length s).map D.int)):=rfl;rw[eb];dsimp only;rw[e1];exact c4
end
theorem ag5(n:Nat):(aD n [D.int 0]).flatten=(aD n (0:Int)).map D.int:=by
 rw[lM]
 induction n with
 | zero=>rfl
 | succ n ih=>rw[eE,gY,ih,eE];rfl
structure Wk (n:Nat) (ws:List Int):Prop where
 len:ws.length=n
 ok:∀w∈ws,0<=w/\w<=100
theorem aig{qv:LL9}(h:Hs qv){ws:List Int}(hw:Wk qv.length ws):vo [.val (hD qv),.val (.tup (ws.map D.int)),.val (.int 100)]=some (.ok (.v (.bl true)),[.val (hD qv),.val (.tup (ws.map D.int)),.val (.int 100)]):=by
 have hm:=h.most;have hl:=hw.len;have hl3:=mq qv;have e1:gf [.val (.tup (ws.map D.int)),.val (.int (qv.length:Int)),.val (.int (qv.length:Int))]=some (.ok (.v (.bl true)),[.val (.tup (ws.map D.int)),.val (.int (qv.length:Int)),.val (.int (qv.length:Int))]):=by
  have:(ws.length:Int)=qv.length:=by omega
  simp[gf,p8,isTy,this]
 have e2:compD (bu 0) (ret true) aa3 (ws.map D.int) [] [.emp,.val (.int 100)]=some (.ok (ws.map fun _=>.bl true),abo .emp (ws.map D.int)::[.val (.int 100)]):=by
  rw[aap (f:=fun _=>.bl true)]
  ·simp
  ·intro d hd;obtain⟨w,hwm,rfl⟩:=cW.mp hd;have:=hw.ok w hwm;simp[aa3,ad1,this.1,this.2]
 have e3:uc (ws.map fun _=>D.bl true)=some (ws.map fun _=>true):=by
  have:=aas (ws.map fun _=>true)
  rwa[fD] at this
 have e4:(ws.map fun _=>true).all id=true:=by
  rw[tW,fP];intro x _;rfl
 have hc:ws.length<=capS:=bj (by omega)
 generalize hB:(ws.map fun _=>true)=bs at *
 have hc2:(ws.map fun _=>D.bl true).length<=capS:=by rw[aF];exact hc
 generalize (ws.map fun _=>D.bl true)=BB at *
 generalize ws.map D.int=ww at *;simp only[hD] at *;simp[vo,ae0,hl3,e1,e2,e3,e4,hc2]
theorem ain{qv:LL9}(h:Hs qv){as:List Int}(ha:Arr qv as){ws:List Int}(hw:Wk qv.length ws):jl [.val (hD qv),.val (.tup (as.map D.int)),.val (.tup (ws.map D.int))]=some (.ok (.v .non),[.val (hD qv),.val (.tup (as.map D.int)),.val (.tup (ws.map D.int))]):=by
 have e1:=aey h ha;have e2:=aig h hw;generalize as.map D.int=aa at *;generalize ws.map D.int=ww at *;generalize hD qv=hh at *;have e3:ig [.val hh,.val (.tup aa)]=some (.ok (.v .non),[.val hh,.val (.tup aa)]):=by simp[ig,sy,e1]
 have e4:kh [.val hh,.val (.tup ww)]=some (.ok (.v .non),[.val hh,.val (.tup ww)]):=by simp[kh,xn,e2]
 simp[jl,aaj,e3,e4]
theorem a7h(h A W o:Sl)(d:D)(l1 l2 l3 l4:List D):(fr9 h A W o d l1 l2 l3 l4:List Sl)[0]? = some h:=rfl
theorem a7g(h A W o:Sl)(d:D)(l1 l2 l3 l4:List D):(fr9 h A W o d l1 l2 l3 l4:List Sl)[5]? = some (.own (some 1000) l1):=rfl
theorem a7f(h A W o:Sl)(d:D)(l1 l2 l3 l4:List D):(fr9 h A W o d l1 l2 l3 l4:List Sl)[7]? = some (.own (some 1002) l3):=rfl
theorem a7e(h A W o:Sl)(d:D)(l1 l2 l3 l4:List D):(fr9 h A W o d l1 l2 l3 l4:List Sl)[8]? = some (.own (some 1003) l4):=rfl
def rsC(d:D)(la lw zz:List D):List (Str×Rv):=[("house", .v d),("turning", .fr la),("standing", .fr lw),("gone", .fr [.int 0,.int 0,.int 0]),("left", .fr zz)]
theorem avq(d:D){hh la lw:List D}{n:Nat}(hn:itemsD d=some hh)(hl:hh.length=n)(c1:la.length<=capS)(c2:lw.length<=capS)(c3:n<=1000) :
  iniD aa0 [.emp,.val d,.val (.tup la),.val (.tup lw)]=some (rsC d la lw ((aD n (0:Int)).map D.int),[.emp,.val d,.val (.tup la),.val (.tup lw)]):=by
 have z:=ag5 n;have hc:capS≥1000:=bj (aM _);have c4:n<=capS:=by omega
 subst hl;have c5:hh.length < 9223372036854775808:=by omega
 simp[rsC,iniD,aa0,ap8,hn,c1,c2,c4,c5,z]
section
variable{qv:LL9}(h:Hs qv){as:List Int}(ha:Arr qv as){ws:List Int}
include h ha
theorem anp(hwl:ws.length=qv.length)(hw0:∀w∈ws,0<=w){B:Nat}(hmost:∀s,Lg qv as (wf ws) s->s.length<=B)(hB:B < 100000) :
  ∃S,Lg qv as (wf ws) S/\Stb qv as (wf ws) S/\abq [.val (hD qv),.val (.tup (as.map D.int)),.val (.tup (ws.map D.int))]=some (.ok (.v (.tup [.tup ((gts qv as S).map D.int),.tup ((go qv as S).map D.int),.tup ((tal qv.length S).map D.int)])),[.val (hD qv),.val (.tup (as.map D.int)),.val (.tup (ws.map D.int))]):=by
 have hm:=h.most;have h1:=h.one;have loop:=v9 (c:=zq) (g:=ab0)
  (fun n ρ=>∃(s:List Int) (o4:Sl),tagB o4=true/\n=B - s.length/\Lg qv as (wf ws) s/\NN qv as (wf ws) s/\ρ=fr9 (.val (hD qv)) (.val (.tup (as.map D.int))) (.val (.tup (ws.map D.int))) o4 (hD qv) ((go qv as s).map D.int) ((stn qv as ws s).map D.int) ((gts qv as s).map D.int) ((tal qv.length s).map D.int))
  (fun ρ=>∃(s:List Int) (o4:Sl),tagB o4=true/\Lg qv as (wf ws) s/\Stb qv as (wf ws) s/\ρ=fr9 (.val (hD qv)) (.val (.tup (as.map D.int))) (.val (.tup (ws.map D.int))) o4 (hD qv) ((go qv as s).map D.int) ((stn qv as ws s).map D.int) ((gts qv as s).map D.int) ((tal qv.length s).map D.int))
  ?_ fuel (B) (fr9 (.val (hD qv)) (.val (.tup (as.map D.int))) (.val (.tup (ws.map D.int))) .emp (hD qv) (as.map D.int) (ws.map D.int) [.int 0,.int 0,.int 0] ((aD qv.length (0:Int)).map D.int)) (lH hB adx) ⟨[],.emp,rfl,by simp,.nil,.nil,by rw[ak0 hwl fun w hw'=>hw0 w hw',ape];rfl⟩
 ·obtain⟨ρ',e,S,o4,ho4,l,st,rfl⟩:=loop;refine⟨S,l,st,?_⟩;have hal:=ha.len;have c1:(as.map D.int).length<=capS:=by rw[aF];exact bj (by omega)
  have c2:(ws.map D.int).length<=capS:=by rw[aF];exact bj (by omega)
  have c4:((gts qv as S).map D.int).length<=capS:=bj (show 3<=1000 by decide)
  have c5:((tal qv.length S).map D.int).length<=capS:=by rw[aF,su];exact bj (by omega)
  have c6:((go qv as S).map D.int).length<=capS:=by rw[aF,(yt h S ha l.inR).len];exact bj (by omega)
  have z:=avq (hD qv) (hh:=hDs qv) (n:=qv.length) rfl (mq qv) c1 c2 (by omega)
  generalize (aD qv.length (0:Int)).map D.int=zz at *;generalize (tal qv.length S).map D.int=tm at *;generalize (stn qv as ws S).map D.int=sm at *;generalize (gts qv as S).map D.int=gm at *;generalize (go qv as S).map D.int=am at *;generalize as.map D.int=la at *;generalize ws.map D.int=lw at *;generalize hD qv=hh at *;have eK:(dSeq (whileD zq ab0 fuel) (dRet (M.v (mTup (bh (M.d (dz (g1 gT9) ((mLnk "Crowd" 3 "gone" 7).bind fun _=>dg 7 mNil))) (bh (M.d (dz (g1 gT9) ((mLnk "Crowd" 3 "turning" 5).bind fun _=>dg 5 mNil))) (bh (M.d (dz (g1 gT9) ((mLnk "Crowd" 3 "left" 8).bind fun _=>dg 8 mNil))) mNil))))))) (fr9 (.val hh) (.val (.tup la)) (.val (.tup lw)) .emp hh la lw [.int 0,.int 0,.int 0] zz)=some (.ret (.v (.tup [.tup gm,.tup am,.tup tm])),fr9 (.val hh) (.val (.tup la)) (.val (.tup lw)) o4 hh am sm gm tm):=by
   simp[e,a6o,a6m,a6n,a7g,a7f,a7e,c4,c5,c6]
  have eN:aga [.val hh,.val (.tup la),.val (.tup lw),.emp,.emp,.emp,.emp,.emp,.emp]=some (.ret (.v (.tup [.tup gm,.tup am,.tup tm])),[.val hh,.val (.tup la),.val (.tup lw),.emp,o4,.emp,.emp,.emp,.emp]):=by
   unfold aga dNew dM;have em:bw 0 (bw 1 (bw 2 gr)) [Sl.val hh,.val (.tup la),.val (.tup lw),.emp,.emp,.emp,.emp,.emp,.emp]=some (.ok [none,none,none],[.val hh,.val (.tup la),.val (.tup lw),.emp,.emp,.emp,.emp,.emp,.emp]):=by rfl
   rw[em];dsimp only;rw[if_pos (show okJs [Sl.val hh,.val (.tup la),.val (.tup lw),.emp,.emp,.emp,.emp,.emp,.emp] [none,some 0,some 1,some 2]=true from rfl)]
   have el:lend [Sl.val hh,.val (.tup la),.val (.tup lw),.emp,.emp,.emp,.emp,.emp,.emp] [none,some 0,some 1,some 2] [none,none,none,none]++aD (4 - 4) Sl.emp=[.emp,.val hh,.val (.tup la),.val (.tup lw)]:=rfl;rw[el,z];dsimp only;rw[if_pos (show(putB [Sl.val hh,.val (.tup la),.val (.tup lw),.emp,.emp,.emp,.emp,.emp,.emp] [none,some 0,some 1,some 2] (tU 4 [.emp,.val hh,.val (.tup la),.val (.tup lw)]):List Sl).all tagB=true/\[5,6,7,8].contains 3=false from⟨rfl,rfl⟩)]
   have eS:setG (rsC hh la lw zz) [5,6,7,8] 0 (bA (putB [Sl.val hh,.val (.tup la),.val (.tup lw),.emp,.emp,.emp,.emp,.emp,.emp] [none,some 0,some 1,some 2] (tU 4 [.emp,.val hh,.val (.tup la),.val (.tup lw)])) 3 (.box "Crowd" (mkFs (rsC hh la lw zz) 0)))=some (fr9 (.val hh) (.val (.tup la)) (.val (.tup lw)) .emp hh la lw [.int 0,.int 0,.int 0] zz):=rfl;rw[eS];dsimp only;rw[eK];dsimp only;have eO:offs (fr9 (.val hh) (.val (.tup la)) (.val (.tup lw)) o4 hh am sm gm tm) [3,5,6,7,8]=[.val hh,.val (.tup la),.val (.tup lw),.emp,o4,.emp,.emp,.emp,.emp]:=rfl;rw[eO,if_pos (show([Sl.val hh,.val (.tup la),.val (.tup lw),.emp,o4,.emp,.emp,.emp,.emp]:List Sl).all tagB=true by simp only[iZ,tV,ho4];rfl)]
  simp[abq,eN]
 ·rintro n ρ ⟨s,o4,ho4,rfl,l,nn,rfl⟩
  have eT:zq (fr9 (.val (hD qv)) (.val (.tup (as.map D.int))) (.val (.tup (ws.map D.int))) o4 (hD qv) ((go qv as s).map D.int) ((stn qv as ws s).map D.int) ((gts qv as s).map D.int) ((tal qv.length s).map D.int))=some (.ok (((stn qv as ws s).map fun n=>n != 0).any id),fr9 (.val (hD qv)) (.val (.tup (as.map D.int))) (.val (.tup (ws.map D.int))) o4 (hD qv) ((go qv as s).map D.int) ((stn qv as ws s).map D.int) ((gts qv as s).map D.int) ((tal qv.length s).map D.int)):=by
   have ei:=aah (stn qv as ws s);generalize (stn qv as ws s).map D.int=sm at *;generalize (go qv as s).map D.int=am at *;generalize (gts qv as s).map D.int=gm at *;generalize (tal qv.length s).map D.int=tm at *;generalize as.map D.int=la at *;generalize ws.map D.int=lw at *;generalize hD qv=hh at *;generalize hns:stn qv as ws s=ns at *;simp[zq,at6,aus,ei]
  have eany:(((stn qv as ws s).map fun n=>n != 0).any id)=true↔∃x:Int,0<=x/\x < (qv.length:Int)/\(stn qv as ws s).getD x.toNat 0≠0:=by
   rw[List.any_map,List.any_eq_true];constructor
   ·rintro⟨v,hv,q⟩
    obtain⟨i,hi,e⟩:=fO.mp hv;rw[gw] at hi;refine⟨(i:Int),by omega,by omega,?_⟩
    rw[aX,aG,aC (by rw[gw];exact hi)]
    show(stn qv as ws s)[i]≠0;rw[e]
    simpa using q
   ·rintro⟨x,x0,x1,q⟩
    have hk:x.toNat < (stn qv as ws s).length:=by rw[gw];omega
    refine⟨(stn qv as ws s).getD x.toNat 0,?_,by simpa using q⟩
    rw[aG,aC hk];exact bT hk
  cases q:(((stn qv as ws s).map fun n=>n != 0).any id) with
  | false =>
   rw[q] at eT eany;refine .inl ⟨_,eT,s,o4,ho4,l,fun x x0 x1 =>?_,rfl⟩
   have q1:=nn x x0 x1;have q2:(stn qv as ws s).getD x.toNat 0=0:=cN fun z=>by
    have:=eany.mpr ⟨x,x0,x1,z⟩;cases this
   rw[ud as ws s x0 x1] at q2;omega
  | true =>
   rw[q] at eT;obtain⟨x,x0,x1,hx⟩:=eany.mp q;obtain⟨e,q4,h4,c1,c2,c3,c4⟩:=ajc h ha (.val (.tup (as.map D.int))) (.val (.tup (ws.map D.int))) (upto qv.length) s o4 (fun x hx=>jx hx) l nn
   have hne:e≠[]:=fun z=>by
    have:=c1 z x (yo x0 x1);have q1:=nn x x0 x1;rw[ud as ws s x0 x1] at this hx;omega
   have hpos:=iD.mpr hne;have z:=hmost _ c2;rw[bM] at z;refine .inr ⟨_,_,B - (s++e).length,eT,?_,by rw[bM];omega,s++e,q4,h4 ho4,rfl,c2,c3,rfl⟩
   rw[<-xg] at c4;have hdl:=mq qv;have hb':qv.length < 4611686018427387904:=by omega
   generalize (stn qv as ws s).map D.int=sm at *;generalize (go qv as s).map D.int=am at *;generalize (gts qv as s).map D.int=gm at *;generalize (tal qv.length s).map D.int=tm at *;generalize as.map D.int=la at *;generalize ws.map D.int=lw at *;simp only[hD] at *;simp[ab0,a7h,hdl,hb',c4]
end
theorem aqz(a b c:List Int):gEq true (.tup [.tup (a.map D.int),.tup (b.map D.int),.tup (c.map D.int)]) (.tup [.tup (a.map D.int),.tup (b.map D.int),.tup (c.map D.int)])=some (.v (.bl false)):=by
 have h1:okD 30 (.tup [.tup (a.map D.int),.tup (b.map D.int),.tup (c.map D.int)])=true:=by
  show([D.tup (a.map D.int),D.tup (b.map D.int),D.tup (c.map D.int)].all (okD 29))=true;simp only[iZ,tV,Bool.and_true,bF];exact⟨aew 28 a,aew 28 b,aew 28 c⟩
 have e:eqD (.tup [.tup (a.map D.int),.tup (b.map D.int),.tup (c.map D.int)]) (.tup [.tup (a.map D.int),.tup (b.map D.int),.tup (c.map D.int)])=true:=PySem.SeqAt.eqv_refl _ (abk _ _ h1).1;unfold gEq;rw[h1,e];rfl
section
variable{qv:LL9}(h:Hs qv){as:List Int}(ha:Arr qv as){ws:List Int}(hop:aau qv=[])(hW:Wk qv.length ws){B:Nat}(hmost:∀s,Lg qv as (wf ws) s->s.length<=B)(hB:B < 100000)
include h ha
theorem azy{S T:List Int}(l1:Lg qv as (wf ws) S)(s1:Stb qv as (wf ws) S)(l2:Lg qv as (wf ws) T)(s2:Stb qv as (wf ws) T):gts qv as S=gts qv as T/\go qv as S=go qv as T/\tal qv.length S=tal qv.length T:=by
 have c:=abel h ha l1 s1 l2 s2;have g:∀d,arv qv d as S=arv qv d as T:=fun d=>by
  rw[aat h d S ha l1.inR,aat h d T ha l2.inR];exact u6 _ _ _ fun x _=>by rw[c x]
 exact⟨by unfold gts;rw[g,g,g],go_same h ha l1.inR l2.inR c,asz c⟩
include hop hW hmost hB
theorem rest_eq{S:List Int}(l1:Lg qv as (wf ws) S)(s1:Stb qv as (wf ws) S):ahj [.val (hD qv),.val (.tup (as.map D.int)),.val (.tup (ws.map D.int))]=some (.ok (.v (.tup [.tup ((gts qv as S).map D.int),.tup ((go qv as S).map D.int),.tup ((tal qv.length S).map D.int)])),[.val (hD qv),.val (.tup (as.map D.int)),.val (.tup (ws.map D.int))]):=by
 obtain⟨T,l2,s2,e2⟩:=anp h ha hW.len (fun w hw'=>(hW.ok w hw').1) hmost hB
 obtain⟨g1,g2,g3⟩:=azy h ha l1 s1 l2 s2;rw[<-g1,<-g2,<-g3] at e2;have s0:=ain h ha hW;have q:=apc h;rw[hop] at q;have e3:gEq true (.tup []) (.tup [])=some (.v (.bl false)):=aa1 true [] [];have s1:jc [.val (hD qv)]=some (.ok (.v .non),[.val (hD qv)]):=by simp[jc,uv,q,e3]
 generalize (gts qv as S).map D.int=gm at *;generalize (go qv as S).map D.int=am at *;generalize (tal qv.length S).map D.int=tm at *;generalize as.map D.int=la at *;generalize ws.map D.int=lw at *;generalize hD qv=hh at *;simp[ahj,avs,s0,s1,e2]
end
def ldo(qv:LL9)(as:List Int)(x:Int)(m:Nat):Int:=(dr qv x).getD ((ar as x+((m:Int) - 1)) % ((dr qv x).length:Int)).toNat 0
theorem av8(qv:LL9)(as:List Int)(x:Int){m n:Nat}(hm:m < n):us qv as x (ldo qv as x n) m < us qv as x (ldo qv as x n) n:=by
 obtain⟨n,rfl⟩:∃k,n=k+1:=⟨n - 1,by omega⟩
 have e:us qv as x (ldo qv as x (n+1)) (n+1)=us qv as x (ldo qv as x (n+1)) n+1:=by
  show us qv as x (ldo qv as x (n+1)) n+(if (dr qv x).getD ((ar as x+(n:Int)) % ((dr qv x).length:Int)).toNat 0=ldo qv as x (n+1) then 1 else 0)=_
  rw[if_pos];unfold ldo;rw[show(((n+1:Nat):Int) - 1)=(n:Int) by omega]
 have:=akx qv as x (ldo qv as x (n+1)) (show m<=n by omega)
 omega
theorem al8(f g:Int->Nat)(x:Int)(hx:f x < g x):∀l:List Int,x∈l->(∀y∈l,f y<=g y)->(l.map f).sum < (l.map g).sum
 | [],h,_=>by cases h
 | y::l,h,hs=>by
  rw[aU,aU,bL,bL];have h1:=ae9 f g l fun z hz=>hs z (aL _ hz)
  have h2:=hs y (aR ..);rcases aY.mp h with rfl | h
  ·omega
  ·have:=al8 f g x hx l h fun z hz=>hs z (aL _ hz)
   omega
section
variable{qv:LL9}(h:Hs qv)
include h
theorem aiu:∀(s:List Int) {as:List Int},Arr qv as->InR qv s->s.length=((upto qv.length).map fun d=>arv qv d as s).sum+(arv qv (-1) as s+arv qv (-2) as s+arv qv (-3) as s)
 | [],as,_,_=>by
  have:((upto qv.length).map fun d=>arv qv d as []).sum=0:=by
   generalize upto qv.length=l
   induction l with
   | nil=>rfl
   | cons x l ih=>rw[aU,bL,ih];rfl
  rw[this];rfl
 | x::s,as,ha,hs=>by
  have hx:=hs x (aR ..);have ih:=aiu s (acb h ha hx.1 hx.2) fun y hy=>hs y (aL _ hy)
  have hd:=amr h ha hx.1 hx.2;have ea:∀d,arv qv d as (x::s)=(if led qv as x=d then 1 else 0)+arv qv d (gone qv as x) s:=fun d=>rfl
  rw[bO,ih,ea (-1),ea (-2),ea (-3)]
  by_cases q:0<=led qv as x
  ·rw[if_neg (by omega),if_neg (by omega),if_neg (by omega)]
   have e:=ahr (fun d=>arv qv d as (x::s)) (fun d=>arv qv d (gone qv as x) s) (led qv as x) 1 (by rw[ea,if_pos rfl]) (upto qv.length) (ad2 _) (yo q hd.2) fun y _ hy=>by rw[ea,if_neg (iI hy)];omega
   rw[e];omega
  ·have e:=u6 (fun d=>arv qv d as (x::s)) (fun d=>arv qv d (gone qv as x) s) (upto qv.length) fun y hy=>by
    have:=jx hy;rw[ea,if_neg (by omega)]
    omega
   rw[e];have:led qv as x = -1∨led qv as x = -2∨led qv as x = -3:=by omega
   rcases this with z | z | z <;> rw[z] <;> simp <;> omega
variable{as:List Int}(ha:Arr qv as){w:Int->Nat}
include ha
theorem al3{t:List Int}(ht:InR qv t)(st:Stb qv as w t):((upto qv.length).map w).sum=arv qv (-1) as t+arv qv (-2) as t+arv qv (-3) as t:=by
 have e1:=aiu h t ha ht;have e2:=af2 (qv:=qv) ht;have e3:=u6 (fun y=>t.count y) (fun y=>w y+arv qv y as t) (upto qv.length) fun y hy=>st y (jx hy).1 (jx hy).2
 have e4:∀l:List Int,(l.map fun y=>w y+arv qv y as t).sum=(l.map w).sum+(l.map fun y=>arv qv y as t).sum:=fun l=>by
  induction l with
  | nil=>rfl
  | cons x l ih=>rw[aU,aU,aU,bL,bL,bL,ih];omega
 rw[e3,e4] at e2;omega
theorem aof{S t:List Int}(lS:Lg qv as w S)(sS:Stb qv as w S)(ht:InR qv t)(st:Stb qv as w t):(∀x,S.count x<=t.count x)/\∀x,S.count x < t.count x->0<=ldo qv as x (t.count x)/\S.count (ldo qv as x (t.count x)) < t.count (ldo qv as x (t.count x)):=by
 have le:=fun x=>adp h ha lS ht (fun x a b=>lK (st x a b).symm) x
 refine⟨le,fun x hx =>?_⟩
 have hxr:0<=x/\x < (qv.length:Int):=cN fun q=>by
  rw[ht.count q] at hx;omega
 have ul:=av8 qv as x hx;have hd : -3<=ldo qv as x (t.count x)/\ldo qv as x (t.count x) < (qv.length:Int):=by
  obtain⟨w1,w2,w3⟩:=h.dr hxr.1 hxr.2;apply w3;unfold ldo;have hk:((ar as x+((t.count x:Int) - 1)) % ((dr qv x).length:Int)).toNat < (dr qv x).length:=by
   have a:=dW (ar as x+((t.count x:Int) - 1)) (show(0:Int) < ((dr qv x).length:Int) by omega)
   have b:=fZ (ar as x+((t.count x:Int) - 1)) (show((dr qv x).length:Int)≠0 by omega)
   omega
  rw[aG,aC hk];exact bT hk
 generalize ldo qv as x (t.count x)=d at *;have ar:arv qv d as S < arv qv d as t:=by
  rw[aat h d S ha lS.inR,aat h d t ha ht];exact al8 _ _ x ul _ (yo hxr.1 hxr.2) fun y _=>akx qv as y d (le y)
 by_cases q:0<=d
 ·refine⟨q,?_⟩;have a:=sS d q hd.2;have b:=st d q hd.2;omega
 ·exfalso;have a:=al3 h ha lS.inR sS;have b:=al3 h ha ht st;have al:=fun d=>av4 h ha lS.inR ht (fun y _ _=>le y) d
  have a1:=al (-1);have a2:=al (-2);have a3:=al (-3);have:d = -1∨d = -2∨d = -3:=by omega
  rcases this with rfl | rfl | rfl <;> omega
omit ha in
theorem Lg.nn{S:List Int}(l:Lg qv as w S):∀p q,S=p++q->NN qv as w p:=fun p=>by
 induction hk:p.length generalizing p with
 | zero =>
  intro q _;rw[qH hk];exact .nil
 | succ k ih =>
  intro q e;rcases List.eq_nil_or_concat p with rfl | ⟨p',x,rfl⟩
  ·cases hk
  ·rw[List.concat_eq_append] at *;have hl:p'.length=k:=by simp at hk;exact hk
   have e2:S=p'++x::q:=by rw[e,fX];rfl
   exact(ih p' hl (x::q) e2).snoc (l p' x q e2).2
theorem ano{S:List Int}(lS:Lg qv as w S)(sS:Stb qv as w S)(D:Int->Prop)(hD:∀x,D x->0<=x/\x < (qv.length:Int)/\0 < S.count x/\D (ldo qv as x (S.count x)))(x:Int)(hx:D x):False:=by
 classical
 have ex:∀S':List Int,(∃y∈S',D y)->∃p y q,S'=p++y::q/\D y/\∀z∈q,¬D z:=fun S'=>by
  induction S' with
  | nil=>rintro⟨y,hy,_⟩;cases hy
  | cons a S' ih =>
   rintro⟨y,hy,hd⟩
   by_cases q:∃y∈S',D y
   ·obtain⟨p,y,r,e,a1,a2⟩:=ih q;exact⟨a::p,y,r,by rw[e];rfl,a1,a2⟩
   ·rcases aY.mp hy with rfl | hy
    ·exact⟨[],y,S',rfl,hd,fun z hz hz'=>q ⟨z,hz,hz'⟩⟩
    ·exact absurd ⟨y,hy,hd⟩ q
 obtain⟨p,y,q,e,hy,hq⟩:=ex S ⟨x,List.count_pos_iff.mp (hD x hx).2.2.1,hx⟩;obtain⟨y0,y1,y2,y3⟩:=hD y hy;obtain⟨_,hleg⟩:=lS p y q e;have hpin:InR qv p:=fun z hz=>lS.inR z (by rw[e];exact gR _ hz)
 have cq:q.count y=0:=pF.mpr fun z=>hq y z hy
 have cS:S.count y=p.count y+1:=by rw[e,cR,jd,if_pos rfl,cq]
 have eled:led qv (go qv as p) y=ldo qv as y (S.count y):=by
  unfold led ldo;rw[ait h y0 y1 p ha hpin,cS];rw[show(((p.count y+1:Nat):Int) - 1)=(p.count y:Int) by omega]
 rw[<-eled] at y3;obtain⟨d0,d1,d2,_⟩:=hD _ y3;obtain⟨d,hd⟩:∃d,led qv (go qv as p) y=d:=⟨_,rfl⟩
 rw[hd] at y3 d0 d1;have nn:=lS.nn h p (y::q) e d d0 d1;have c2:q.count d=0:=pF.mpr fun z=>hq d z y3
 have e3:arv qv d as S=arv qv d as p+(1+arv qv d (gone qv (go qv as p) y) q):=by
  rw[e,jf];show arv qv d as p+((if led qv (go qv as p) y=d then 1 else 0)+_)=_
  rw[if_pos hd]
 have e4:S.count d=p.count d+(0+if y=d then 1 else 0):=by rw[e,cR,jd,c2]
 have s:=sS d d0 d1;rw[e3,e4] at s
 by_cases z:y=d
 ·subst z;rw[if_pos rfl] at s;omega
 ·rw[if_neg z] at s;omega
end
def uAll(qv:LL9)(as gs:List Int)(i:Nat):List D:=(bG i).map fun j=>D.tup ((vd (qv.getD j []).length (as.getD j 0) (gs.getD j 0)).map D.int)
theorem ao6(qv:LL9)(as gs:List Int)(i:Nat):uAll qv as gs (i+1)=uAll qv as gs i++[D.tup ((vd (qv.getD i []).length (as.getD i 0) (gs.getD i 0)).map D.int)]:=by
 simp[uAll,eY]
theorem afi{qv:LL9}(h:Hs qv){as gs:List Int}(ha:as.length=qv.length)(hg:gs.length=qv.length) :
  qb [.val (hD qv),.val (.tup (as.map D.int)),.val (.tup (gs.map D.int))]=some (.ok (.v (.tup (uAll qv as gs qv.length))),[.val (hD qv),.val (.tup (as.map D.int)),.val (.tup (gs.map D.int))]):=by
 have hm:=h.most;have hle:(hDs qv).length<=(as.map D.int).length/\(hDs qv).length<=(gs.map D.int).length:=by rw[mq,aF,aF];omega
 have loop:=yw (b:=bTup 3 (gk (bu 4) (gk (bu 5) (gk (bu 6) bNil)))) (g:=za) (fun i ρ=>∃o1 o2 o3,ρ=[.val (hD qv),.val (.tup (as.map D.int)),.val (.tup (gs.map D.int)),.own none (uAll qv as gs i),o1,o2,o3])
  (l:=acv (hDs qv) (as.map D.int) (gs.map D.int)) (ρ:=[.val (hD qv),.val (.tup (as.map D.int)),.val (.tup (gs.map D.int)),.own none [],.emp,.emp,.emp]) 0 ⟨.emp,.emp,.emp,rfl⟩ ?_
 ·obtain⟨ρ',e,o1,o2,o3,rfl⟩:=loop;rw[afg hle,mq,cT] at e;have hl:=mq qv;simp only[hD] at e ⊢
  simp[qb,adt,hl,ha,hg,e]
 ·rintro i d ρ hd ⟨o1,o2,o3,rfl⟩
  rw[cT] at *;obtain⟨d1,d2,d3,g1,g2,g3,rfl⟩:=ac6 hd;obtain⟨r,hr,rfl⟩:=af8 g1;rw[aO] at g2 g3;obtain⟨a,ea,rfl⟩:=bH.mp g2;obtain⟨b,eb,rfl⟩:=bH.mp g3;obtain⟨k1,k2,_⟩:=h.room r (cC hr);have hi:i < qv.length:=(aN.mp hr).1;have e1:=ag6 (n:=r.length) (a:=a) (L:=b) k1 k2;have x1:qv.getD i []=r:=by simp[hr]
  have x2:as.getD i 0=a:=by simp[ea]
  have x3:gs.getD i 0=b:=by simp[eb]
  have hc:(uAll qv as gs i).length < capS:=by simp[uAll];unfold capS;omega
  refine⟨[.val (hD qv),.val (.tup (as.map D.int)),.val (.tup (gs.map D.int)),.own none (uAll qv as gs i),.val (.tup (r.map D.int)),.val (.int a),.val (.int b)],[.val (hD qv),.val (.tup (as.map D.int)),.val (.tup (gs.map D.int)),.own none (uAll qv as gs (i+1)),.val (.tup (r.map D.int)),.val (.int a),.val (.int b)],by simp,.inl ?_,_,_,_,rfl⟩
  rw[ao6,x1,x2,x3];generalize uAll qv as gs i=Z at hc;have hc2:(vd r.length a b).length<=capS:=by rw[ac7];exact bj (by omega)
  simp[za,e1,hc,hc2]
def af5(L:List Int)(S:List Int):List Int:=S.filter fun x=>decide (L.getD x.toNat 0∈S)
theorem auj{L:List Int}(S:List Int){x:Int}(h0:0<=x)(h1:x < (L.length:Int)) :
  u9 [.val (.int x),.val (.lst (S.map D.int)),.val (.tup (L.map D.int))]=some (.ok (decide (L.getD x.toNat 0∈S)),[.val (.int x),.val (.lst (S.map D.int)),.val (.tup (L.map D.int))]):=by
 have er:=qd (ns:=L) h0 h1;have e2:=alo false (L.getD x.toNat 0) S;generalize L.getD x.toNat 0=y at *;generalize L.map D.int=LL at *;generalize decide (y∈S)=b at *;generalize S.map D.int=SS at *;simp[u9,er,e2]
theorem aon{L:List Int}(S:List Int)(hS:∀x∈S,0<=x/\x < (L.length:Int)) :
  compD (bu 0) u9 zg (S.map D.int) [] [.emp,.val (.lst (S.map D.int)),.val (.tup (L.map D.int))]=some (.ok ((af5 L S).map D.int),abo .emp (S.map D.int)::[.val (.lst (S.map D.int)),.val (.tup (L.map D.int))]):=by
 rw[rz (p:=fun d=>match d with | .int x=>decide (L.getD x.toNat 0∈S) | _=>false) (f:=id)]
 ·simp only[af5,nY,jX,uJ,cU]
 ·intro d hd;obtain⟨k,hk,rfl⟩:=cW.mp hd;exact auj S (hS k hk).1 (hS k hk).2
 ·intro d hd _;simp[zg]
theorem aif{L S:List Int}{x:Int}:x∈af5 L S↔x∈S/\L.getD x.toNat 0∈S:=by
 unfold af5;rw[cM];simp
theorem aqs{L:List Int}{S0:List Int}(hS:∀x∈S0,0<=x/\x < (L.length:Int))(hl:S0.length<=100):∃R:List Int,t7 [.val (.tup (L.map D.int)),.val (.lst (S0.map D.int))]=some (.ok (.fr (R.map D.int)),[.val (.tup (L.map D.int)),.val (.lst (S0.map D.int))]) /\
  (∀Q:Int->Prop,(∀x,Q x->x∈S0/\Q (L.getD x.toNat 0))->∀x,Q x->x∈R)/\∀x∈R,x∈S0/\L.getD x.toNat 0∈R:=by
 have loop:=v9 (c:=u5) (g:=yz)
  (fun k ρ=>∃(S:List Int) (m:Nat),ρ=[.val (.tup (L.map D.int)),.val (.lst (S0.map D.int)),.own none (S.map D.int),.val (.int (m:Nat))]/\k=m/\S.length<=m/\S.length<=100/\(S.length=m->∀x∈S,L.getD x.toNat 0∈S)/\(∀x∈S,x∈S0)/\∀Q:Int->Prop,(∀x,Q x->x∈S0/\Q (L.getD x.toNat 0))->∀x,Q x->x∈S)
  (fun ρ=>∃(S:List Int) (o:Sl),ρ=[.val (.tup (L.map D.int)),.val (.lst (S0.map D.int)),.own none (S.map D.int),o]/\(∀x∈S,L.getD x.toNat 0∈S)/\(∀x∈S,x∈S0)/\∀Q:Int->Prop,(∀x,Q x->x∈S0/\Q (L.getD x.toNat 0))->∀x,Q x->x∈S)
  ?_ fuel (S0.length+1) [.val (.tup (L.map D.int)),.val (.lst (S0.map D.int)),.own none (S0.map D.int),.val (.int ((S0.length+1:Nat):Int))] (uN (by omega) adx)
  ⟨S0,S0.length+1,rfl,rfl,by omega,hl,fun z=>by omega,fun x hx=>hx,fun Q hQ x hx=>(hQ x hx).1⟩
 ·obtain⟨ρ',e,R,o,rfl,r1,r2,r3⟩:=loop;refine⟨R,?_,r3,fun x hx=>⟨r2 x hx,r1 x hx⟩⟩
  have hcast:((S0.length+1:Nat):Int)=(S0.length:Int)+1:=by omega
  rw[hcast] at e;have ul:(S0.map D.int).length=S0.length:=aF ..
  have hc:(S0.map D.int).length<=capS:=by rw[ul];exact bj (by omega)
  generalize S0.map D.int=U at *;generalize R.map D.int=T at *;generalize L.map D.int=LL at *;simp[t7,adw,ul,hc,e]
 ·rintro k ρ ⟨S,m,rfl,rfl,h1,h2,h3,h4,h5⟩
  have ul:(S.map D.int).length=S.length:=aF ..
  rcases iR S.length k with q | q
  ·have e:=aon (L:=L) S fun x hx=>hS x (h4 x hx)
   have hkl:(af5 L S).length<=S.length:=fG _ _;have hc:((af5 L S).map D.int).length<=capS:=by rw[aF];exact bj (by omega)
   refine .inr ⟨[.val (.tup (L.map D.int)),.val (.lst (S0.map D.int)),.own none (S.map D.int),.val (.int (k:Int))],[.val (.tup (L.map D.int)),.val (.lst (S0.map D.int)),.own none ((af5 L S).map D.int),.val (.int (S.length:Int))],S.length,?_,?_,q,af5 L S,S.length,rfl,rfl,hkl,by omega,fun z x hx =>?_,fun x hx=>h4 x (aif.mp hx).1,fun Q hQ x hx=>aif.mpr ⟨h5 Q hQ x hx,h5 Q hQ _ (hQ x hx).2⟩⟩
   ·have q':(S.length:Int) < (k:Int):=by omega
    generalize S.map D.int=SS at *;simp[u5,ul,q']
   ·generalize (af5 L S).map D.int=kk at *;generalize S.map D.int=SS at *;generalize L.map D.int=LL at *;simp[yz,ul,e,hc]
   ·have es:af5 L S=S:=by
     unfold af5 at z ⊢
     exact oV.mpr (List.length_filter_eq_length_iff.mp z)
    rw[es] at hx ⊢
    rw[<-es] at hx;exact(aif.mp hx).2
  ·refine .inl ⟨_,?_,S,.val (.int (k:Int)),rfl,h3 (by omega),h4,h5⟩
   have q':¬(S.length:Int) < (k:Int):=by omega
   generalize S.map D.int=SS at *;simp[u5,ul,q']
noncomputable def stq(st:List Int)(q:Int×Int):List Int:=if 0<=q.1 then st.set q.1.toNat (st.getD q.1.toNat 0+q.2) else st
theorem akz(ps:List (Int×Int)):∀st:List Int,(ps.foldl stq st).length=st.length:=by
 induction ps with
 | nil=>intro st;rfl
 | cons p ps ih =>
  intro st;rw[fB,ih];unfold stq;split
  ·exact bC ..
  ·rfl
theorem au8{n:Nat}:∀(ps:List (Int×Int)) (st:List Int),(∀p∈ps,p.1 < (n:Int))->st.length=n->∀i:Nat,i < n->(ps.foldl stq st).getD i 0=st.getD i 0+(ps.map fun p=>if p.1=(i:Int) then p.2 else 0).sum
 | [],st,_,_,i,_=>by simp
 | (d,t)::ps,st,hp,hl,i,hi=>by
  have hd:d < (n:Int):=hp (d,t) (aR ..);have hl2:(stq st (d,t)).length=n:=by
   have:=akz [(d,t)] st;rw[<-hl];exact this
  rw[fB,au8 ps (stq st (d,t)) (fun p hp'=>hp p (aL _ hp')) hl2 i hi,aU,bL]
  have e:(stq st (d,t)).getD i 0=st.getD i 0+if d=(i:Int) then t else 0:=by
   unfold stq
   by_cases q:0<=d
   ·rw[if_pos q];show(st.set d.toNat (st.getD d.toNat 0+t)).getD i 0=_;rw[wy _ _ _ _ (by omega)]
    by_cases z:d.toNat=i
    ·rw[if_pos z,if_pos (by omega),z]
    ·rw[if_neg z,if_neg (by omega),kI]
   ·rw[if_neg q,if_neg (by omega),kI]
  rw[e];show st.getD i 0+(if d=(i:Int) then t else 0)+_=st.getD i 0+((if d=(i:Int) then t else 0)+_)
  omega
def cmb(qv:LL9)(as gs:List Int)(st:List Int):Nat->List Int
 | 0=>st
 | j+1=>(prs (qv.getD j []) (as.getD j 0) (gs.getD j 0)).foldl stq (cmb qv as gs st j)
theorem aa7(qv:LL9)(as gs st:List Int):∀j,(cmb qv as gs st j).length=st.length
 | 0=>rfl
 | j+1=>by
  show((prs _ _ _).foldl stq (cmb qv as gs st j)).length=_;rw[akz,aa7]
theorem am8{qv:LL9}(h:Hs qv){as:List Int}(ha:Arr qv as){gs st:List Int}(hg:∀g∈gs,0<=g)(hgl:gs.length=qv.length)(hl:st.length=qv.length){i:Nat}(hi:i < qv.length):∀j,j<=qv.length->(cmb qv as gs st j).getD i 0=st.getD i 0+(((bG j).map fun(y:Nat)=>us qv as ((y:Nat):Int) (i:Int) (gs.getD y 0).toNat).sum:Nat)
 | 0,_=>by
  show st.getD i 0=st.getD i 0+((0:Nat):Int);omega
 | j+1,hj=>by
  have hdr:dr qv ((j:Nat):Int)=qv.getD j []:=by unfold dr;rw[aX]
  have har:ar as ((j:Nat):Int)=as.getD j 0:=by unfold ar;rw[aX]
  have hk:j < gs.length:=by omega
  have g0:0<=gs.getD j 0:=by
   rw[aG,aC hk];exact hg _ (bT hk)
  have u:=ai0 h ha (x:=((j:Nat):Int)) (by omega) (by omega) (i:Int) (gs.getD j 0).toNat
  rw[show(((gs.getD j 0).toNat:Nat):Int)=gs.getD j 0 by omega,hdr,har] at u
  have hb:∀p∈prs (qv.getD j []) (as.getD j 0) (gs.getD j 0),p.1 < (qv.length:Int):=fun p hp=>by
   obtain⟨k,hk,rfl⟩:=cW.mp hp;have hk:=dG.mp hk;obtain⟨w1,w2,w3⟩:=h.dr (x:=((j:Nat):Int)) (by omega) (by omega)
   rw[hdr] at w3;refine(w3 _ ?_).2;generalize qv.getD j []=r at *;show r.getD k 0∈r;rw[aG,aC hk];exact bT hk
  show((prs (qv.getD j []) (as.getD j 0) (gs.getD j 0)).foldl stq (cmb qv as gs st j)).getD i 0=_;rw[au8 _ _ hb (by rw[aa7];exact hl) i hi,am8 h ha hg hgl hl hi j (by omega),<-u,eY,cG,jQ]
  simp;omega
theorem arp{n:Nat}{d t:Int}(hd2:d < (n:Int)){st:List Int}(h1:st.length=n)(a b c e:Sl) :
  aag [a,b,.own none (st.map D.int),c,e,.val (.int d),.val (.int t)]=some (.nx,[a,b,.own none ((stq st (d,t)).map D.int),c,e,.val (.int d),.val (.int t)]):=by
 by_cases q:0<=d
 ·have e0:stq st (d,t)=st.set d.toNat (st.getD d.toNat 0+t):=if_pos q;rw[e0];have ix:ixN (st.map D.int).length d=some d.toNat:=by rw[aF];exact vy q (by omega)
  have hlt:d.toNat < st.length:=by omega
  have hg:(st.map D.int)[d.toNat]? = some (.int (st.getD d.toNat 0)):=by rw[aO,aG,aC hlt];rfl
  have m3:(st.set d.toNat (st.getD d.toNat 0+t)).map D.int=(st.map D.int).set d.toNat (.int (st.getD d.toNat 0+t)):=by rw[fY]
  rw[m3];generalize st.getD d.toNat 0=v at *;generalize st.map D.int=sm at *;simp[aag,q,ix,hg]
 ·have e0:stq st (d,t)=st:=if_neg q;rw[e0];simp[aag,q]
theorem am7{n:Nat}(a b c e:Sl):∀(ps:List (Int×Int)) (st:List Int) (o1 o2:Sl),(∀p∈ps,p.1 < (n:Int))->st.length=n ->
  ∃q1 q2,forD (bTup 2 (gk (bu 5) (gk (bu 6) bNil))) aag (ps.map fun p=>.tup [.int p.1,.int p.2]) [a,b,.own none (st.map D.int),c,e,o1,o2]=some (.nx,[a,b,.own none ((ps.foldl stq st).map D.int),c,e,q1,q2])
 | [],st,o1,o2,_,_=>⟨o1,o2,rfl⟩
 | (d,t)::ps,st,o1,o2,hp,h1=>by
  have e0:=arp (n:=n) (d:=d) (t:=t) (hp (d,t) (aR ..)) h1 a b c e;have l1:(stq st (d,t)).length=n:=by
   have:=akz [(d,t)] st;rw[<-h1];exact this
  obtain⟨q1,q2,e2⟩:=am7 (n:=n) a b c e ps (stq st (d,t)) (.val (.int d)) (.val (.int t)) (fun p hp'=>hp p (aL _ hp')) l1
  refine⟨q1,q2,?_⟩;rw[fB,aU,vm];generalize stq st (d,t)=Z at *;generalize (ps.foldl stq Z).map D.int=F1 at *;generalize Z.map D.int=z1 at *;generalize st.map D.int=sm at *;simp[e0,e2]
theorem aos{qv:LL9}(h:Hs qv){as gs:List Int}:abr [.val (hD qv),.val (.tup (uAll qv as gs qv.length))]=some (.ok (.fr ((cmb qv as gs (aD qv.length 0) qv.length).map D.int)),[.val (hD qv),.val (.tup (uAll qv as gs qv.length))]):=by
 have hm:=h.most;have hul:∀j,(uAll qv as gs j).length=j:=fun j=>by simp[uAll]
 have loop:=yw (b:=bTup 2 (gk (bu 3) (gk (bu 4) bNil))) (g:=aee) (fun j ρ=>∃o3 o4 o5 o6,ρ=[.val (hD qv),.val (.tup (uAll qv as gs qv.length)),.own none ((cmb qv as gs (aD qv.length 0) j).map D.int),o3,o4,o5,o6])
  (l:=sr (hDs qv) (uAll qv as gs qv.length)) (ρ:=[.val (hD qv),.val (.tup (uAll qv as gs qv.length)),.own none ((aD qv.length (0:Int)).map D.int),.emp,.emp,.emp,.emp]) 0 ⟨.emp,.emp,.emp,.emp,rfl⟩ ?_
 ·obtain⟨ρ',e,o3,o4,o5,o6,rfl⟩:=loop;have hl:=mq qv;have hz:(sr (hDs qv) (uAll qv as gs qv.length)).length=qv.length:=by unfold sr;rw[fV,hl,hul];omega
  rw[hz,cT] at e;have hr:=ag5 qv.length;have hb1:qv.length < 9223372036854775808:=by omega
  have hb3:qv.length<=capS:=bj (by omega)
  have hle:qv.length<=(uAll qv as gs qv.length).length:=by rw[hul];exact aM _
  generalize (cmb qv as gs (aD qv.length 0) qv.length).map D.int=cc at *;generalize uAll qv as gs qv.length=uu at *;simp only[hD] at e ⊢
  simp[abr,aj3,hl,hb1,hb3,hr,hle,-lM,e]
 ·rintro j d ρ hd ⟨o3,o4,o5,o6,rfl⟩
  rw[cT];have hj:j < qv.length:=by
   rcases iR j qv.length with q | q
   ·exact q
   ·rw[bN (by unfold sr;rw[fV,mq];omega)] at hd
    cases hd
  have hrj:qv[j]? = some (qv.getD j []):=by rw[aG,aC hj];rfl
  have ed:d=.tup [.tup ((qv.getD j []).map D.int),.tup ((vd (qv.getD j []).length (as.getD j 0) (gs.getD j 0)).map D.int)]:=by
   unfold sr at hd;rw[iT] at hd;have e1:(hDs qv)[j]? = some (.tup ((qv.getD j []).map D.int)):=by unfold hDs;rw[aO,hrj];rfl
   have e2:(uAll qv as gs qv.length)[j]? = some (.tup ((vd (qv.getD j []).length (as.getD j 0) (gs.getD j 0)).map D.int)):=by unfold uAll;rw[aO,dJ hj];rfl
   rw[e1,e2] at hd;exact(bW hd).symm
  subst ed;have hb:∀p∈prs (qv.getD j []) (as.getD j 0) (gs.getD j 0),p.1 < (qv.length:Int):=fun p hp=>by
   obtain⟨k,hk,rfl⟩:=cW.mp hp;have hk:=dG.mp hk;obtain⟨_,_,w3⟩:=h.room _ (cC hrj);refine(w3 _ ?_).2;generalize qv.getD j []=r at *;show r.getD k 0∈r;rw[aG,aC hk];exact bT hk
  obtain⟨q5,q6,e⟩:=am7 (n:=qv.length) (.val (hD qv)) (.val (.tup (uAll qv as gs qv.length))) (.val (.tup ((qv.getD j []).map D.int))) (.val (.tup ((vd (qv.getD j []).length (as.getD j 0) (gs.getD j 0)).map D.int))) (prs (qv.getD j []) (as.getD j 0) (gs.getD j 0)) (cmb qv as gs (aD qv.length 0) j) o5 o6 hb (by rw[aa7,bY])
  rw[<-akr] at e;refine⟨[.val (hD qv),.val (.tup (uAll qv as gs qv.length)),.own none ((cmb qv as gs (aD qv.length 0) j).map D.int),.val (.tup ((qv.getD j []).map D.int)),.val (.tup ((vd (qv.getD j []).length (as.getD j 0) (gs.getD j 0)).map D.int)),o5,o6],[.val (hD qv),.val (.tup (uAll qv as gs qv.length)),.own none ((cmb qv as gs (aD qv.length 0) (j+1)).map D.int),.val (.tup ((qv.getD j []).map D.int)),.val (.tup ((vd (qv.getD j []).length (as.getD j 0) (gs.getD j 0)).map D.int)),q5,q6],rfl,.inl ?_,_,_,_,_,rfl⟩;have hle:((qv.getD j []).map D.int).length<=((vd (qv.getD j []).length (as.getD j 0) (gs.getD j 0)).map D.int).length:=by rw[aF,aF,ac7];exact aM _
  have ecm:cmb qv as gs (aD qv.length 0) (j+1)=(prs (qv.getD j []) (as.getD j 0) (gs.getD j 0)).foldl stq (cmb qv as gs (aD qv.length 0) j):=rfl;rw[ecm];generalize ((prs (qv.getD j []) (as.getD j 0) (gs.getD j 0)).foldl stq (cmb qv as gs (aD qv.length 0) j)).map D.int=c2 at *;generalize (cmb qv as gs (aD qv.length 0) j).map D.int=c1 at *;generalize uAll qv as gs qv.length=uu at *;generalize (vd (qv.getD j []).length (as.getD j 0) (gs.getD j 0)).map D.int=ul at *;generalize (qv.getD j []).map D.int=rl at *;generalize hD qv=hh at *;simp[aee,hle,e]
def wd(qv:LL9)(k:Int):Int:=((dr qv k).length:Int)
def aie(qv:LL9)(as:List Int)(k:Int):Int:=(dr qv k).getD ((ar as k - 1) % wd qv k).toNat 0
theorem ay6{r:List Int}{a:Int}(h0:0<=a)(h1:a < (r.length:Int)):atI (r.map D.int) (a - 1)=some (.int (r.getD ((a - 1) % (r.length:Int)).toNat 0)):=by
 by_cases z:1<=a
 ·rw[dR (by omega) (by omega)]
  exact qd (by omega) (by omega)
 ·have:a=0:=by omega
  subst this;have e:((0:Int) - 1) % (r.length:Int)=(r.length:Int) - 1:=by
   have:=lO ((0:Int) - 1) (r.length:Int);rw[<-this,dR (by omega) (by omega)]
   omega
  rw[e];have hn:((r.length:Int) - 1).toNat=r.length - 1:=by omega
  rw[hn];have hl:r.length - 1 < r.length:=by omega
  have h3:ixN (r.map D.int).length (0 - 1)=some (r.length - 1):=by
   unfold ixN;rw[aF];have a1:¬(0<=(0:Int) - 1):=by omega
   have a2 : -(r.length:Int)<=(0:Int) - 1:=by omega
   simp[a2];omega
  unfold atI;rw[h3];simp[aC hl]
def lasts(qv:LL9)(as:List Int):List Int:=(bG qv.length).map fun(i:Nat)=>aie qv as (i:Int)
theorem ajy(qv:LL9)(as:List Int):(lasts qv as).length=qv.length:=by unfold lasts;rw[aF,dD]
theorem aok(qv:LL9)(as:List Int)(j:Nat):((bG (j+1)).map fun(i:Nat)=>aie qv as (i:Int))=((bG j).map fun(i:Nat)=>aie qv as (i:Int))++[aie qv as (j:Int)]:=by
 rw[eY,cG];rfl
section
variable{qv:LL9}(h:Hs qv){as:List Int}(ha:Arr qv as)
include h ha
theorem ajz:xr [.val (hD qv),.val (.tup (as.map D.int))]=some (.ok (.v (.tup ((lasts qv as).map D.int))),[.val (hD qv),.val (.tup (as.map D.int))]):=by
 have hl:=ha.len;have hm:=h.most;have hle:(as.map D.int).length<=(hDs qv).length:=by rw[mq,aF];omega
 have comp:=t8 (b:=bTup 2 (gk (bu 0) (gk (bu 1) bNil))) (mc:=ret true) (me:=abu) (fun j ys ρ=>∃(o1 o2:Sl),ρ=[o1,o2]/\ys=((bG j).map fun(i:Nat)=>aie qv as (i:Int)).map D.int)
  (l:=sr (as.map D.int) (hDs qv)) (ys:=[]) (ρ:=[.emp,.emp]) 0 ⟨.emp,.emp,rfl,rfl⟩ ?_
 ·obtain⟨ys,ρ',e6,o1,o2,rfl,rfl⟩:=comp;rw[aiv hle,aF,cT,hl] at e6;have hc:((lasts qv as).map D.int).length<=capS:=by rw[aF,ajy];exact bj (by omega)
  have hle2:as.length<=(hDs qv).length:=by simpa using hle
  change compD _ _ _ _ _ _=some (.ok ((lasts qv as).map D.int),_) at e6
  generalize (lasts qv as).map D.int=ld at *;simp only[hD];simp[xr,agb,hle2,e6,hc]
 ·rintro j d ys ρ hd ⟨o1,o2,rfl,rfl⟩
  obtain⟨d1,d2,g1,g2,rfl⟩:=afh hd;obtain⟨r,hr,rfl⟩:=af8 g2;rw[aO] at g1;obtain⟨a,ea,rfl⟩:=bH.mp g1;obtain⟨b0,b1⟩:=ha.ok j a r ea hr;have er:dr qv (j:Int)=r:=by unfold dr;rw[aG,aX,hr];rfl
  have e3:ar as (j:Int)=a:=by unfold ar;rw[aG,aX,ea];rfl
  have e4:=ay6 b0 b1;have e5:aie qv as ((0+j:Nat):Int)=r.getD ((a - 1) % (r.length:Int)).toNat 0:=by rw[cT];unfold aie wd;rw[er,e3]
  refine⟨[.val (.int a),.val (.tup (r.map D.int))],_,true,by simp,rfl,.inr ⟨rfl,.int (r.getD ((a - 1) % (r.length:Int)).toNat 0),[.val (.int a),.val (.tup (r.map D.int))],by simp[abu,e4],_,_,rfl,?_⟩⟩
  rw[aok,cG,e5];rfl
end
theorem alf{qv:LL9}(h:Hs qv){vs:List Int}(hl:vs.length=qv.length)(h0:∀x∈vs,0<=x):tu [.val (hD qv),.val (.tup (vs.map D.int))]=some (.ok (.v (.bl true)),[.val (hD qv),.val (.tup (vs.map D.int))]):=by
 have hm:=h.most;have hl3:=mq qv;have e1:gf [.val (.tup (vs.map D.int)),.val (.int (qv.length:Int)),.val (.int (qv.length:Int))]=some (.ok (.v (.bl true)),[.val (.tup (vs.map D.int)),.val (.int (qv.length:Int)),.val (.int (qv.length:Int))]):=by
  have:(vs.length:Int)=qv.length:=by omega
  simp[gf,p8,isTy,this]
 have e2:compD (bu 0) (ret true) zb (vs.map D.int) [] [.emp]=some (.ok (vs.map fun _=>.bl true),abo .emp (vs.map D.int)::[]):=by
  rw[aap (f:=fun _=>.bl true)]
  ·simp
  ·intro d hd;obtain⟨w,hwm,rfl⟩:=cW.mp hd;have:=h0 w hwm;simp[zb,al5,this]
 have e3:uc (vs.map fun _=>D.bl true)=some (vs.map fun _=>true):=by
  have:=aas (vs.map fun _=>true)
  rwa[fD] at this
 have e4:(vs.map fun _=>true).all id=true:=by
  rw[tW,fP];intro x _;rfl
 have hc:vs.length<=capS:=bj (by omega)
 generalize hB:(vs.map fun _=>true)=bs at *
 have hc2:(vs.map fun _=>D.bl true).length<=capS:=by rw[aF];exact hc
 generalize (vs.map fun _=>D.bl true)=BB at *
 generalize vs.map D.int=ww at *;simp only[hD] at *;simp[tu,adu,hl3,e1,e2,e3,e4,hc2]
def afj(qv:LL9)(as vs:List Int)(j:Nat):List Int:=(bG j).map fun i=>(as.getD i 0+vs.getD i 0) % ((qv.getD i []).length:Int)
theorem ai1{qv:LL9}(h:Hs qv){as vs:List Int}(hal:as.length=qv.length)(hl:vs.length=qv.length):xq [.val (hD qv),.val (.tup (as.map D.int)),.val (.tup (vs.map D.int))]=some (.ok (.v (.tup ((afj qv as vs qv.length).map D.int))),[.val (hD qv),.val (.tup (as.map D.int)),.val (.tup (vs.map D.int))]):=by
 have hm:=h.most;have hdl:=mq qv;have comp:=t8 (b:=bTup 3 (gk (bu 0) (gk (bu 1) (gk (bu 2) bNil)))) (mc:=ret true) (me:=abt) (fun j ys ρ=>∃(o1 o2 o3:Sl),ρ=[o1,o2,o3]/\ys=(afj qv as vs j).map D.int)
  (l:=acv (as.map D.int) (vs.map D.int) (hDs qv)) (ys:=[]) (ρ:=[.emp,.emp,.emp]) 0 ⟨.emp,.emp,.emp,rfl,rfl⟩ ?_
 ·obtain⟨ys,ρ',e,o1,o2,o3,rfl,rfl⟩:=comp;have hle:(as.map D.int).length<=(vs.map D.int).length/\(as.map D.int).length<=(hDs qv).length:=by rw[aF,aF,hdl];omega
  rw[afg hle,aF,hal,cT] at e;have hc:((afj qv as vs qv.length).map D.int).length<=capS:=by rw[aF];unfold afj;rw[aF,dD];exact bj (by omega)
  generalize (afj qv as vs qv.length).map D.int=tt at *;generalize as.map D.int=la at *;generalize vs.map D.int=lv at *;simp only[hD] at *;simp[xq,af9,hle.1,hle.2,e,hc]
 ·rintro j d ys ρ hd ⟨o1,o2,o3,rfl,rfl⟩
  obtain⟨d1,d2,d3,g1,g2,g3,rfl⟩:=ac6 hd;obtain⟨r,hr,rfl⟩:=af8 g3;rw[aO] at g1 g2;obtain⟨a,ea,rfl⟩:=bH.mp g1;obtain⟨b,eb,rfl⟩:=bH.mp g2;obtain⟨k1,k2,_⟩:=h.room r (cC hr);rw[cT];have x1:qv.getD j []=r:=by simp[hr]
  have x2:as.getD j 0=a:=by simp[ea]
  have x3:vs.getD j 0=b:=by simp[eb]
  have es:afj qv as vs (j+1)=afj qv as vs j++[(a+b) % (r.length:Int)]:=by
   unfold afj;rw[eY,cG,<-x1,<-x2,<-x3];rfl
  have f1:fMod (a+b) (r.length:Int)=some ((a+b) % (r.length:Int)):=by
   have hn':(0:Int) < (r.length:Int):=by omega
   unfold fMod;rw[if_pos hn']
  refine⟨[.val (.int a),.val (.int b),.val (.tup (r.map D.int))],_,true,rfl,rfl,.inr ⟨rfl,.int ((a+b) % (r.length:Int)),[.val (.int a),.val (.int b),.val (.tup (r.map D.int))],by simp[abt,f1],_,_,_,rfl,?_⟩⟩
  rw[es,cG];rfl
theorem v7{vs:List Int}{n:Nat}(x0:0<=x)(x1:x < (n:Int)):(rowW vs n).count x=(vs.getD x.toNat 0).toNat:=by
 have:=ad9 vs n x.toNat;rw[if_pos (by omega),show((x.toNat:Nat):Int)=x by omega] at this
 exact this
section
variable{qv:LL9}(h:Hs qv){as:List Int}(ha:Arr qv as){vs:List Int}(hl:vs.length=qv.length)(hv:∀x∈vs,0<=x)
include h ha hl hv
omit h ha in
theorem akt{i:Nat}(hi:i < qv.length):0<=vs.getD i 0:=by
 have hk:i < vs.length:=by omega
 rw[aG,aC hk];exact hv _ (bT hk)
theorem awb:afj qv as vs qv.length=go qv as (rowW vs qv.length):=by
 have hin:=aav vs qv.length;have hg:=yt h _ ha hin;apply fW;intro i
 by_cases hi:i < qv.length
 ·have hlt:i < (go qv as (rowW vs qv.length)).length:=by rw[hg.len];exact hi
  have e:=ait h (y:=(i:Int)) (by omega) (by omega) (rowW vs qv.length) ha hin
  rw[v7 (by omega) (by omega),aX,show(((vs.getD i 0).toNat:Nat):Int)=vs.getD i 0 by have:=akt hl hv hi;omega] at e
  unfold ar dr at e;rw[aX,aG,aC hlt] at e;rw[aC hlt];unfold afj;rw[aO,dJ hi];exact congrArg some e.symm
 ·rw[bN (by unfold afj;rw[aF,dD];omega),bN (by rw[hg.len];omega)]
theorem arq{i:Nat}(hi:i < qv.length):(cmb qv as vs (aD qv.length 0) qv.length).getD i 0=(arv qv (i:Int) as (rowW vs qv.length):Int):=by
 rw[am8 h ha hv hl (by rw[bY]) hi _ (aM _),aat h (i:Int) _ ha (aav vs qv.length)]
 have e0:(aD qv.length (0:Int)).getD i 0=0:=by rw[aG,eH,if_pos hi];rfl
 rw[e0,Int.zero_add]
 congr 1
 unfold upto;rw[fD]
 congr 1
 apply jH;intro y hy;have hy:=dG.mp hy;show _=us qv as ((y:Nat):Int) (i:Int) ((rowW vs qv.length).count ((y:Nat):Int));rw[v7 (by omega) (by omega),aX]
theorem ams{x:Int}(x0:0<=x)(x1:x < (qv.length:Int)):(lasts qv (go qv as (rowW vs qv.length))).getD x.toNat 0=ldo qv as x ((rowW vs qv.length).count x):=by
 have hin:=aav vs qv.length;have hk:x.toNat < qv.length:=by omega
 unfold lasts;rw[aG,aO,dJ hk];show aie qv (go qv as (rowW vs qv.length)) ((x.toNat:Nat):Int)=_;rw[show((x.toNat:Nat):Int)=x by omega]
 unfold aie ldo wd;rw[ait h x0 x1 _ ha hin]
 congr 2
 rw[show ar as x+(((rowW vs qv.length).count x:Int) - 1)=ar as x+((rowW vs qv.length).count x:Int) - 1 by omega]
 exact Int.emod_sub_emod _ _ _
end
theorem alk{qv:LL9}(h:Hs qv){as:List Int}(ha:Arr qv as){ws vs:List Int}(hl:vs.length=qv.length)(hv:∀x∈vs,0<=x){S:List Int}(lS:Lg qv as (wf ws) S)(sS:Stb qv as (wf ws) S)
  {R:List Int} (r1:∀Q:Int->Prop,(∀x,Q x->x∈(upto qv.length).filter (fun x=>decide (0 < vs.getD x.toNat 0))/\Q ((lasts qv (go qv as (rowW vs qv.length))).getD x.toNat 0))->∀x,Q x->x∈R)
  (r2:∀x∈R,x∈(upto qv.length).filter (fun x=>decide (0 < vs.getD x.toNat 0))/\(lasts qv (go qv as (rowW vs qv.length))).getD x.toNat 0∈R) :
  (Stb qv as (wf ws) (rowW vs qv.length)/\R=[])↔vs=tal qv.length S:=by
 have hin:=aav vs qv.length;constructor
 ·rintro⟨st,rfl⟩
  obtain⟨le,more⟩:=aof h ha lS sS hin st;have same:∀x,S.count x=(rowW vs qv.length).count x:=fun x=>cN fun q=>by
   have hx:S.count x < (rowW vs qv.length).count x:=by have:=le x;omega
   have:=r1 (fun x=>S.count x < (rowW vs qv.length).count x) (fun y hy=>by
    have hyr:0<=y/\y < (qv.length:Int):=cN fun q=>by
     rw[InR.count hin q] at hy;omega
    refine⟨List.mem_filter.mpr ⟨yo hyr.1 hyr.2,decide_eq_true ?_⟩,?_⟩
    ·rw[v7 hyr.1 hyr.2] at hy;omega
    ·rw[ams h ha hl hv hyr.1 hyr.2];exact(more y hy).2) x hx
   cases this
  apply fW;intro i
  by_cases hi:i < qv.length
  ·have e:=same (i:Int);rw[v7 (by omega) (by omega),aX] at e
   have hk:i < vs.length:=by omega
   have h0:=akt hl hv hi;rw[afk S hi,e];rw[aG,aC hk] at h0 ⊢
   have h0:0<=vs[i]:=h0;have e9:vs[i]=((vs[i].toNat:Nat):Int):=by omega
   exact congrArg some e9
  ·rw[bN (by omega),bN (by rw[su];omega)]
 ·intro e;have same:∀x,(rowW vs qv.length).count x=S.count x:=fun x=>by
   by_cases q:0<=x/\x < (qv.length:Int)
   ·rw[v7 q.1 q.2,e,aG,afk S (by omega)]
    show((S.count ((x.toNat:Nat):Int):Nat):Int).toNat=_;rw[show((x.toNat:Nat):Int)=x by omega]
    omega
   ·rw[InR.count hin q,lS.inR.count q]
  have st:Stb qv as (wf ws) (rowW vs qv.length):=fun x x0 x1=>by
   rw[same x,sS x x0 x1,aat h x S ha lS.inR,aat h x _ ha hin]
   congr 1
   exact u6 _ _ _ fun y _=>by rw[same y]
  refine⟨st,?_⟩;cases R with
  | nil=>rfl
  | cons y R =>
   exfalso;refine ano h ha lS sS (fun x=>x∈y::R) (fun x hx =>?_) y (aR ..)
   obtain⟨a,b⟩:=r2 x hx;obtain⟨a1,a2⟩:=cM.mp a;have hxr:=jx a1;rw[ams h ha hl hv hxr.1 hxr.2,same x] at b;refine⟨hxr.1,hxr.2,?_,b⟩;have:=of_decide_eq_true a2;rw[<-same x,v7 hxr.1 hxr.2];omega
def eqB(ws cs vs:List Int)(j:Nat):List Bool:=(bG j).map fun i=>decide (ws.getD i 0+cs.getD i 0=vs.getD i 0)
theorem ayq{ws cs vs:List Int}{n:Nat}(h1:ws.length=n)(h2:cs.length=n)(h3:vs.length=n):∃ρ,compD (bTup 3 (gk (bu 0) (gk (bu 1) (gk (bu 2) bNil)))) (ret true) acg (acv (ws.map D.int) (cs.map D.int) (vs.map D.int)) [] [.emp,.emp,.emp]=some (.ok ((eqB ws cs vs n).map D.bl),ρ):=by
 have comp:=t8 (b:=bTup 3 (gk (bu 0) (gk (bu 1) (gk (bu 2) bNil)))) (mc:=ret true) (me:=acg) (fun j ys ρ=>∃(o1 o2 o3:Sl),ρ=[o1,o2,o3]/\ys=(eqB ws cs vs j).map D.bl)
  (l:=acv (ws.map D.int) (cs.map D.int) (vs.map D.int)) (ys:=[]) (ρ:=[.emp,.emp,.emp]) 0 ⟨.emp,.emp,.emp,rfl,rfl⟩ ?_
 ·obtain⟨ys,ρ',e,o1,o2,o3,rfl,rfl⟩:=comp;have hle:(ws.map D.int).length<=(cs.map D.int).length/\(ws.map D.int).length<=(vs.map D.int).length:=by rw[aF,aF,aF];omega
  rw[afg hle,aF,h1,cT] at e;exact⟨_,e⟩
 ·rintro j d ys ρ hd ⟨o1,o2,o3,rfl,rfl⟩
  obtain⟨d1,d2,d3,g1,g2,g3,rfl⟩:=ac6 hd;rw[aO] at g1 g2 g3;obtain⟨a,ea,rfl⟩:=bH.mp g1;obtain⟨b,eb,rfl⟩:=bH.mp g2;obtain⟨c,ec,rfl⟩:=bH.mp g3;rw[cT];have x1:ws.getD j 0=a:=by simp[ea]
  have x2:cs.getD j 0=b:=by simp[eb]
  have x3:vs.getD j 0=c:=by simp[ec]
  have es:eqB ws cs vs (j+1)=eqB ws cs vs j++[decide (a+b=c)]:=by
   unfold eqB;rw[eY,cG,<-x1,<-x2,<-x3];rfl
  refine⟨[.val (.int a),.val (.int b),.val (.int c)],_,true,rfl,rfl,.inr ⟨rfl,.bl (decide (a+b=c)),[.val (.int a),.val (.int b),.val (.int c)],by simp[acg];rfl,_,_,_,rfl,?_⟩⟩
  rw[es,cG];rfl
def posL(vs:List Int)(n:Nat):List Int:=(upto n).filter fun x=>decide (0 < vs.getD x.toNat 0)
theorem atj{vs:List Int}{n:Nat}(h3:vs.length=n):∃ρ,compD (bTup 2 (gk (bu 0) (gk (bu 1) bNil))) aar acf (agl (vs.map D.int)) [] [.emp,.emp]=some (.ok ((posL vs n).map D.int),ρ):=by
 have comp:=t8 (b:=bTup 2 (gk (bu 0) (gk (bu 1) bNil))) (mc:=aar) (me:=acf) (fun j ys ρ=>∃(o1 o2:Sl),ρ=[o1,o2]/\ys=(posL vs j).map D.int)
  (l:=agl (vs.map D.int)) (ys:=[]) (ρ:=[.emp,.emp]) 0 ⟨.emp,.emp,rfl,rfl⟩ ?_
 ·obtain⟨ys,ρ',e,o1,o2,rfl,rfl⟩:=comp;rw[ady,aF,h3,cT] at e;exact⟨_,e⟩
 ·rintro j d ys ρ hd ⟨o1,o2,rfl,rfl⟩
  obtain⟨d0,g,rfl⟩:=agk hd;rw[aO] at g;obtain⟨a,ea,rfl⟩:=bH.mp g;rw[cT];have x1:vs.getD j 0=a:=by simp[ea]
  have es:posL vs (j+1)=posL vs j++if 0 < a then [(j:Int)] else []:=by
   unfold posL upto;rw[eY,cG,List.filter_append]
   congr 1
   show List.filter _ [((j:Nat):Int)]=_;rw[qF,aX,x1]
   by_cases q:0 < a <;> simp[q]
  by_cases q:0 < a
  ·refine⟨[.val (.int (j:Int)),.val (.int a)],_,true,rfl,by simp[aar,q];rfl,.inr ⟨rfl,.int (j:Int),[.val (.int (j:Int)),.val (.int a)],by simp[acf],_,_,rfl,?_⟩⟩
   rw[es,if_pos q,cG];rfl
  ·refine⟨[.val (.int (j:Int)),.val (.int a)],[.val (.int (j:Int)),.val (.int a)],false,rfl,by simp[aar,q],.inl ⟨rfl,_,_,rfl,?_⟩⟩
   rw[es,if_neg q,cZ]
theorem ayr{qv:LL9}(h:Hs qv){as:List Int}(ha:Arr qv as){ws vs:List Int}(hwl:ws.length=qv.length)(hw0:∀w∈ws,0<=w)(hl:vs.length=qv.length)(hv:∀x∈vs,0<=x):(eqB ws (cmb qv as vs (aD qv.length 0) qv.length) vs qv.length).all id=true↔Stb qv as (wf ws) (rowW vs qv.length):=by
 unfold eqB;rw[tW,fP];have key:∀i:Nat,i < qv.length->(ws.getD i 0+(cmb qv as vs (aD qv.length 0) qv.length).getD i 0=vs.getD i 0↔(rowW vs qv.length).count (i:Int)=wf ws (i:Int)+arv qv (i:Int) as (rowW vs qv.length)):=fun i hi=>by
  rw[arq h ha hl hv hi,v7 (by omega) (by omega),aX]
  unfold wf;rw[aX];have a:=akt hwl hw0 hi;have b:=akt hl hv hi;omega
 constructor
 ·intro q x x0 x1;have:=q x.toNat (dG.mpr (by omega))
  have:=(key x.toNat (by omega)).mp (of_decide_eq_true this)
  rw[show((x.toNat:Nat):Int)=x by omega] at this
  exact this
 ·intro st i hi;have hi:=dG.mp hi;exact decide_eq_true ((key i hi).mpr (st (i:Int) (by omega) (by omega)))
theorem aol{qv:LL9}(h:Hs qv){as:List Int}(ha:Arr qv as){ws vs:List Int}(hop:aau qv=[])(hW:Wk qv.length ws)(hl:vs.length=qv.length)(hv:∀x∈vs,0<=x){S:List Int}(lS:Lg qv as (wf ws) S)(sS:Stb qv as (wf ws) S) :
  aan [.val (hD qv),.val (.tup (as.map D.int)),.val (.tup (ws.map D.int)),.val (.tup (vs.map D.int))]=some (.ok (.v (.bl (decide (vs=tal qv.length S)))),[.val (hD qv),.val (.tup (as.map D.int)),.val (.tup (ws.map D.int)),.val (.tup (vs.map D.int))]):=by
 have hm:=h.most;have s0:=ain h ha hW;have q:=apc h;rw[hop] at q;have e3:gEq true (.tup []) (.tup [])=some (.v (.bl false)):=aa1 true [] [];have s1:jc [.val (hD qv)]=some (.ok (.v .non),[.val (hD qv)]):=by simp[jc,uv,q,e3]
 have s2:=alf h hl hv;have s3:=afi h ha.len hl;have s4:=aos (as:=as) (gs:=vs) h;obtain⟨ρ1,s5⟩:=ayq (ws:=ws) (cs:=cmb qv as vs (aD qv.length 0) qv.length) (vs:=vs) hW.len (by rw[aa7,bY]) hl
 have s6:=ai1 h ha.len hl;rw[awb h ha hl hv] at s6;have hg:=yt h _ ha (aav vs qv.length);have s7:=ajz h hg;obtain⟨ρ2,s8⟩:=atj (n:=qv.length) hl;obtain⟨R,s9,r1,r2⟩:=aqs (L:=lasts qv (go qv as (rowW vs qv.length))) (S0:=posL vs qv.length) (fun x hx=>by
  rw[ajy];exact jx (cM.mp hx).1) (cF (fG _ _) (by unfold upto;rw[aF,dD];omega))
 have iff:=alk h ha hl hv lS sS r1 r2;have al:=ayr h ha hW.len (fun w hw'=>(hW.ok w hw').1) hl hv
 have s10:uc ((eqB ws (cmb qv as vs (aD qv.length 0) qv.length) vs qv.length).map D.bl)=some (eqB ws (cmb qv as vs (aD qv.length 0) qv.length) vs qv.length):=aas _;have s11:gEq false (.lst (R.map D.int)) (.lst [])=some (.v (.bl (decide (R=[])))):=by
  have h1:okD 30 (.lst (R.map D.int))=true:=aew 29 R;have h2:okD 30 (.lst [])=true:=rfl;have h3:eqD (.lst (R.map D.int)) (.lst [])=decide (R=[]):=by
   cases R with
   | nil=>rfl
   | cons y R=>rfl
  unfold gEq;rw[h1,h2,h3];simp
 have c1:((eqB ws (cmb qv as vs (aD qv.length 0) qv.length) vs qv.length).map D.bl).length<=capS:=by rw[aF];unfold eqB;rw[aF,dD];exact bj (by omega)
 have c2:((posL vs qv.length).map D.int).length<=capS:=by rw[aF];exact bj (cF (fG _ _) (by unfold upto;rw[aF,dD];omega))
 have l1:(ws.map D.int).length<=((cmb qv as vs (aD qv.length 0) qv.length).map D.int).length:=by rw[aF,aF,aa7,bY,hW.len];exact aM _
 have l2:(ws.map D.int).length<=(vs.map D.int).length:=by rw[aF,aF,hW.len,hl];exact aM _
 generalize uAll qv as vs qv.length=uu at *;generalize (cmb qv as vs (aD qv.length 0) qv.length).map D.int=cm at *;generalize (posL vs qv.length).map D.int=pp at *;generalize (lasts qv (go qv as (rowW vs qv.length))).map D.int=ll at *;generalize (go qv as (rowW vs qv.length)).map D.int=gg at *;generalize (eqB ws (cmb qv as vs (aD qv.length 0) qv.length) vs qv.length).map D.bl=EB at *;generalize eqB ws (cmb qv as vs (aD qv.length 0) qv.length) vs qv.length=eb at *;generalize R.map D.int=RR at *;generalize as.map D.int=la at *;generalize ws.map D.int=lw at *;generalize hb1:eb.all id=b1 at *;have hb:decide (vs=tal qv.length S)=(b1&&decide (R=[])):=by
  rw[Bool.eq_iff_iff,bF,decide_eq_true_iff,decide_eq_true_iff,al];exact iff.symm
 rw[hb];generalize decide (R=[])=b2 at *;generalize vs.map D.int=lv at *;generalize hD qv=hh at *;cases b1 with
 | false=>simp[aan,agc,s0,s1,s2,s3,s4,l1,l2,s5,s10,c1,hb1]
 | true=>simp[aan,agc,s0,s1,s2,s3,s4,l1,l2,s5,s10,c1,hb1,s6,s7,s8,c2,s9,s11]
theorem ayy{qv:LL9}(h:Hs qv){as:List Int}(ha:Arr qv as){ws vs:List Int}(hwl:ws.length=qv.length)(hw0:∀w∈ws,0<=w)(hl:vs.length=qv.length)(hv:∀x∈vs,0<=x):cmb qv as vs ws qv.length=vs↔Stb qv as (wf ws) (rowW vs qv.length):=by
 have key:∀i:Nat,i < qv.length->((cmb qv as vs ws qv.length).getD i 0=vs.getD i 0↔(rowW vs qv.length).count (i:Int)=wf ws (i:Int)+arv qv (i:Int) as (rowW vs qv.length)):=fun i hi=>by
  have e1:=am8 h ha hv hl hwl hi qv.length (aM _);have e2:=am8 h ha hv hl (st:=aD qv.length 0) (by rw[bY]) hi qv.length (aM _)
  have e0:(aD qv.length (0:Int)).getD i 0=0:=by rw[aG,eH,if_pos hi];rfl
  rw[arq h ha hl hv hi,e0] at e2;rw[v7 (by omega) (by omega),aX]
  unfold wf;rw[aX];have a:=akt hwl hw0 hi;have b:=akt hl hv hi;omega
 constructor
 ·intro q x x0 x1;have:=(key x.toNat (by omega)).mp (by rw[q])
  rw[show((x.toNat:Nat):Int)=x by omega] at this
  exact this
 ·intro st;exact ace (by rw[aa7];omega) fun i hi=>by
   rw[aa7] at hi;exact(key i (by omega)).mpr (st (i:Int) (by omega) (by omega))
def fr11(h A W R o5 o6:Sl)(d:D)(l1 l2 l3 l4:List D):Ro:=[h,A,W,R,.box "Crowd" (fsC d),o5,o6,.own (some 1000) l1,.own (some 1001) l2,.own (some 1002) l3,.own (some 1003) l4]
theorem aty{h A W R o:Sl}{d:D}{x m:Int}{l1 l2 l3 l4 r1 r2 r3 r4:List D}{ms:M (List (Option D))}(hm:ms (fr11 h A W R o (.val (.int x)) d l1 l2 l3 l4)=some (.ok [none,some (.int m)],fr11 h A W R o (.val (.int x)) d l1 l2 l3 l4))
  (e:cz [.box "Crowd" (fsM d),.val (.int x),.val (.int m),.own (some 3) l1,.own (some 4) l2,.own (some 5) l3,.own (some 6) l4]=some (.ok (.v .non),[.box "Crowd" (fsM d),.val (.int x),.val (.int m),.own (some 3) r1,.own (some 4) r2,.own (some 5) r3,.own (some 6) r4])) :
  afz "Crowd" 4 "let_leave" ["turning","standing","gone","left"] ["house"] [7,8,9,10] cz [some 6,none] ms (fr11 h A W R o (.val (.int x)) d l1 l2 l3 l4)=some (.ok (.v .non),fr11 h A W R o (.val (.int x)) d r1 r2 r3 r4):=by
 have e0:mIsB "Crowd" 4 "let_leave" (fr11 h A W R o (.val (.int x)) d l1 l2 l3 l4)=some (.ok (fsC d),fr11 h A W R o (.val (.int x)) d l1 l2 l3 l4):=rfl;unfold afz M.bind;rw[e0];dsimp only;rw[hm];dsimp only;rw[e0];dsimp only;rw[if_pos ⟨rfl,rfl,rfl⟩];show(match cz [.box "Crowd" (fsM d),.val (.int x),.val (.int m),.own (some 3) l1,.own (some 4) l2,.own (some 5) l3,.own (some 6) l4] with
  | some (Out.ok r,ps)=>some (Out.ok r,putB (fr11 h A W R o (.val (.int x)) d l1 l2 l3 l4) [none,some 6,none,some 7,some 8,some 9,some 10] ps)
  | _=>none)=_
 rw[e];rfl
theorem a1c(h A W R o p:Sl)(d:D)(l1 l2 l3 l4:List D):mLnk "Crowd" 4 "standing" 8 (fr11 h A W R o p d l1 l2 l3 l4)=some (.ok (),fr11 h A W R o p d l1 l2 l3 l4):=by rfl
theorem a6p(h A W R o p:Sl)(d:D)(l1 l2 l3 l4:List D):mLnk "Crowd" 4 "turning" 7 (fr11 h A W R o p d l1 l2 l3 l4)=some (.ok (),fr11 h A W R o p d l1 l2 l3 l4):=by rfl
theorem a6q(h A W R o p:Sl)(d:D)(l1 l2 l3 l4:List D):mLnk "Crowd" 4 "gone" 9 (fr11 h A W R o p d l1 l2 l3 l4)=some (.ok (),fr11 h A W R o p d l1 l2 l3 l4):=by rfl
theorem a7r(h A W R o p:Sl)(d:D)(l1 l2 l3 l4:List D):(fr11 h A W R o p d l1 l2 l3 l4:List Sl)[3]? = some R:=rfl
theorem a7q(h A W R o p:Sl)(d:D)(l1 l2 l3 l4:List D):(fr11 h A W R o p d l1 l2 l3 l4:List Sl)[6]? = some p:=rfl
theorem a7p(h A W R o p:Sl)(d:D)(l1 l2 l3 l4:List D):(fr11 h A W R o p d l1 l2 l3 l4:List Sl)[7]? = some (.own (some 1000) l1):=rfl
theorem a7o(h A W R o p:Sl)(d:D)(l1 l2 l3 l4:List D):(fr11 h A W R o p d l1 l2 l3 l4:List Sl)[8]? = some (.own (some 1001) l2):=rfl
theorem a7n(h A W R o p:Sl)(d:D)(l1 l2 l3 l4:List D):(fr11 h A W R o p d l1 l2 l3 l4:List Sl)[9]? = some (.own (some 1002) l3):=rfl
section
variable{qv:LL9}(h:Hs qv){as:List Int}(ha:Arr qv as){ws:List Int}
include h ha
theorem aqi{s:List Int}(hs:InR qv s){x:Int}(x0:0<=x)(x1:x < (qv.length:Int))(hx:s.count x < wf ws x+arv qv x as s)(A W R o:Sl) :
  wu (fr11 (.val (hD qv)) A W R o (.val (.int x)) (hD qv) ((go qv as s).map D.int) ((stn qv as ws s).map D.int) ((gts qv as s).map D.int) ((tal qv.length s).map D.int)) =
  some (.nx,fr11 (.val (hD qv)) A W R o (.val (.int x)) (hD qv) ((go qv as (s++[x])).map D.int) ((stn qv as ws (s++[x])).map D.int) ((gts qv as (s++[x])).map D.int) ((tal qv.length (s++[x])).map D.int)):=by
 have e1:=qd (ns:=stn qv as ws s) x0 (by rw[gw];exact x1)
 have eL:_=_:=aex (ws:=ws) h ha hs x0 x1 1;have eL:cz [.box "Crowd" (fsM (hD qv)),.val (.int x),.val (.int 1),.own (some 3) ((go qv as s).map D.int),.own (some 4) ((stn qv as ws s).map D.int),.own (some 5) ((gts qv as s).map D.int),.own (some 6) ((tal qv.length s).map D.int)] =
  some (.ok (.v .non),[.box "Crowd" (fsM (hD qv)),.val (.int x),.val (.int 1),.own (some 3) ((go qv as (s++[x])).map D.int),.own (some 4) ((stn qv as ws (s++[x])).map D.int),.own (some 5) ((gts qv as (s++[x])).map D.int),.own (some 6) ((tal qv.length (s++[x])).map D.int)]):=eL
 have q:(stn qv as ws s).getD x.toNat 0≠0:=by
  rw[ud as ws s x0 x1];omega
 have eM:=aty (h:=.val (hD qv)) (A:=A) (W:=W) (R:=R) (o:=o) (ms:=bw 6 (bf (ret (.int 1)) gr)) (by simp[a7q]) eL
 have er:=aeh qv (.int x);have hin:ad1 0 ((qv.length:Int) - 1) (.int x)=true:=by
  show(decide (0<=x)&&decide (x<=(qv.length:Int) - 1))=true;rw[decide_eq_true x0,decide_eq_true (by omega)]
  rfl
 rw[hin] at er;generalize s++[x]=s2 at *;generalize (stn qv as ws s).getD x.toNat 0=v at *;generalize (stn qv as ws s).map D.int=sm at *;generalize (go qv as s).map D.int=am at *;generalize (gts qv as s).map D.int=gm at *;generalize (tal qv.length s).map D.int=tm at *;generalize (stn qv as ws s2).map D.int=sm2 at *;generalize (go qv as s2).map D.int=am2 at *;generalize (gts qv as s2).map D.int=gm2 at *;generalize (tal qv.length s2).map D.int=tm2 at *;generalize hD qv=hh at *;have l8:=a1c (.val hh) A W R o (.val (.int x)) hh am sm gm tm;simp only[fr11] at eM l8 ⊢
 simp[wu,er,l8,e1,q,eM]
theorem ahg{S:List Int}(hl:Lg qv as (wf ws) S)(hW:Wk qv.length ws):aam [.val (hD qv),.val (.tup (as.map D.int)),.val (.tup (ws.map D.int)),.val (.lst (S.map D.int))]=some (.ok (.v (.tup [.tup ((go qv as S).map D.int),.tup ((stn qv as ws S).map D.int),.tup ((gts qv as S).map D.int)])),[.val (hD qv),.val (.tup (as.map D.int)),.val (.tup (ws.map D.int)),.val (.lst (S.map D.int))]):=by
 have loop:=yw (b:=bTup 2 (gk (bu 5) (gk (bu 6) bNil))) (g:=wu) (fun t ρ=>∃o5 o6,tagB o5=true/\tagB o6=true/\ρ=fr11 (.val (hD qv)) (.val (.tup (as.map D.int))) (.val (.tup (ws.map D.int))) (.val (.lst (S.map D.int))) o5 o6 (hD qv) ((go qv as (S.take t)).map D.int) ((stn qv as ws (S.take t)).map D.int) ((gts qv as (S.take t)).map D.int) ((tal qv.length (S.take t)).map D.int))
  (l:=agl (S.map D.int)) (ρ:=fr11 (.val (hD qv)) (.val (.tup (as.map D.int))) (.val (.tup (ws.map D.int))) (.val (.lst (S.map D.int))) .emp .emp (hD qv) (as.map D.int) (ws.map D.int) [.int 0,.int 0,.int 0] ((aD qv.length (0:Int)).map D.int)) 0 ⟨.emp,.emp,rfl,rfl,by rw[List.take_zero,ak0 hW.len fun w hw'=>(hW.ok w hw').1,ape];rfl⟩ ?_
 ·obtain⟨ρ',e,o5,o6,t5,t6,rfl⟩:=loop;rw[ady,aF,cT,kO] at e;have hm:=h.most;have h1:=h.one;have hal:=ha.len;have hwl:=hW.len;have c1:(as.map D.int).length<=capS:=by rw[aF];exact bj (by omega)
  have c2:(ws.map D.int).length<=capS:=by rw[aF];exact bj (by omega)
  have c4:((gts qv as S).map D.int).length<=capS:=bj (show 3<=1000 by decide)
  have c5:((stn qv as ws S).map D.int).length<=capS:=by rw[aF,gw];exact bj (by omega)
  have c6:((go qv as S).map D.int).length<=capS:=by rw[aF,(yt h S ha hl.inR).len];exact bj (by omega)
  have z:=avq (hD qv) (hh:=hDs qv) (n:=qv.length) rfl (mq qv) c1 c2 (by omega)
  have s0:=ain h ha hW;generalize (aD qv.length (0:Int)).map D.int=zz at *;generalize (tal qv.length S).map D.int=tm at *;generalize (stn qv as ws S).map D.int=sm at *;generalize (gts qv as S).map D.int=gm at *;generalize (go qv as S).map D.int=am at *;generalize as.map D.int=la at *;generalize ws.map D.int=lw at *;generalize S.map D.int=lS at *;generalize hD qv=hh at *;have eK:(dSeq (dFor (mGet aoq (bh (mVar 3) mNil)) (bTup 2 (gk (bu 5) (gk (bu 6) bNil))) wu) (dRet (M.v (mTup (bh (M.d (dz (g1 gT9) ((mLnk "Crowd" 4 "turning" 7).bind fun _=>dg 7 mNil))) (bh (M.d (dz (g1 gT9) ((mLnk "Crowd" 4 "standing" 8).bind fun _=>dg 8 mNil))) (bh (M.d (dz (g1 gT9) ((mLnk "Crowd" 4 "gone" 9).bind fun _=>dg 9 mNil))) mNil))))))) (fr11 (.val hh) (.val (.tup la)) (.val (.tup lw)) (.val (.lst lS)) .emp .emp hh la lw [.int 0,.int 0,.int 0] zz)=some (.ret (.v (.tup [.tup am,.tup sm,.tup gm])),fr11 (.val hh) (.val (.tup la)) (.val (.tup lw)) (.val (.lst lS)) o5 o6 hh am sm gm tm):=by
   simp[a7r,e,a6q,a6p,a1c,a7p,a7o,a7n,c4,c5,c6]
  have eN:dNew "Crowd" 4 [7,8,9,10] 4 4 aa0 [some 0,some 1,some 2] (bw 0 (bw 1 (bw 2 gr))) (dSeq (dFor (mGet aoq (bh (mVar 3) mNil)) (bTup 2 (gk (bu 5) (gk (bu 6) bNil))) wu) (dRet (M.v (mTup (bh (M.d (dz (g1 gT9) ((mLnk "Crowd" 4 "turning" 7).bind fun _=>dg 7 mNil))) (bh (M.d (dz (g1 gT9) ((mLnk "Crowd" 4 "standing" 8).bind fun _=>dg 8 mNil))) (bh (M.d (dz (g1 gT9) ((mLnk "Crowd" 4 "gone" 9).bind fun _=>dg 9 mNil))) mNil))))))) [.val hh,.val (.tup la),.val (.tup lw),.val (.lst lS),.emp,.emp,.emp,.emp,.emp,.emp,.emp]=some (.ret (.v (.tup [.tup am,.tup sm,.tup gm])),[.val hh,.val (.tup la),.val (.tup lw),.val (.lst lS),.emp,o5,o6,.emp,.emp,.emp,.emp]):=by
   unfold dNew dM;have em:bw 0 (bw 1 (bw 2 gr)) [Sl.val hh,.val (.tup la),.val (.tup lw),.val (.lst lS),.emp,.emp,.emp,.emp,.emp,.emp,.emp]=some (.ok [none,none,none],[.val hh,.val (.tup la),.val (.tup lw),.val (.lst lS),.emp,.emp,.emp,.emp,.emp,.emp,.emp]):=by rfl
   rw[em];dsimp only;rw[if_pos (show okJs [Sl.val hh,.val (.tup la),.val (.tup lw),.val (.lst lS),.emp,.emp,.emp,.emp,.emp,.emp,.emp] [none,some 0,some 1,some 2]=true from rfl)]
   have el:lend [Sl.val hh,.val (.tup la),.val (.tup lw),.val (.lst lS),.emp,.emp,.emp,.emp,.emp,.emp,.emp] [none,some 0,some 1,some 2] [none,none,none,none]++aD (4 - 4) Sl.emp=[.emp,.val hh,.val (.tup la),.val (.tup lw)]:=rfl;rw[el,z];dsimp only;rw[if_pos (show(putB [Sl.val hh,.val (.tup la),.val (.tup lw),.val (.lst lS),.emp,.emp,.emp,.emp,.emp,.emp,.emp] [none,some 0,some 1,some 2] (tU 4 [.emp,.val hh,.val (.tup la),.val (.tup lw)]):List Sl).all tagB=true/\[7,8,9,10].contains 4=false from⟨rfl,rfl⟩)]
   have eS:setG (rsC hh la lw zz) [7,8,9,10] 0 (bA (putB [Sl.val hh,.val (.tup la),.val (.tup lw),.val (.lst lS),.emp,.emp,.emp,.emp,.emp,.emp,.emp] [none,some 0,some 1,some 2] (tU 4 [.emp,.val hh,.val (.tup la),.val (.tup lw)])) 4 (.box "Crowd" (mkFs (rsC hh la lw zz) 0)))=some (fr11 (.val hh) (.val (.tup la)) (.val (.tup lw)) (.val (.lst lS)) .emp .emp hh la lw [.int 0,.int 0,.int 0] zz):=rfl;rw[eS];dsimp only;rw[eK];dsimp only;have eO:offs (fr11 (.val hh) (.val (.tup la)) (.val (.tup lw)) (.val (.lst lS)) o5 o6 hh am sm gm tm) [4,7,8,9,10]=[.val hh,.val (.tup la),.val (.tup lw),.val (.lst lS),.emp,o5,o6,.emp,.emp,.emp,.emp]:=rfl;rw[eO,if_pos (show([Sl.val hh,.val (.tup la),.val (.tup lw),.val (.lst lS),.emp,o5,o6,.emp,.emp,.emp,.emp]:List Sl).all tagB=true by simp only[iZ,tV,t5,t6];rfl)]
  simp[aam,aj2,s0,eN]
 ·rintro t d ρ hd ⟨o5,o6,t5,t6,rfl⟩
  rw[cT];obtain⟨d0,g,rfl⟩:=agk hd;rw[aO] at g;cases g2:S[t]? with
  | none =>
   rw[g2] at g;cases g
  | some x =>
   rw[g2] at g;have g:d0=.int x:=(bW g).symm;subst g;obtain⟨ht,hx⟩:=aN.mp g2;have esp:S=S.take t++x::S.drop (t+1):=by
    rw[<-hx,List.getElem_cons_drop,nW]
   obtain⟨⟨x0,x1⟩,hc⟩:=hl _ _ _ esp;have et:S.take (t+1)=S.take t++[x]:=by
    rw[vB,g2];rfl
   have hin:InR qv (S.take t):=fun y hy=>hl.inR y (oG hy)
   have e1:=aqi (ws:=ws) h ha hin x0 x1 hc (.val (.tup (as.map D.int))) (.val (.tup (ws.map D.int))) (.val (.lst (S.map D.int))) (.val (.int (t:Int)));rw[<-et] at e1;exact⟨_,_,rfl,.inl e1,.val (.int (t:Int)),.val (.int x),rfl,rfl,rfl⟩
end
theorem atz:∀{ns:List Int},ns≠[]->maxI ns∈ns:=fun{ns} hne=>by
 cases ns with
 | nil=>exact absurd rfl hne
 | cons x r =>
  show r.foldl (fun m y=>if decide (y > m)=true then y else m) x∈x::r
  have key:∀(r:List Int) (x:Int),r.foldl (fun m y=>if decide (y > m)=true then y else m) x=x∨r.foldl (fun m y=>if decide (y > m)=true then y else m) x∈r:=fun r=>by
   induction r with
   | nil=>exact fun x=>.inl rfl
   | cons y r ih =>
    intro x;rw[fB];rcases ih (if decide (y > x)=true then y else x) with q | q
    ·rw[q];split
     ·exact .inr (aR ..)
     ·exact .inl rfl
    ·exact .inr (aL _ q)
  rcases key r x with q | q
  ·rw[q];exact aR ..
  ·exact aL _ q
theorem auq{ns:List Int}(h:ns≠[]):ax8 (.lst (ns.map D.int))=some (.v (.int (maxI ns))):=by
 show(qu (ns.map D.int)).bind _=_;rw[aah];simp[h,maxI]
section
variable{qv:LL9}(h:Hs qv){as:List Int}(ha:Arr qv as){ws:List Int}
include h ha
theorem as7{s:List Int}(hs:InR qv s){x:Int}(x0:0<=x)(x1:x < (qv.length:Int)) :
  stn qv as ws (s++[x])=(let l1:=(stn qv as ws s).set x.toNat ((stn qv as ws s).getD x.toNat 0 - 1)
   let d:=led qv (go qv as s) x
   if 0<=d then l1.set d.toNat (l1.getD d.toNat 0+1) else l1):=by
 have hl:=gw qv as ws s;have hga:=yt h s ha hs;have hd:=amr h hga x0 x1;have key:∀i:Nat,i < qv.length->(stn qv as ws (s++[x]))[i]? = some ((stn qv as ws s).getD i 0 - (if x=(i:Int) then 1 else 0)+(if led qv (go qv as s) x=(i:Int) then 1 else 0)):=fun i hi=>by
  have e1:=ud (qv:=qv) as ws (s++[x]) (x:=(i:Int)) (by omega) (by omega)
  have e2:=ud (qv:=qv) as ws s (x:=(i:Int)) (by omega) (by omega)
  rw[aX] at e1 e2;have hlt:i < (stn qv as ws (s++[x])).length:=by rw[gw];exact hi
  rw[aG,aC hlt] at e1;rw[aC hlt]
  congr 1
  have e1:(stn qv as ws (s++[x]))[i]=_:=e1;rw[e1,e2,cR,jd,jf];have z:([]:List Int).count (i:Int)=0:=rfl;show(((wf ws (i:Int))+(arv qv (i:Int) as s+((if led qv (go qv as s) x=(i:Int) then 1 else 0)+0)):Nat):Int) - ((s.count (i:Int)+(([]:List Int).count (i:Int)+(if x=(i:Int) then 1 else 0)):Nat):Int)=_
  rw[z];split <;> split <;> omega
 apply fW;intro i
 by_cases hi:i < qv.length
 ·rw[key i hi];show _=(if 0<=led qv (go qv as s) x then ((stn qv as ws s).set x.toNat ((stn qv as ws s).getD x.toNat 0 - 1)).set (led qv (go qv as s) x).toNat (((stn qv as ws s).set x.toNat ((stn qv as ws s).getD x.toNat 0 - 1)).getD (led qv (go qv as s) x).toNat 0+1) else (stn qv as ws s).set x.toNat ((stn qv as ws s).getD x.toNat 0 - 1))[i]?
  have base:((stn qv as ws s).set x.toNat ((stn qv as ws s).getD x.toNat 0 - 1))[i]? = some ((stn qv as ws s).getD i 0 - (if x=(i:Int) then 1 else 0)):=by
   rw[bQ]
   by_cases q:x.toNat=i
   ·rw[if_pos q,if_pos (by omega),if_pos (by omega),q]
   ·rw[if_neg q,if_neg (by omega),aC (by omega),aG,aC (by omega)]
    simp
  by_cases hd0:0<=led qv (go qv as s) x
  ·rw[if_pos hd0,bQ]
   by_cases q:(led qv (go qv as s) x).toNat=i
   ·have hlt:i < ((stn qv as ws s).set x.toNat ((stn qv as ws s).getD x.toNat 0 - 1)).length:=by rw[bC];omega
    have e9:((stn qv as ws s).set x.toNat ((stn qv as ws s).getD x.toNat 0 - 1)).getD i 0=(stn qv as ws s).getD i 0 - (if x=(i:Int) then 1 else 0):=by rw[aG,base];rfl
    rw[if_pos q,q,if_pos hlt,e9,if_pos (show led qv (go qv as s) x=(i:Int) by omega)]
   ·rw[if_neg q,base,if_neg (show ¬led qv (go qv as s) x=(i:Int) by omega),kI]
  ·rw[if_neg hd0,base,if_neg (show ¬led qv (go qv as s) x=(i:Int) by omega),kI]
 ·rw[bN (by rw[gw];omega)]
  symm
  apply bN;show(if 0<=led qv (go qv as s) x then ((stn qv as ws s).set x.toNat ((stn qv as ws s).getD x.toNat 0 - 1)).set (led qv (go qv as s) x).toNat (((stn qv as ws s).set x.toNat ((stn qv as ws s).getD x.toNat 0 - 1)).getD (led qv (go qv as s) x).toNat 0+1) else (stn qv as ws s).set x.toNat ((stn qv as ws s).getD x.toNat 0 - 1)).length<=i
  split
  ·rw[bC,bC];omega
  ·rw[bC];omega
omit h ha in
theorem aui(s:List Int)(x:Int)(hd : -3<=led qv (go qv as s) x):gts qv as (s++[x])=if 0<=led qv (go qv as s) x then gts qv as s else (gts qv as s).set (0 - led qv (go qv as s) x - 1).toNat ((gts qv as s).getD (0 - led qv (go qv as s) x - 1).toNat 0+1):=by
 unfold gts;rw[jf,jf,jf];have e:∀d,arv qv d (go qv as s) [x]=if led qv (go qv as s) x=d then 1 else 0:=fun d=>by
  show(if led qv (go qv as s) x=d then 1 else 0)+0=_
  omega
 rw[e,e,e];generalize led qv (go qv as s) x=d at *
 by_cases q:0<=d
 ·rw[if_pos q,if_neg (by omega),if_neg (by omega),if_neg (by omega)]
  simp
 ·have:d = -1∨d = -2∨d = -3:=by omega
  rcases this with rfl | rfl | rfl <;> simp
theorem aqj{s:List Int}(hs:InR qv s){x:Int}(x0:0<=x)(x1:x < (qv.length:Int)):ux [.val (hD qv),.own (some 1) ((go qv as s).map D.int),.own (some 2) ((stn qv as ws s).map D.int),.own (some 3) ((gts qv as s).map D.int),.val (.int x)] =
  some (.ok (.v .non),[.val (hD qv),.own (some 1) ((go qv as (s++[x])).map D.int),.own (some 2) ((stn qv as ws (s++[x])).map D.int),.own (some 3) ((gts qv as (s++[x])).map D.int),.val (.int x)]):=by
 have hga:=yt h s ha hs;have e1:=agv x0 x1;have e2:=ane h hga x0 x1;have e3:=ay7 h hga x0 x1;have e4:=aj5 h hga x0 x1 (ar (go qv as s) x+1);have e5:ixN (go qv as s).length x=some x.toNat:=vy x0 (by rw[hga.len];exact x1)
 have e6:ixN (stn qv as ws s).length x=some x.toNat:=vy x0 (by rw[gw];exact x1)
 have e7:=qd (ns:=stn qv as ws s) x0 (by rw[gw];exact x1)
 have hd:=amr h hga x0 x1;have eg:go qv as (s++[x])=gone qv (go qv as s) x:=by rw[adq];rfl
 rw[eg,as7 h ha hs x0 x1,aui s x hd.1];generalize hDd:led qv (go qv as s) x=d at *;show _=some (Out.ok (Rv.v .non),[Sl.val (hD qv),.own (some 1) ((gone qv (go qv as s) x).map D.int),.own (some 2) ((if 0<=d then ((stn qv as ws s).set x.toNat ((stn qv as ws s).getD x.toNat 0 - 1)).set d.toNat (((stn qv as ws s).set x.toNat ((stn qv as ws s).getD x.toNat 0 - 1)).getD d.toNat 0+1) else (stn qv as ws s).set x.toNat ((stn qv as ws s).getD x.toNat 0 - 1)).map D.int),.own (some 3) ((if 0<=d then gts qv as s else (gts qv as s).set (0 - d - 1).toNat ((gts qv as s).getD (0 - d - 1).toNat 0+1)).map D.int),.val (.int x)])
 have hgl:(gts qv as s).length=3:=rfl;have hsl:((stn qv as ws s).set x.toNat ((stn qv as ws s).getD x.toNat 0 - 1)).length=qv.length:=by rw[bC,gw]
 have m1:((stn qv as ws s).map D.int).set x.toNat (.int ((stn qv as ws s).getD x.toNat 0 - 1))=((stn qv as ws s).set x.toNat ((stn qv as ws s).getD x.toNat 0 - 1)).map D.int:=by rw[fY]
 have m2:((go qv as s).map D.int).set x.toNat (.int ((ar (go qv as s) x+1) % ((dr qv x).length:Int)))=(gone qv (go qv as s) x).map D.int:=by unfold gone;rw[fY]
 generalize (stn qv as ws s).set x.toNat ((stn qv as ws s).getD x.toNat 0 - 1)=l1 at *;generalize hgt:gts qv as s=gt at *
 by_cases q:0<=d
 ·have e8:=qd (ns:=l1) q (by rw[hsl];exact hd.2)
  have e9:ixN l1.length d=some d.toNat:=vy q (by rw[hsl];exact hd.2)
  rw[if_pos q,if_pos q];have m3:(l1.map D.int).set d.toNat (.int (l1.getD d.toNat 0+1))=(l1.set d.toNat (l1.getD d.toNat 0+1)).map D.int:=by rw[fY]
  have e9':ixN (l1.map D.int).length d=some d.toNat:=by rw[aF];exact e9
  have e5':ixN ((go qv as s).map D.int).length x=some x.toNat:=by rw[aF];exact e5
  have e6':ixN ((stn qv as ws s).map D.int).length x=some x.toNat:=by rw[aF];exact e6
  rw[<-m3,<-m2];rw[<-m1] at e8 e9' m3 ⊢
  generalize (stn qv as ws s).getD x.toNat 0=sv at *;generalize l1.getD d.toNat 0=lv at *;generalize (stn qv as ws s).map D.int=sm at *;generalize (go qv as s).map D.int=gm at *;have hdm:((dr qv x).map D.int).length=(dr qv x).length:=aF ..
  generalize (dr qv x).map D.int=dm at *;simp only[hD] at *;simp[ux,ac1,e1,e2,e3,e4,e5',e6',e7,q,hdm,e8,e9',-bC,-aF]
 ·have hd':d = -1∨d = -2∨d = -3:=by omega
  have k0:0<=0 - d - 1:=by omega
  have k1:0 - d - 1 < (gt.length:Int):=by rw[hgl];omega
  have e8:=qd (ns:=gt) k0 k1;have e9:ixN gt.length (0 - d - 1)=some (0 - d - 1).toNat:=vy k0 k1;rw[if_neg q,if_neg q];have m3:(gt.map D.int).set (0 - d - 1).toNat (.int (gt.getD (0 - d - 1).toNat 0+1))=(gt.set (0 - d - 1).toNat (gt.getD (0 - d - 1).toNat 0+1)).map D.int:=by rw[fY]
  have e9':ixN (gt.map D.int).length (0 - d - 1)=some (0 - d - 1).toNat:=by rw[aF];exact e9
  have e5':ixN ((go qv as s).map D.int).length x=some x.toNat:=by rw[aF];exact e5
  have e6':ixN ((stn qv as ws s).map D.int).length x=some x.toNat:=by rw[aF];exact e6
  have s1:fSub 0 d=some (0 - d):=by simp
  rw[<-m3,<-m2,<-m1];generalize (stn qv as ws s).getD x.toNat 0=sv at *;generalize gt.getD (0 - d - 1).toNat 0=lv at *;generalize hkk:0 - d - 1=kk at *;generalize gt.map D.int=gg at *;generalize (stn qv as ws s).map D.int=sm at *;generalize (go qv as s).map D.int=gm at *;have hkk' : -d - 1=kk:=by omega
  have hdm:((dr qv x).map D.int).length=(dr qv x).length:=aF ..
  generalize (dr qv x).map D.int=dm at *;simp only[hD] at *;simp[ux,ac1,e1,e2,e3,e4,e5',e6',e7,q,hkk',hdm,e8,e9',-bC,-aF]
end
section
variable{qv:LL9}(h:Hs qv){as:List Int}{ws:List Int}
include h
theorem aqe(s:List Int):(0 < maxI (stn qv as ws s))↔∃x:Int,0<=x/\x < (qv.length:Int)/\0 < (stn qv as ws s).getD x.toNat 0:=by
 have h1:=h.one;have hne:stn qv as ws s≠[]:=fun z=>by have:=gw qv as ws s;rw[z] at this;simp at this;omega
 constructor
 ·intro hp;obtain⟨i,hi,e⟩:=fO.mp (atz hne);rw[gw] at hi;refine⟨(i:Int),by omega,by omega,?_⟩
  rw[aX,aG,aC (by rw[gw];exact hi)]
  show 0 < (stn qv as ws s)[i];rw[e];exact hp
 ·rintro⟨x,x0,x1,hx⟩
  rcases lN 0 (maxI (stn qv as ws s)) with q | q
  ·exact q
  ·exfalso;have:=(axv hne 1).mp (by omega) ((stn qv as ws s).getD x.toNat 0) (by
    have hk:x.toNat < (stn qv as ws s).length:=by rw[gw];omega
    rw[aG,aC hk];exact bT hk)
   omega
end
section
variable{qv:LL9}(h:Hs qv){as:List Int}(ha:Arr qv as){ws:List Int}
include h ha
theorem a2a(s:List Int):compD (bu 0) aa9 aa4 (jy 0 qv.length) [] [.emp,.own (some 1) ((stn qv as ws s).map D.int)]=some (.ok (((upto qv.length).filter fun x=>decide (0 < (stn qv as ws s).getD x.toNat 0)).map D.int),abo .emp (jy 0 qv.length)::[.own (some 1) ((stn qv as ws s).map D.int)]):=by
 rw[xg,rz (p:=fun d=>match d with | .int k=>decide (0 < (stn qv as ws s).getD k.toNat 0) | _=>false) (f:=id)]
 ·simp only[nY,jX,uJ,cU]
 ·intro d hd;obtain⟨k,hk,rfl⟩:=cW.mp hd;have hk':=jx hk;have e:=qd (ns:=stn qv as ws s) hk'.1 (by rw[gw];exact hk'.2)
  generalize (stn qv as ws s).map D.int=sm at *;simp[aa9,e]
 ·intro d hd _;simp[aa4]
theorem anv{s:List Int}(hl:Lg qv as (wf ws) s)(hn:NN qv as (wf ws) s)(hp:0 < maxI (stn qv as ws s))(hs:s.length < 100000)(P:Int×Int)(o6:Sl):∃(r:Int) (P':Int×Int),Lg qv as (wf ws) (s++[r])/\NN qv as (wf ws) (s++[r])/\∃q6,
  v4 [.own (some 0) (pen P),.val (hD qv),.own none ((go qv as s).map D.int),.own none ((stn qv as ws s).map D.int),.own none ((gts qv as s).map D.int),.own none (s.map D.int),o6] =
  some (.nx,[.own (some 0) (pen P'),.val (hD qv),.own none ((go qv as (s++[r])).map D.int),.own none ((stn qv as ws (s++[r])).map D.int),.own none ((gts qv as (s++[r])).map D.int),.own none ((s++[r]).map D.int),q6]):=by
 obtain⟨x,x0,x1,hx⟩:=(aqe h s).mp hp;have hne:x∈((upto qv.length).filter fun x=>decide (0 < (stn qv as ws s).getD x.toNat 0)):=cM.mpr ⟨yo x0 x1,decide_eq_true hx⟩
 have hm:=h.most;have hlen:((upto qv.length).filter fun x=>decide (0 < (stn qv as ws s).getD x.toNat 0)).length<=qv.length:=by
  refine cF (fG _ _) ?_;unfold upto;rw[aF,dD];exact aM _
 have eC:=a2a (ws:=ws) h ha s;have hR:∀r∈((upto qv.length).filter fun x=>decide (0 < (stn qv as ws s).getD x.toNat 0)),(0<=r/\r < (qv.length:Int))/\0 < (stn qv as ws s).getD r.toNat 0:=fun r hr=>by
  obtain⟨a,b⟩:=cM.mp hr;exact⟨jx a,of_decide_eq_true b⟩
 generalize ((upto qv.length).filter fun x=>decide (0 < (stn qv as ws s).getD x.toNat 0))=R at *
 have hpos:0 < R.length:=tE hne;obtain⟨k,P1,e0,k0,k1⟩:=o9 P (R.length:Int) (by omega) (by omega)
 have ei:=qd (ns:=R) k0 k1;have hmem:R.getD k.toNat 0∈R:=by
  have hk:k.toNat < R.length:=by omega
  rw[aG,aC hk];exact bT hk
 obtain⟨⟨r0,r1⟩,hr2⟩:=hR _ hmem;generalize R.getD k.toNat 0=r at *;rw[ud as ws s r0 r1] at hr2;have hlt:s.count r < wf ws r+arv qv r as s:=by omega
 refine⟨r,P1,hl.snoc r0 r1 hlt,hn.snoc hlt,.own none (R.map D.int),?_⟩;have e1:=aqj (ws:=ws) h ha hl.inR r0 r1;have hc2:R.length<=capS:=bj (by omega)
 have hRl:(R.map D.int).length=R.length:=aF ..
 have hc3:(s.map D.int).length < capS:=by rw[aF];unfold capS;omega
 have hdl:=mq qv;have hb':qv.length < 4611686018427387904:=by omega
 have es:(s++[r]).map D.int=s.map D.int++[.int r]:=by rw[cG];rfl
 have el:=au6 (s.map D.int) (.int r);rw[es];generalize s.map D.int=ss at *;generalize (stn qv as ws (s++[r])).map D.int=sm2 at *;generalize (stn qv as ws s).map D.int=sm at *;generalize (gts qv as (s++[r])).map D.int=gm2 at *;generalize (gts qv as s).map D.int=gm at *;generalize (go qv as (s++[r])).map D.int=am2 at *;generalize (go qv as s).map D.int=am at *;generalize R.map D.int=RR at *;simp only[hD] at *;simp[v4,hdl,hb',eC,hc2,hRl,e0,ei,hc3,el,e1,-aF]
theorem ajx(hW:Wk qv.length ws){B:Nat}(hmost:∀s,Lg qv as (wf ws) s->s.length<=B)(hB:B < 100000)(P:Int×Int) :
  ∃(S:List Int) (P':Int×Int) (X Y:Sl),Lg qv as (wf ws) S/\Stb qv as (wf ws) S/\vq [.own (some 0) (pen P),.val (hD qv),.val (.tup (as.map D.int)),.val (.tup (ws.map D.int))]=some (.ok (.fr (S.map D.int)),[.own (some 0) (pen P'),.val (hD qv),X,Y]):=by
 have hm:=h.most;have h1:=h.one;have hne:∀s,stn qv as ws s≠[]:=fun s z=>by have:=gw qv as ws s;rw[z] at this;simp at this;omega
 have loop:=v9 (c:=v5) (g:=v4)
  (fun n ρ=>∃(s:List Int) (P:Int×Int) (o6:Sl),n=B - s.length/\Lg qv as (wf ws) s/\NN qv as (wf ws) s/\ρ=[.own (some 0) (pen P),.val (hD qv),.own none ((go qv as s).map D.int),.own none ((stn qv as ws s).map D.int),.own none ((gts qv as s).map D.int),.own none (s.map D.int),o6])
  (fun ρ=>∃(s:List Int) (P:Int×Int) (o6:Sl),Lg qv as (wf ws) s/\Stb qv as (wf ws) s/\ρ=[.own (some 0) (pen P),.val (hD qv),.own none ((go qv as s).map D.int),.own none ((stn qv as ws s).map D.int),.own none ((gts qv as s).map D.int),.own none (s.map D.int),o6])
  ?_ fuel B [.own (some 0) (pen P),.val (hD qv),.own none (as.map D.int),.own none (ws.map D.int),.own none [.int 0,.int 0,.int 0],.own none [],.emp] (lH hB adx) ⟨[],P,.emp,by simp,.nil,.nil,by rw[ak0 hW.len fun w hw'=>(hW.ok w hw').1];rfl⟩
 ·obtain⟨ρ',e,S,P',o6,l,st,rfl⟩:=loop;refine⟨S,P',.own none ((go qv as S).map D.int),.own none ((stn qv as ws S).map D.int),l,st,?_⟩;have hal:=ha.len;have hwl:=hW.len;have c1:(as.map D.int).length<=capS:=by rw[aF];exact bj (by omega)
  have c2:(ws.map D.int).length<=capS:=by rw[aF];exact bj (by omega)
  generalize (stn qv as ws S).map D.int=sm at *;generalize (gts qv as S).map D.int=gm at *;generalize (go qv as S).map D.int=am at *;generalize S.map D.int=ss at *;generalize as.map D.int=la at *;generalize ws.map D.int=lw at *;simp only[hD] at *;generalize hDs qv=hh at *;simp[vq,ae2,noTf,Rv.sl,c1,c2,e]
 ·rintro n ρ ⟨s,P,o6,rfl,l,nn,rfl⟩
  have eM:=auq (hne s);have hs:=hmost _ l
  by_cases hp:0 < maxI (stn qv as ws s)
  ·obtain⟨r,P',l2,n2,q6,e⟩:=anv h ha l nn hp (by omega) P o6
   have z:=hmost _ l2;rw[bM] at z;refine .inr ⟨_,_,B - (s++[r]).length,?_,e,by rw[bM];simp at z ⊢;omega,s++[r],P',q6,rfl,l2,n2,rfl⟩
   generalize (stn qv as ws s).map D.int=sm at *;generalize hD qv=hh at *;simp[v5,eM,hp]
  ·refine .inl ⟨_,?_,s,P,o6,l,fun x x0 x1 =>?_,rfl⟩
   ·generalize (stn qv as ws s).map D.int=sm at *;generalize hD qv=hh at *;simp[v5,eM,hp]
   ·have q1:=nn x x0 x1;have q2:¬0 < (stn qv as ws s).getD x.toNat 0:=fun q=>hp ((aqe h s).mpr ⟨x,x0,x1,q⟩)
    rw[ud as ws s x0 x1] at q2;omega
end
theorem auy{n:Nat}{d t:Int}(hd1 : -3<=d)(hd2:d < (n:Int)){st gt:List Int}(h1:st.length=n)(h2:gt.length=3)(a b c e f g:Sl) :
  j9 [a,b,c,e,.own none (st.map D.int),.own none (gt.map D.int),f,g,.val (.int d),.val (.int t)]=some (.nx,[a,b,c,e,.own none ((stp (st,gt) (d,t)).1.map D.int),.own none ((stp (st,gt) (d,t)).2.map D.int),f,g,.val (.int d),.val (.int t)]):=by
 by_cases q:0<=d
 ·have e0:stp (st,gt) (d,t)=(st.set d.toNat (st.getD d.toNat 0+t),gt):=if_pos q;rw[e0];have ix:ixN (st.map D.int).length d=some d.toNat:=by rw[aF];exact vy q (by omega)
  have ai:=qd (ns:=st) q (by omega)
  have m3:(st.set d.toNat (st.getD d.toNat 0+t)).map D.int=(st.map D.int).set d.toNat (.int (st.getD d.toNat 0+t)):=by rw[fY]
  show _=some (Fl.nx,[a,b,c,e,.own none ((st.set d.toNat (st.getD d.toNat 0+t)).map D.int),.own none (gt.map D.int),f,g,.val (.int d),.val (.int t)]);rw[m3];generalize st.getD d.toNat 0=v at *;generalize st.map D.int=sm at *;generalize gt.map D.int=gm at *;simp[j9,q,ix,ai]
 ·have e0:stp (st,gt) (d,t)=(st,gt.set (-d - 1).toNat (gt.getD (-d - 1).toNat 0+t)):=if_neg q;rw[show -d - 1 = -1 - d by omega] at e0
  rw[e0];have ix:ixN (gt.map D.int).length (-1 - d)=some (-1 - d).toNat:=by rw[aF];exact vy (by omega) (by omega)
  have ai:=qd (ns:=gt) (k := -1 - d) (by omega) (by omega)
  have m3:(gt.set (-1 - d).toNat (gt.getD (-1 - d).toNat 0+t)).map D.int=(gt.map D.int).set (-1 - d).toNat (.int (gt.getD (-1 - d).toNat 0+t)):=by rw[fY]
  show _=some (Fl.nx,[a,b,c,e,.own none (st.map D.int),.own none ((gt.set (-1 - d).toNat (gt.getD (-1 - d).toNat 0+t)).map D.int),f,g,.val (.int d),.val (.int t)]);rw[m3];generalize gt.getD (-1 - d).toNat 0=v at *;generalize st.map D.int=sm at *;generalize gt.map D.int=gm at *;generalize hkk : -1 - d=kk at *;simp[j9,q,ix,ai,hkk]
theorem ari{n:Nat}(a b c e f g:Sl):∀(ps:List (Int×Int)) (st gt:List Int) (o1 o2:Sl),(∀p∈ps,-3<=p.1/\p.1 < (n:Int))->st.length=n->gt.length=3 ->
  ∃q1 q2,forD (bTup 2 (gk (bu 8) (gk (bu 9) bNil))) j9 (ps.map fun p=>.tup [.int p.1,.int p.2]) [a,b,c,e,.own none (st.map D.int),.own none (gt.map D.int),f,g,o1,o2]=some (.nx,[a,b,c,e,.own none ((ps.foldl stp (st,gt)).1.map D.int),.own none ((ps.foldl stp (st,gt)).2.map D.int),f,g,q1,q2])
 | [],st,gt,o1,o2,_,_,_=>⟨o1,o2,rfl⟩
 | (d,t)::ps,st,gt,o1,o2,hp,h1,h2=>by
  have hd':=hp (d,t) (aR ..);have e0:=auy (n:=n) (d:=d) (t:=t) hd'.1 hd'.2 h1 h2 a b c e f g;obtain⟨l1,l2,_⟩:=ad4 (n:=n) [(d,t)] st gt (fun p hp'=>hp p (by rw[cV] at hp';rw[hp'];exact aR ..)) h1 h2
  have l1:(stp (st,gt) (d,t)).1.length=n:=l1;have l2:(stp (st,gt) (d,t)).2.length=3:=l2;obtain⟨q1,q2,e2⟩:=ari (n:=n) a b c e f g ps (stp (st,gt) (d,t)).1 (stp (st,gt) (d,t)).2 (.val (.int d)) (.val (.int t)) (fun p hp'=>hp p (aL _ hp')) l1 l2
  refine⟨q1,q2,?_⟩;rw[fB,aU,vm];have ez:((stp (st,gt) (d,t)).1,(stp (st,gt) (d,t)).2)=stp (st,gt) (d,t):=rfl;rw[ez] at e2;generalize stp (st,gt) (d,t)=Z at *;generalize (ps.foldl stp Z).1.map D.int=F1 at *;generalize (ps.foldl stp Z).2.map D.int=F2 at *;generalize Z.1.map D.int=z1 at *;generalize Z.2.map D.int=z2 at *;generalize st.map D.int=sm at *;generalize gt.map D.int=gm at *;simp[e0,e2]
def dstL(qv:LL9)(as gs:List Int)(p:List Int×List Int):Nat->List Int×List Int
 | 0=>p
 | j+1=>(prs (qv.getD j []) (as.getD j 0) (gs.getD j 0)).foldl stp (dstL qv as gs p j)
theorem fold_fst:∀(ps:List (Int×Int)) (p:List Int×List Int),(ps.foldl stp p).1=ps.foldl stq p.1
 | [],p=>rfl
 | q::ps,p=>by
  rw[fB,fB,fold_fst ps]
  congr 1
  unfold stp stq;split <;> rfl
theorem afd(qv:LL9)(as gs st gt:List Int):∀j,(dstL qv as gs (st,gt) j).1=cmb qv as gs st j
 | 0=>rfl
 | j+1=>by
  show((prs _ _ _).foldl stp (dstL qv as gs (st,gt) j)).1=_;rw[fold_fst,afd qv as gs st gt j];rfl
theorem ave{qv:LL9}(h:Hs qv){j:Nat}(hj:j < qv.length)(a L:Int):∀p∈prs (qv.getD j []) a L,-3<=p.1/\p.1 < (qv.length:Int):=fun p hp=>by
 obtain⟨k,hk,rfl⟩:=cW.mp hp;have hk:=dG.mp hk;have hrj:qv[j]? = some (qv.getD j []):=by rw[aG,aC hj];rfl
 obtain⟨_,_,w3⟩:=h.room _ (cC hrj);refine w3 _ ?_;generalize qv.getD j []=r at *;show r.getD k 0∈r;rw[aG,aC hk];exact bT hk
theorem aim{qv:LL9}(h:Hs qv){as:List Int}(ha:Arr qv as){gs st:List Int}(hg:∀g∈gs,0<=g)(hgl:gs.length=qv.length)(hl:st.length=qv.length):∀j,j<=qv.length->(dstL qv as gs (st,[0,0,0]) j).2.length=3/\∀k:Nat,k < 3->(dstL qv as gs (st,[0,0,0]) j).2.getD k 0=(((bG j).map fun(y:Nat)=>us qv as ((y:Nat):Int) (-1 - (k:Int)) (gs.getD y 0).toNat).sum:Nat)
 | 0,_=>⟨rfl,fun k hk=>by
  have:k=0∨k=1∨k=2:=by omega
  rcases this with rfl | rfl | rfl <;> rfl⟩
 | j+1,hj=>by
  obtain⟨i1,i2⟩:=aim h ha hg hgl hl j (by omega)
  have hdr:dr qv ((j:Nat):Int)=qv.getD j []:=by unfold dr;rw[aX]
  have har:ar as ((j:Nat):Int)=as.getD j 0:=by unfold ar;rw[aX]
  have g0:=akt hgl hg (i:=j) (by omega)
  have f1:=afd qv as gs st [0,0,0] j;have fl:(dstL qv as gs (st,[0,0,0]) j).1.length=qv.length:=by rw[f1,aa7];exact hl
  obtain⟨_,j2,_,j4⟩:=ad4 (n:=qv.length) (prs (qv.getD j []) (as.getD j 0) (gs.getD j 0)) (dstL qv as gs (st,[0,0,0]) j).1 (dstL qv as gs (st,[0,0,0]) j).2 (ave h (by omega) _ _) fl i1
  refine⟨j2,fun k hk =>?_⟩
  have u:=ai0 h ha (x:=((j:Nat):Int)) (by omega) (by omega) (-1 - (k:Int)) (gs.getD j 0).toNat
  rw[show(((gs.getD j 0).toNat:Nat):Int)=gs.getD j 0 by omega,hdr,har] at u
  show((prs (qv.getD j []) (as.getD j 0) (gs.getD j 0)).foldl stp (dstL qv as gs (st,[0,0,0]) j)).2.getD k 0=_;have j4:=j4 k hk;have ez:((dstL qv as gs (st,[0,0,0]) j).1,(dstL qv as gs (st,[0,0,0]) j).2)=dstL qv as gs (st,[0,0,0]) j:=rfl;rw[ez] at j4;rw[j4,i2 k hk,<-u,eY,cG,jQ];simp
theorem awf{qv:LL9}{S:List Int}(hS:InR qv S)(x:Int):(rowW (tal qv.length S) qv.length).count x=S.count x:=by
 by_cases q:0<=x/\x < (qv.length:Int)
 ·rw[v7 q.1 q.2,aG,afk S (by omega)]
  show((S.count ((x.toNat:Nat):Int):Nat):Int).toNat=_;rw[show((x.toNat:Nat):Int)=x by omega]
  omega
 ·rw[InR.count (aav (tal qv.length S) qv.length) q,hS.count q]
theorem al7(n:Nat)(S:List Int):∀x∈tal n S,0<=x:=fun x hx=>by
 unfold tal at hx;obtain⟨i,_,rfl⟩:=cW.mp hx;omega
theorem ayt{qv:LL9}(h:Hs qv){as:List Int}(ha:Arr qv as){ws S:List Int}(hW:Wk qv.length ws)(lS:Lg qv as (wf ws) S)(sS:Stb qv as (wf ws) S):dstL qv as (tal qv.length S) (ws,[0,0,0]) qv.length=(tal qv.length S,gts qv as S):=by
 have same:=awf lS.inR;have hin:=aav (tal qv.length S) qv.length;have st:Stb qv as (wf ws) (rowW (tal qv.length S) qv.length):=fun x x0 x1=>by
  rw[same x,sS x x0 x1,aat h x S ha lS.inR,aat h x _ ha hin]
  congr 1
  exact u6 _ _ _ fun y _=>by rw[same y]
 have e1:=(ayy h ha hW.len (fun w hw'=>(hW.ok w hw').1) (su _ _) (al7 _ _)).mpr st
 obtain⟨e2,e3⟩:=aim h ha (al7 qv.length S) (su _ _) hW.len qv.length (aM _);have e4:=afd qv as (tal qv.length S) ws [0,0,0] qv.length;rw[e1] at e4;have ek:∀k:Nat,k < 3->(dstL qv as (tal qv.length S) (ws,[0,0,0]) qv.length).2.getD k 0=(arv qv (-1 - (k:Int)) as S:Int):=fun k hk=>by
  rw[e3 k hk,aat h _ S ha lS.inR]
  congr 1
  unfold upto;rw[fD]
  congr 1
  apply jH;intro y hy;have hy:=dG.mp hy;show us qv as ((y:Nat):Int) _ ((tal qv.length S).getD y 0).toNat=us qv as ((y:Nat):Int) _ (S.count ((y:Nat):Int));rw[aG,afk S hy];show us qv as ((y:Nat):Int) _ ((S.count ((y:Nat):Int):Nat):Int).toNat=_;rw[aX]
 have e5:(dstL qv as (tal qv.length S) (ws,[0,0,0]) qv.length).2=gts qv as S:=ace (by rw[e2];rfl) fun i hi=>by
  rw[e2] at hi;rw[ek i hi];have:i=0∨i=1∨i=2:=by omega
  rcases this with rfl | rfl | rfl <;> rfl
 exact wV e4 e5
theorem azs{n:Nat}{ws:List Int}(hW:Wk n ws):ws.sum=((((upto n).map (wf ws)).sum:Nat):Int):=by
 have hl:=hW.len;have key:∀k,k<=ws.length->(ws.take k).sum=((((bG k).map fun i=>wf ws ((i:Nat):Int)).sum:Nat):Int):=fun k=>by
  induction k with
  | zero=>intro _;rfl
  | succ k ih =>
   intro hk;have hk':k < ws.length:=by omega
   have e:ws.take (k+1)=ws.take k++[ws[k]]:=by rw[wL,aC hk'];rfl
   have w0:=(hW.ok _ (bT hk')).1;have ew:wf ws ((k:Nat):Int)=ws[k].toNat:=by unfold wf;rw[aX,aG,aC hk'];rfl
   rw[e,jQ,ih (by omega),eY,cG,jQ]
   simp[ew];omega
 have:=key ws.length (aM _);rw[kO,hl] at this;rw[this];unfold upto;rw[fD];rfl
theorem awn{qv:LL9}(h:Hs qv){as:List Int}(ha:Arr qv as){ws S:List Int}(hW:Wk qv.length ws)(lS:Lg qv as (wf ws) S)(sS:Stb qv as (wf ws) S):(gts qv as S).sum=ws.sum:=by
 rw[azs hW,al3 h ha lS.inR sS];unfold gts;simp;omega
theorem a2q(a b c:D):atI [a,b,c] 0=some a:=rfl
theorem a8b(a b c:D):atI [a,b,c] 1=some b:=rfl
theorem ay8(a b c:D):atI [a,b,c] 2=some c:=rfl
theorem ag4{qv:LL9}(h:Hs qv){as:List Int}(ha:Arr qv as){ws S:List Int}(hW:Wk qv.length ws)(lS:Lg qv as (wf ws) S)(sS:Stb qv as (wf ws) S):lu [.val (hD qv),.val (.tup (as.map D.int)),.val (.tup (ws.map D.int)),.val (.tup [.tup ((gts qv as S).map D.int),.tup ((go qv as S).map D.int),.tup ((tal qv.length S).map D.int)])]=some (.ok (.v (.bl true)),[.val (hD qv),.val (.tup (as.map D.int)),.val (.tup (ws.map D.int)),.val (.tup [.tup ((gts qv as S).map D.int),.tup ((go qv as S).map D.int),.tup ((tal qv.length S).map D.int)])]):=by
 have hm:=h.most;have hl:=su qv.length S;have hwl:=hW.len;have hfin:=ayt h ha hW lS sS;have hgs:=awn h ha hW lS sS;have hsnd:=aim h ha (al7 qv.length S) (su _ _) hW.len;generalize hvs:tal qv.length S=vs at *;generalize hTT:D.tup [.tup ((gts qv as S).map D.int),.tup ((go qv as S).map D.int),.tup (vs.map D.int)]=TT;have hul:∀j,(uAll qv as vs j).length=j:=fun j=>by simp[uAll]
 have loop:=yw (b:=bTup 2 (gk (bu 6) (gk (bu 7) bNil))) (g:=qt) (fun j ρ=>∃o5 o6 o7 o8,ρ=[.val (hD qv),.val (.tup (as.map D.int)),.val (.tup (ws.map D.int)),.val TT,.own none ((dstL qv as vs (ws,[0,0,0]) j).1.map D.int),.own none ((dstL qv as vs (ws,[0,0,0]) j).2.map D.int),o5,o6,o7,o8])
  (l:=sr (hDs qv) (uAll qv as vs qv.length)) (ρ:=[.val (hD qv),.val (.tup (as.map D.int)),.val (.tup (ws.map D.int)),.val TT,.own none (ws.map D.int),.own none [.int 0,.int 0,.int 0],.emp,.emp,.emp,.emp]) 0 ⟨.emp,.emp,.emp,.emp,rfl⟩ ?_
 ·obtain⟨ρ',e,o5,o6,o7,o8,rfl⟩:=loop;have hdl:=mq qv;have hz:(sr (hDs qv) (uAll qv as vs qv.length)).length=qv.length:=by unfold sr;rw[fV,hdl,hul];omega
  rw[hz,cT,hfin] at e;dsimp only at e;have s3:=afi h ha.len hl;have r1:ig [.val (hD qv),.val (.tup (as.map D.int))]=some (.ok (.v .non),[.val (hD qv),.val (.tup (as.map D.int))]):=by
   simp[ig,sy,aey h ha]
  have s4:vp [.val (hD qv),.val (.tup (as.map D.int)),.val (.tup (vs.map D.int))]=some (.ok (.v (.tup (uAll qv as vs qv.length))),[.val (hD qv),.val (.tup (as.map D.int)),.val (.tup (vs.map D.int))]):=by
   simp[vp,ae1,r1,s3]
  have q1:gEq false (.tup (vs.map D.int)) (.tup (vs.map D.int))=some (.v (.bl true)):=by rw[aa1];simp
  have q2:gEq false (.tup ((gts qv as S).map D.int)) (.tup ((gts qv as S).map D.int))=some (.v (.bl true)):=by rw[aa1];simp
  have g1:gSum (.lst ((gts qv as S).map D.int))=some (.v (.int ws.sum)):=by simp only[gSum,aah,nQ,hgs]
  have g2:gSum (.tup (ws.map D.int))=some (.v (.int ws.sum)):=by simp only[gSum,aah,nQ]
  have q3:gEq false (.int ws.sum) (.int ws.sum)=some (.v (.bl true)):=by simp
  have c1:(ws.map D.int).length<=capS:=by rw[aF];exact bj (by omega)
  have c2:(vs.map D.int).length<=capS:=by rw[aF];exact bj (by omega)
  have c3:((gts qv as S).map D.int).length<=capS:=bj (show 3<=1000 by decide)
  have hle:qv.length<=(uAll qv as vs qv.length).length:=by rw[hul];exact aM _
  subst hTT;generalize ws.sum=sw at *;generalize (gts qv as S).map D.int=gg at *;generalize (go qv as S).map D.int=aa at *;generalize uAll qv as vs qv.length=uu at *;generalize as.map D.int=la at *;generalize ws.map D.int=lw at *;generalize vs.map D.int=lv at *;simp only[hD] at *;simp[lu,yu,c1,ay8,a2q,s4,hdl,hle,e,c2,c3,q1,q2,g1,g2,q3]
 ·rintro j d ρ hd ⟨o5,o6,o7,o8,rfl⟩
  rw[cT];have hj:j < qv.length:=by
   rcases iR j qv.length with q | q
   ·exact q
   ·rw[bN (by unfold sr;rw[fV,mq];omega)] at hd
    cases hd
  have hrj:qv[j]? = some (qv.getD j []):=by rw[aG,aC hj];rfl
  have ed:d=.tup [.tup ((qv.getD j []).map D.int),.tup ((vd (qv.getD j []).length (as.getD j 0) (vs.getD j 0)).map D.int)]:=by
   unfold sr at hd;rw[iT] at hd;have e1:(hDs qv)[j]? = some (.tup ((qv.getD j []).map D.int)):=by unfold hDs;rw[aO,hrj];rfl
   have e2:(uAll qv as vs qv.length)[j]? = some (.tup ((vd (qv.getD j []).length (as.getD j 0) (vs.getD j 0)).map D.int)):=by unfold uAll;rw[aO,dJ hj];rfl
   rw[e1,e2] at hd;exact(bW hd).symm
  subst ed;have f1:=afd qv as vs ws [0,0,0] j;have fl:(dstL qv as vs (ws,[0,0,0]) j).1.length=qv.length:=by rw[f1,aa7];exact hwl
  obtain⟨q5,q6,e⟩:=ari (n:=qv.length) (.val (hD qv)) (.val (.tup (as.map D.int))) (.val (.tup (ws.map D.int))) (.val TT) (.val (.tup ((qv.getD j []).map D.int))) (.val (.tup ((vd (qv.getD j []).length (as.getD j 0) (vs.getD j 0)).map D.int))) (prs (qv.getD j []) (as.getD j 0) (vs.getD j 0)) (dstL qv as vs (ws,[0,0,0]) j).1 (dstL qv as vs (ws,[0,0,0]) j).2 o7 o8 (ave h hj _ _) fl (hsnd j (by omega)).1
  rw[<-akr] at e;refine⟨[.val (hD qv),.val (.tup (as.map D.int)),.val (.tup (ws.map D.int)),.val TT,.own none ((dstL qv as vs (ws,[0,0,0]) j).1.map D.int),.own none ((dstL qv as vs (ws,[0,0,0]) j).2.map D.int),.val (.tup ((qv.getD j []).map D.int)),.val (.tup ((vd (qv.getD j []).length (as.getD j 0) (vs.getD j 0)).map D.int)),o7,o8],[.val (hD qv),.val (.tup (as.map D.int)),.val (.tup (ws.map D.int)),.val TT,.own none ((dstL qv as vs (ws,[0,0,0]) (j+1)).1.map D.int),.own none ((dstL qv as vs (ws,[0,0,0]) (j+1)).2.map D.int),.val (.tup ((qv.getD j []).map D.int)),.val (.tup ((vd (qv.getD j []).length (as.getD j 0) (vs.getD j 0)).map D.int)),q5,q6],rfl,.inl ?_,_,_,_,_,rfl⟩;have hle:((qv.getD j []).map D.int).length<=((vd (qv.getD j []).length (as.getD j 0) (vs.getD j 0)).map D.int).length:=by rw[aF,aF,ac7];exact aM _
  have ecm:dstL qv as vs (ws,[0,0,0]) (j+1)=(prs (qv.getD j []) (as.getD j 0) (vs.getD j 0)).foldl stp (dstL qv as vs (ws,[0,0,0]) j):=rfl;have ez:((dstL qv as vs (ws,[0,0,0]) j).1,(dstL qv as vs (ws,[0,0,0]) j).2)=dstL qv as vs (ws,[0,0,0]) j:=rfl;rw[ez,<-ecm] at e;generalize dstL qv as vs (ws,[0,0,0]) (j+1)=Z2 at *;generalize dstL qv as vs (ws,[0,0,0]) j=Z1 at *;generalize Z2.1.map D.int=z21 at *;generalize Z2.2.map D.int=z22 at *;generalize Z1.1.map D.int=z11 at *;generalize Z1.2.map D.int=z12 at *;generalize (vd (qv.getD j []).length (as.getD j 0) (vs.getD j 0)).map D.int=ul at *;generalize (qv.getD j []).map D.int=rl at *;generalize as.map D.int=la at *;generalize ws.map D.int=lw at *;generalize hD qv=hh at *;simp[qt,hle,e]
theorem ahs(f g:Int->Nat):∀l:List Int,(l.map fun x=>f x+g x).sum=(l.map f).sum+(l.map g).sum
 | []=>rfl
 | x::l=>by
  have:=ahs f g l;rw[aU,aU,aU,bL,bL,bL,this];omega
theorem avl(f:Int->Nat):∀(l:List Int) (x:Int),x∈l->f x<=(l.map f).sum
 | y::l,x,hx=>by
  rw[aU,bL];rcases aY.mp hx with rfl | q
  ·omega
  ·have:=avl f l x q;omega
theorem api(f:Int->Nat)(c:Nat):∀l:List Int,(∀x∈l,f x<=c)->(l.map f).sum<=c*l.length
 | [],_=>dI _
 | x::l,hx=>by
  have a:=hx x (aR ..);have b:=api f c l fun y hy=>hx y (aL _ hy)
  rw[aU,bL,bO,Nat.mul_succ];omega
theorem Lg.pre{qv:LL9}{as:List Int}{w:Int->Nat}{p q:List Int}(l:Lg qv as w (p++q)):Lg qv as w p:=fun a x b e=>l a x (b++q) (by rw[e,fX];rfl)
section
variable{qv:LL9}{as ws p:List Int}(nn:NN qv as (wf ws) p)
include nn
theorem ai4{x:Int}(x0:0<=x)(x1:x < (qv.length:Int)):wf (stn qv as ws p) x+p.count x=wf ws x+arv qv x as p:=by
 have e:=ud as ws p x0 x1;have:=nn x x0 x1;show((stn qv as ws p).getD x.toNat 0).toNat+p.count x=_;omega
theorem awx{q:List Int}(l:Lg qv as (wf ws) (p++q)):Lg qv (go qv as p) (wf (stn qv as ws p)) q:=fun a x b e=>by
 obtain⟨⟨x0,x1⟩,c⟩:=l (p++a) x b (by rw[e,fX])
 refine⟨⟨x0,x1⟩,?_⟩;have z:=ai4 nn x0 x1;rw[cR,jf] at c;omega
theorem ati{q:List Int}(l:Stb qv as (wf ws) (p++q)):Stb qv (go qv as p) (wf (stn qv as ws p)) q:=fun x x0 x1=>by
 have c:=l x x0 x1;have z:=ai4 nn x0 x1;rw[cR,jf] at c;omega
theorem axx{s:List Int}(l:Lg qv as (wf ws) p)(l2:Lg qv (go qv as p) (wf (stn qv as ws p)) s):Lg qv as (wf ws) (p++s):=fun a x b e=>by
 rcases lV.mp e with⟨r,e1,e2⟩ | ⟨r,e1,e2⟩
 ·obtain⟨b0,c⟩:=l2 r x b e2;have z:=ai4 nn b0.1 b0.2;refine⟨b0,?_⟩;rw[e1,cR,jf];omega
 ·cases r with
  | nil =>
   rw[cU] at e2;obtain⟨b0,c⟩:=l2 [] x b (by rw[cU];exact e2.symm)
   rw[cZ] at e1;have z:=ai4 nn b0.1 b0.2;have c:([]:List Int).count x < wf (stn qv as ws p) x+0:=c;have c0:([]:List Int).count x=0:=rfl;refine⟨b0,?_⟩;rw[<-e1];omega
  | cons y r =>
   rw[kW,lF] at e2;obtain⟨rfl,e2⟩:=e2;exact l a x r e1
theorem azt(h:Hs qv)(ha:Arr qv as)(hin:InR qv p)(hwl:ws.length=qv.length)(w3:∀w∈ws,0<=w/\w<=3):Wk qv.length (stn qv as ws p):=by
 refine⟨gw ..,fun v hv =>?_⟩
 obtain⟨i,hi,rfl⟩:=fO.mp hv;rw[gw] at hi;have e1:=aiu h p ha hin;have e2:=af2 (qv:=qv) hin;have e3:=u6 (fun x=>wf (stn qv as ws p) x+p.count x) (fun x=>wf ws x+arv qv x as p) (upto qv.length) fun x hx=>ai4 nn (jx hx).1 (jx hx).2
 rw[ahs,ahs] at e3;have e4:=avl (wf (stn qv as ws p)) (upto qv.length) (i:Int) (yo (by omega) (by omega))
 have e5:=api (wf ws) 3 (upto qv.length) fun x hx=>by
  obtain⟨x0,x1⟩:=jx hx;have hk:x.toNat < ws.length:=by omega
  show(ws.getD x.toNat 0).toNat<=3;rw[aG,aC hk];have:=(w3 _ (bT hk)).2;show(ws[x.toNat]).toNat<=3;omega
 have e6:(upto qv.length).length=qv.length:=by simp[upto]
 have hm:=h.most;have e7:=ud (qv:=qv) as ws p (x:=(i:Int)) (by omega) (by omega)
 have e8:=nn (i:Int) (by omega) (by omega)
 have e9:(stn qv as ws p).getD (i:Int).toNat 0=(stn qv as ws p)[i]'(by rw[gw];exact hi):=by
  rw[aX,aG,aC (by rw[gw];exact hi)]
  rfl
 have e10:wf (stn qv as ws p) (i:Int)=((stn qv as ws p).getD (i:Int).toNat 0).toNat:=rfl;rw[e9] at e7 e10;rw[e6] at e5;omega
end
theorem agp(x:Int):∀V:List Int,(V.map D.int).countP (fun y=>eqD y (.int x))=V.count x
 | []=>rfl
 | a::V=>by
  have e:=alr a x;rw[aU,qI,agp x V,jd,e]
  by_cases q:a=x <;> simp[q]
theorem as3(n:Nat)(V:List Int):compD (bu 0) (ret true) arf (jy 0 n) [] [.emp,.val (.lst (V.map D.int))]=some (.ok ((tal n V).map D.int),abo .emp (jy 0 n)::[.val (.lst (V.map D.int))]):=by
 have ok:=aew 30 V;have hc:=fun x=>agp x V
 rw[aap (f:=fun d=>match d with | .int k=>.int (V.count k:Int) | _=>.int 0)]
 ·unfold tal jy;rw[cU,fD,fD]
  congr 3
  apply jH;intro i _;simp
 ·intro d hd;rw[xg] at hd;obtain⟨k,_,rfl⟩:=cW.mp hd;have hk:=hc k;generalize V.map D.int=vv at *;simp[arf,ok,hk,okD]
theorem akk:∀(a b ys:List Int) (o1 o2:Sl),a.length=b.length->∃q1 q2,compD (bTup 2 (gk (bu 0) (gk (bu 1) bNil))) (ret true) am5 (sr (a.map D.int) (b.map D.int)) (ys.map D.int) [o1,o2]=some (.ok ((ys++lL (fun x y=>x+y) a b).map D.int),[q1,q2])
 | [],[],ys,o1,o2,_=>⟨o1,o2,by simp[sr,compD]⟩
 | [],_::_,_,_,_,h=>by cases h
 | _::_,[],_,_,_,h=>by cases h
 | x::a,y::b,ys,o1,o2,h=>by
  obtain⟨q1,q2,e⟩:=akk a b (ys++[x+y]) (.val (.int x)) (.val (.int y)) (Nat.succ.inj h);refine⟨q1,q2,?_⟩;have e1:sr ((x::a).map D.int) ((y::b).map D.int)=.tup [.int x,.int y]::sr (a.map D.int) (b.map D.int):=rfl;rw[e1];have e2:ys++lL (fun x y=>x+y) (x::a) (y::b)=ys++[x+y]++lL (fun x y=>x+y) a b:=by simp
  rw[e2,<-e];simp[compD,am5]
theorem ax0(qv:LL9)(as s t:List Int):lL (fun x y=>x+y) (gts qv as s) (gts qv (go qv as s) t)=gts qv as (s++t):=by
 unfold gts;simp[jf]
theorem as6{qv:LL9}{as ws T:List Int}(sb:Stb qv as (wf ws) T):stn qv as ws T=aD qv.length 0:=by
 apply fW;intro i
 by_cases hi:i < qv.length
 ·have e:=ud (qv:=qv) as ws T (x:=(i:Int)) (by omega) (by omega)
  have s:=sb (i:Int) (by omega) (by omega)
  rw[aX,aG,aC (by rw[gw];exact hi)] at e
  rw[aC (by rw[gw];exact hi),eH,if_pos hi]
  have e:(stn qv as ws T)[i]'(by rw[gw];exact hi)=_:=e
  rw[e]
  congr 1
  omega
 ·rw[bN (by rw[gw];omega),bN (by rw[bY];omega)]
theorem ao1(P:Int×Int):∃qv P' W,f__law_wide [.own (some 0) (pen P)]=some (.ok (.v (hD qv)),[.own (some 0) (pen P')])/\Hs qv/\aau qv=[]/\1<=W/\(∀r∈qv,r.length<=W)/\6*qv.length*sx W qv.length < 100000:=by
 obtain⟨r,P1,e1,r0,r1⟩:=o9 P 8 (by decide) (by decide)
 have hm:∃m W:Nat,atI [D.tup [.int 3,.int 4],.tup [.int 4,.int 3],.tup [.int 5,.int 3],.tup [.int 5,.int 2],.tup [.int 4,.int 4],.tup [.int 3,.int 6],.tup [.int 2,.int 6],.tup [.int 8,.int 2]] r=some (.tup [.int (m:Int),.int (W:Int)])/\1<=m/\m<=8/\1<=W/\W<=6/\∀k,k<=m->6*k*sx W k < 100000:=by
  have:r=0∨r=1∨r=2∨r=3∨r=4∨r=5∨r=6∨r=7:=by omega
  rcases this with rfl | rfl | rfl | rfl | rfl | rfl | rfl | rfl
  ·exact⟨3,4,rfl,by decide,by decide,by decide,by decide,by decide +kernel⟩
  ·exact⟨4,3,rfl,by decide,by decide,by decide,by decide,by decide +kernel⟩
  ·exact⟨5,3,rfl,by decide,by decide,by decide,by decide,by decide +kernel⟩
  ·exact⟨5,2,rfl,by decide,by decide,by decide,by decide,by decide +kernel⟩
  ·exact⟨4,4,rfl,by decide,by decide,by decide,by decide,by decide +kernel⟩
  ·exact⟨3,6,rfl,by decide,by decide,by decide,by decide,by decide +kernel⟩
  ·exact⟨2,6,rfl,by decide,by decide,by decide,by decide,by decide +kernel⟩
  ·exact⟨8,2,rfl,by decide,by decide,by decide,by decide,by decide +kernel⟩
 obtain⟨m,W,em,m1,m2,w1,w2,hk⟩:=hm;obtain⟨qv,P2,e2,h,hop,hle,hw⟩:=open_spec P1 (m:Int) (W:Int) (by omega) (by omega) (by omega) (by omega)
 refine⟨qv,P2,W,?_,h,hop,w1,fun r hr=>by have:=hw r hr;omega,hk _ (by omega)⟩
 simp[f__law_wide,age,e1,em,e2]
theorem aix(P:Int×Int){qv:LL9}(h:Hs qv):∃(ws:List Int) (P':Int×Int),qj [.own (some 0) (pen P),.val (hD qv),.val (.int 3)]=some (.ok (.v (.tup (ws.map D.int))),[.own (some 0) (pen P'),.val (hD qv),.val (.int 3)])/\ws.length=qv.length/\∀w∈ws,0<=w/\w<=3:=by
 have comp:=t8 (b:=bu 0) (mc:=ret true) (me:=ye) (fun j ys ρ=>∃ns P o,ρ=[o,.own (some 1) (pen P),.val (.int 3)]/\ys=ns.map D.int/\ns.length=j/\∀w∈ns,0<=w/\w<=3)
  (l:=hDs qv) (ys:=[]) (ρ:=[.emp,.own (some 1) (pen P),.val (.int 3)]) 0 ⟨[],P,.emp,rfl,rfl,rfl,by simp⟩ ?_
 ·obtain⟨ys,ρ',e6,ns,P6,o,rfl,rfl,hn,hx⟩:=comp;rw[mq,cT] at hn;have hm:=h.most;have hc:(ns.map D.int).length<=capS:=by rw[aF,hn];exact bj (by omega)
  refine⟨ns,P6,?_,hn,hx⟩;generalize ns.map D.int=nn at *;simp only[hD] at *;simp[qj,acq,e6,hc]
 ·rintro j d ys ρ hd ⟨ns,P6,o,rfl,rfl,hn,hx⟩
  obtain⟨r7,P7,e7,r7a,r7b⟩:=o9 P6 6 (by decide) (by decide)
  have hv:∃v:Int,(if r7 - 2 > 0 then r7 - 2 else 0)=v/\0<=v/\v<=3:=⟨_,rfl,by split <;> omega,by split <;> omega⟩
  obtain⟨v,hv,v0,v1⟩:=hv;refine⟨[.val d,.own (some 1) (pen P6),.val (.int 3)],_,true,by simp,rfl,.inr ⟨rfl,.int v,[.val d,.own (some 1) (pen P7),.val (.int 3)],by rw[<-hv];simp[ye,e7],ns++[v],P7,_,rfl,by simp,by simp[hn],fun w hw =>?_⟩⟩
  rcases cO.mp hw with q | q
  ·exact hx w q
  ·rw[cV] at q;omega
theorem ass(me:M D)(hme:∀ρ,me ρ=some (.ok (.int 0),ρ))(l:List D):compD (bu 0) (ret true) me l [] [.emp]=some (.ok ((aD l.length (0:Int)).map D.int),abo .emp l::[]):=by
 rw[aap (f:=fun _=>.int 0)]
 ·rw[cU,lM,List.map_const']
 ·intro d _;exact hme _
def told(qv:LL9)(as S:List Int):D:=.tup [.tup ((gts qv as S).map D.int),.tup ((go qv as S).map D.int),.tup ((tal qv.length S).map D.int)]
theorem ao9{qv:LL9}(h:Hs qv){as:List Int}(ha:Arr qv as){ws S:List Int}(hop:aau qv=[])(hW:Wk qv.length ws)(w3:∀w∈ws,0<=w/\w<=3){B:Nat}(hmost:∀s,Lg qv as (wf ws) s->s.length<=B)(hB:B < 100000)(lS:Lg qv as (wf ws) S)(sS:Stb qv as (wf ws) S)(P:Int×Int)(a0 a1 a8 a9 a10 a11 a12 a13 a14:Sl):∃(P':Int×Int) (q9 q10 q11 q12 q13 q14:Sl),
  amt [a0,a1,.own none (pen P),.val (hD qv),.val (.tup (as.map D.int)),.val (.tup (ws.map D.int)),.val (told qv as S),.val (.tup ((aD qv.length (0:Int)).map D.int)),a8,a9,a10,a11,a12,a13,a14] =
  some (.nx,[a0,a1,.own none (pen P'),.val (hD qv),.val (.tup (as.map D.int)),.val (.tup (ws.map D.int)),.val (told qv as S),.val (.tup ((aD qv.length (0:Int)).map D.int)),a8,q9,q10,q11,q12,q13,q14]):=by
 obtain⟨T,P1,X,Y,lT,sT,e1⟩:=ajx h ha hW hmost hB P;have hTl:=hmost _ lT;obtain⟨g1,g2,g3⟩:=azy h ha lS sS lT sT;have k1:=ahg h ha lT hW;rw[as6 sT] at k1;obtain⟨r,P2,e2,r0,r1⟩:=o9 P1 ((T.length:Int)+1) (by omega) (by omega)
 have eT:T=T.take r.toNat++T.drop r.toNat:=(nW ..).symm;have lp:Lg qv as (wf ws) (T.take r.toNat):=by
  rw[eT] at lT;exact lT.pre
 have nn:=lT.nn h _ _ eT;have k2:=ahg h ha lp hW;have hcut:cutD (T.map D.int) none (some r)=(T.take r.toNat).map D.int:=by
  rw[a76 r0 (by rw[aF];omega),pA]
 have ha2:=yt h _ ha lp.inR;have hW2:=azt nn h ha lp.inR hW.len w3;have lq:Lg qv (go qv as (T.take r.toNat)) (wf (stn qv as ws (T.take r.toNat))) (T.drop r.toNat):=awx nn (by rw[<-eT];exact lT)
 have sq:Stb qv (go qv as (T.take r.toNat)) (wf (stn qv as ws (T.take r.toNat))) (T.drop r.toNat):=ati nn (by rw[<-eT];exact sT)
 have k3:=rest_eq h ha2 hop hW2 (B:=B) (fun s hs=>by
  have:=hmost _ (axx nn lp hs);rw[bM] at this;omega) hB lq sq
 have eg:go qv (go qv as (T.take r.toNat)) (T.drop r.toNat)=go qv as S:=by rw[<-adq,<-eT,g2]
 obtain⟨q1,q2,ec⟩:=akk (gts qv as (T.take r.toNat)) (gts qv (go qv as (T.take r.toNat)) (T.drop r.toNat)) [] .emp .emp rfl;rw[cU,ax0,<-eT,<-g1] at ec;have ec:compD (bTup 2 (gk (bu 0) (gk (bu 1) bNil))) (ret true) am5 (sr ((gts qv as (T.take r.toNat)).map D.int) ((gts qv (go qv as (T.take r.toNat)) (T.drop r.toNat)).map D.int)) [] [.emp,.emp]=_:=ec;have tc:=as3 qv.length T;rw[<-g3] at tc;rw[<-g1,<-g2] at k1;rw[eg] at k3;have hm:=h.most;have hl:=mq qv;have hb':qv.length < 4611686018427387904:=by omega
 have q3:=aqz (go qv as S) (aD qv.length 0) (gts qv as S);have q4:gEq true (.tup ((tal qv.length S).map D.int)) (.tup ((tal qv.length S).map D.int))=some (.v (.bl false)):=by rw[aa1];simp
 have q5:gEq true (.tup ((go qv as S).map D.int)) (.tup ((go qv as S).map D.int))=some (.v (.bl false)):=by rw[aa1];simp
 have q6:gEq true (.tup ((gts qv as S).map D.int)) (.tup ((gts qv as S).map D.int))=some (.v (.bl false)):=by rw[aa1];simp
 have c1:((tal qv.length S).map D.int).length<=capS:=by rw[aF,su];exact bj (by omega)
 have c2:((gts qv as S).map D.int).length<=capS:=bj (show 3<=1000 by decide)
 have c3:((gts qv as (T.take r.toNat)).map D.int).length<=((gts qv (go qv as (T.take r.toNat)) (T.drop r.toNat)).map D.int).length:=aM 3;have hTm:(T.map D.int).length=T.length:=aF ..
 refine⟨P2,.val (.lst (T.map D.int)),.val (.int r),.val (.tup ((go qv as (T.take r.toNat)).map D.int)),.val (.tup ((stn qv as ws (T.take r.toNat)).map D.int)),.val (.tup ((gts qv as (T.take r.toNat)).map D.int)),.val (.tup [.tup ((gts qv (go qv as (T.take r.toNat)) (T.drop r.toNat)).map D.int),.tup ((go qv as S).map D.int),.tup ((tal qv.length (T.drop r.toNat)).map D.int)]),?_⟩;unfold told;generalize (gts qv (go qv as (T.take r.toNat)) (T.drop r.toNat)).map D.int=gb at *;generalize (tal qv.length (T.drop r.toNat)).map D.int=tb at *;generalize (stn qv as ws (T.take r.toNat)).map D.int=sp at *;generalize (go qv as (T.take r.toNat)).map D.int=ap at *;generalize (gts qv as (T.take r.toNat)).map D.int=gp at *;generalize (T.take r.toNat).map D.int=tk at *;generalize T.map D.int=tm at *;generalize (gts qv as S).map D.int=gm at *;generalize (go qv as S).map D.int=am at *;generalize (tal qv.length S).map D.int=tl at *;generalize (aD qv.length (0:Int)).map D.int=zz at *;generalize as.map D.int=la at *;generalize ws.map D.int=lw at *;simp only[hD] at *;simp[amt,e1,k1,a2q,a8b,ay8,q3,hl,hb',tc,c1,q4,hTm,e2,hcut,k2,k3,q5,c3,ec,c2,q6,-aF]
theorem a6u(S0:D)(n:Int)(a2 a3 a4 a5 a6 a7 a8 a9 a10 a11 a12 a13 a14:Sl):∃b2 b3 b4 b5 b6 b7 b8 b9 b10 b11 b12 b13 b14,l2_law [.val S0,.val (.int n),a2,a3,a4,a5,a6,a7,a8,a9,a10,a11,a12,a13,a14]=some (.nx,[.val S0,.val (.int n),b2,b3,b4,b5,b6,b7,b8,b9,b10,b11,b12,b13,b14]):=by
 obtain⟨P,e0⟩:=atm n;obtain⟨qv,P1,W,e1,h,hop,hW1,hw,hB⟩:=ao1 P;obtain⟨as,P2,e2,ha⟩:=al2 P1 h;obtain⟨ws,P3,e3,wl,w0⟩:=aix P2 h;have hm:=h.most;have hl:=mq qv;have hW:Wk qv.length ws:=⟨wl,fun w hw'=>by have:=w0 w hw';omega⟩
 obtain⟨S,lS,sS,hmost⟩:=most h hop hW1 hw ha (ws:=ws) (b:=3) fun w hw'=>(w0 w hw').2
 have hB3:3*qv.length*sx W qv.length < 100000:=by
  have:3*qv.length*sx W qv.length<=6*qv.length*sx W qv.length:=tZ _ (by omega)
  omega
 have k1:=rest_eq h ha hop hW hmost hB3 lS sS;have k2:=ag4 h ha hW lS sS;have k3:=aol h ha hop hW (su qv.length S) (al7 _ _) lS sS;rw[decide_eq_true rfl] at k3;have zc:compD (bu 0) (ret true) arh (hDs qv) [] [.emp]=_:=ass arh (fun ρ=>rfl) (hDs qv)
 rw[hl] at zc;have c4:((aD qv.length (0:Int)).map D.int).length<=capS:=by rw[aF,bY];exact bj (by omega)
 obtain⟨P4,q9,q10,q11,q12,q13,q14,t1⟩:=ao9 h ha hop hW w0 hmost hB3 lS sS P3 (.val S0) (.val (.int n)) (.val (.int 0)) a9 a10 a11 a12 a13 a14;obtain⟨P5,p9,p10,p11,p12,p13,p14,t2⟩:=ao9 h ha hop hW w0 hmost hB3 lS sS P4 (.val S0) (.val (.int n)) (.val (.int 1)) q9 q10 q11 q12 q13 q14;have t3:∀a8,forD (bu 8) amt [.int 0,.int 1] [.val S0,.val (.int n),.own none (pen P3),.val (hD qv),.val (.tup (as.map D.int)),.val (.tup (ws.map D.int)),.val (told qv as S),.val (.tup ((aD qv.length (0:Int)).map D.int)),a8,a9,a10,a11,a12,a13,a14] =
   some (.nx,[.val S0,.val (.int n),.own none (pen P5),.val (hD qv),.val (.tup (as.map D.int)),.val (.tup (ws.map D.int)),.val (told qv as S),.val (.tup ((aD qv.length (0:Int)).map D.int)),.val (.int 1),p9,p10,p11,p12,p13,p14]):=fun a8=>by
  generalize told qv as S=td at *;generalize (aD qv.length (0:Int)).map D.int=zz at *;generalize as.map D.int=la at *;generalize ws.map D.int=lw at *;generalize hD qv=hh at *;rw[vm];simp[t1,vm,t2]
 have r2:jy 0 2=[.int 0,.int 1]:=rfl;refine⟨.own none (pen P5),.val (hD qv),.val (.tup (as.map D.int)),.val (.tup (ws.map D.int)),.val (told qv as S),.val (.tup ((aD qv.length (0:Int)).map D.int)),.val (.int 1),p9,p10,p11,p12,p13,p14,?_⟩;unfold told at t3 ⊢
 generalize (gts qv as S).map D.int=gm at *;generalize (go qv as S).map D.int=am at *;generalize (tal qv.length S).map D.int=tl at *;generalize (aD qv.length (0:Int)).map D.int=zz at *;generalize as.map D.int=la at *;generalize ws.map D.int=lw at *;simp only[hD] at *;simp[l2_law,e0,e1,e2,e3,k1,zc,c4,k2,ay8,k3,r2,t3]
theorem a1b(S:D):∀(ns:List Int) (q a2 a3 a4 a5 a6 a7 a8 a9 a10 a11 a12 a13 a14:Sl),∃ρ,forD (bu 1) l2_law (ns.map D.int) [.val S,q,a2,a3,a4,a5,a6,a7,a8,a9,a10,a11,a12,a13,a14]=some (.nx,.val S::ρ)
 | [],q,a2,a3,a4,a5,a6,a7,a8,a9,a10,a11,a12,a13,a14=>⟨_,rfl⟩
 | n::r,q,a2,a3,a4,a5,a6,a7,a8,a9,a10,a11,a12,a13,a14=>by
  obtain⟨b2,b3,b4,b5,b6,b7,b8,b9,b10,b11,b12,b13,b14,z⟩:=a6u S n a2 a3 a4 a5 a6 a7 a8 a9 a10 a11 a12 a13 a14;obtain⟨ρ,z2⟩:=a1b S r (.val (.int n)) b2 b3 b4 b5 b6 b7 b8 b9 b10 b11 b12 b13 b14;exact⟨ρ,by rw[aU,vm];simp[z,z2]⟩
theorem at8:al4 aq6:=fun ns hn=>by
 obtain⟨n0,e0⟩:=aru ns 0 (by decide)
 obtain⟨ms,em,hm⟩:=arn ns (some 1) (some 3);have hc:1+ms.length<=capS:=bj (by omega)
 obtain⟨ρ,q⟩:=a1b (.kst (ns.map D.int)) (n0::ms) .emp .emp .emp .emp .emp .emp .emp .emp .emp .emp .emp .emp .emp .emp;simp only[aU] at q;simp[aq6,a1s,e0,em,hc,q]
end My
set_option maxHeartbeats 0
namespace My
open PySem L2 Mn Dn
noncomputable def top(i:Nat):Stmt:=PySem.Challenge.pw_turnarrows_k21_whole_whatever_the_order.main.body.getD i (.Pass ⟨0,0,0,0⟩)
abbrev wj:Stmt:=top 7
theorem ak4:FnScope ["thing"] ["thing"] (aj wj):=mkSc rfl rfl rfl rfl (by decide +kernel)
abbrev j5:Stmt:=top 8
theorem adb:FnScope ["thing","least","most"] ["thing","least","most"] (aj j5):=mkSc rfl rfl rfl rfl (by decide +kernel)
abbrev j6:Stmt:=top 9
theorem adc:FnScope ["thing","least","most"] ["thing","least","most"] (aj j6):=mkSc rfl rfl rfl rfl (by decide +kernel)
abbrev km:Stmt:=top 12
theorem ad7:FnScope ["house","thing"] ["house","thing"] (aj km):=mkSc rfl rfl rfl rfl (by decide +kernel)
abbrev aha:Stmt:=top 13
theorem afq:FnScope ["house","staying","many"] ["house"] (aj aha):=mkSc rfl rfl rfl rfl (by decide +kernel)
abbrev jz:Stmt:=top 14
theorem yp:FnScope ["house","rooms"] ["house"] (aj jz):=mkSc rfl rfl rfl rfl (by decide +kernel)
abbrev ug:Stmt:=top 16
theorem aja:FnScope ["house","thing"] ["house","thing"] (aj ug):=mkSc rfl rfl rfl rfl (by decide +kernel)
abbrev jr:Stmt:=top 17
theorem acw:FnScope ["house","thing"] ["house","thing"] (aj jr):=mkSc rfl rfl rfl rfl (by decide +kernel)
abbrev ue:Stmt:=top 18
theorem ai8:FnScope ["house","arrows","turns"] ["house","arrows","turns"] (aj ue):=mkSc rfl rfl rfl rfl (by decide +kernel)
abbrev uf:Stmt:=top 19
theorem ai9:FnScope ["house","arrows"] ["house","arrows"] (aj uf):=mkSc rfl rfl rfl rfl (by decide +kernel)
abbrev p7:Stmt:=top 20
theorem qi:FnScope ["last","rooms","staying","many"] ["last","rooms"] (aj p7):=mkSc rfl rfl rfl rfl (by decide +kernel)
abbrev qw:Stmt:=top 23
theorem ahu:FnScope ["house","thing","most"] ["house","thing","most"] (aj qw):=mkSc rfl rfl rfl rfl (by decide +kernel)
abbrev jk:Stmt:=top 24
theorem acj:FnScope ["house","thing"] ["house","thing"] (aj jk):=mkSc rfl rfl rfl rfl (by decide +kernel)
abbrev zu:Stmt:=top 25
theorem ab2:FnScope ["doors_many","arrow","leavings","uses","door","behind"] ["doors_many","arrow","leavings"] (aj zu):=mkSc rfl rfl rfl rfl (by decide +kernel)
abbrev pq:Stmt:=top 26
theorem qg:FnScope ["house","arrows","leavings","told","doors","arrow","many"] ["house","arrows","leavings"] (aj pq):=mkSc rfl rfl rfl rfl (by decide +kernel)
abbrev zy:Stmt:=top 28
theorem ad6:FnScope ["house","arrows","walkers","crowd","room","crowd.turning","crowd.standing","crowd.gone","crowd.left"] ["house","arrows","walkers"] (aj zy):=mkSc rfl rfl rfl rfl (by decide +kernel)
abbrev j0:Stmt:=top 29
theorem ada:FnScope ["house","arrows","walkers"] ["house","arrows","walkers"] (aj j0):=mkSc rfl rfl rfl rfl (by decide +kernel)
abbrev ahb:Stmt:=top 30
theorem awp:FnScope ["house","arrows","walkers"] ["house","arrows","walkers"] (aj ahb):=mkSc rfl rfl rfl rfl (by decide +kernel)
abbrev z9:Stmt:=top 31
theorem ab3:FnScope ["house","arrows","walkers","rooms","crowd","at","room","crowd.turning","crowd.standing","crowd.gone","crowd.left"] ["house","arrows","walkers","rooms"] (aj z9):=mkSc rfl rfl rfl rfl (by decide +kernel)
abbrev qx:Stmt:=top 32
theorem ahv:FnScope ["house","arrows","leavings"] ["house","arrows","leavings"] (aj qx):=mkSc rfl rfl rfl rfl (by decide +kernel)
abbrev p6:Stmt:=top 33
theorem agx:FnScope ["house","thing"] ["house","thing"] (aj p6):=mkSc rfl rfl rfl rfl (by decide +kernel)
abbrev aab:Stmt:=top 34
theorem wg:FnScope ["house","uses","come","doors","times","door","many"] ["house","uses"] (aj aab):=mkSc rfl rfl rfl rfl (by decide +kernel)
abbrev aaa:Stmt:=top 35
theorem ad8:FnScope ["house","arrows","walkers","thing","come","last"] ["house","arrows","walkers","thing"] (aj aaa):=mkSc rfl rfl rfl rfl (by decide +kernel)
abbrev ur:Stmt:=top 37
theorem ajb:FnScope ["script","k"] ["script","k"] (aj ur):=mkSc rfl rfl rfl rfl (by decide +kernel)
abbrev wk:Stmt:=top 38
theorem afs:FnScope ["cell","left"] ["cell"] (aj wk):=mkSc rfl rfl rfl rfl (by decide +kernel)
abbrev uq:Stmt:=top 39
theorem vg:FnScope ["pen","many","left","found","stir"] ["pen","many"] (aj uq):=mkSc rfl rfl rfl rfl (by decide +kernel)
abbrev qz:Stmt:=top 40
theorem ph:FnScope ["pen","most","doors","many","gates","house","room","wide"] ["pen","most","doors"] (aj qz):=mkSc rfl rfl rfl rfl (by decide +kernel)
abbrev nj:Stmt:=top 41
theorem n6:FnScope ["house","room","found","at"] ["house","room"] (aj nj):=mkSc rfl rfl rfl rfl (by decide +kernel)
abbrev um:Stmt:=top 42
theorem yr:FnScope ["pen","most","doors","house","room","at"] ["pen","most","doors"] (aj um):=mkSc rfl rfl rfl rfl (by decide +kernel)
abbrev rm:Stmt:=top 43
theorem ahw:FnScope ["pen","house"] ["pen","house"] (aj rm):=mkSc rfl rfl rfl rfl (by decide +kernel)
abbrev ni:Stmt:=top 44
theorem afr:FnScope ["pen","house","most"] ["pen","house","most"] (aj ni):=mkSc rfl rfl rfl rfl (by decide +kernel)
abbrev uo:Stmt:=top 45
theorem aes:FnScope ["house","some","there","gates","room","door"] ["house","some","there","gates","room"] (aj uo):=mkSc rfl rfl rfl rfl (by decide +kernel)
abbrev uh:Stmt:=top 46
theorem abh:FnScope ["pen","most","doors"] ["pen"] (aj uh):=mkSc rfl rfl rfl rfl (by decide +kernel)
abbrev qy:Stmt:=top 47
theorem v6:FnScope ["pen","house","some","there","gates","rooms","full"] ["pen","house","some","there"] (aj qy):=mkSc rfl rfl rfl rfl (by decide +kernel)
abbrev jt:Stmt:=top 48
theorem ir:FnScope ["house","some","there","told","left","gates","room","row","door","many"] ["house","some","there","told"] (aj jt):=mkSc rfl rfl rfl rfl (by decide +kernel)
abbrev ahy:Stmt:=top 49
theorem yq:FnScope ["script","cell","pen","house","some","there","told","none","turn","rooms","at","here","left","gates","behind"] ["script"] (aj ahy):=mkSc rfl rfl rfl rfl (by decide +kernel)
abbrev rn:Stmt:=avx (top 27) 0
theorem ahx:FnScope ["self","house","arrows","walkers"] ["self","house","arrows","walkers"] (aj rn):=mkSc rfl rfl rfl rfl (by decide +kernel)
abbrev j7:Stmt:=avx (top 27) 1
theorem lg:FnScope ["self","room","many","self.turning","self.standing","self.gone","self.left","doors","uses","door","times"] ["self","room","many"] (aj j7):=mkSc rfl rfl rfl rfl (by decide +kernel)
theorem lnS{k:Nat}{us:List Value}(h:us.length=k+1):∃a r,us=a::r/\r.length=k:=by
 cases us with
 | nil=>cases h
 | cons a r=>exact⟨a,r,rfl,Nat.succ.inj h⟩
theorem ln1{us:List Value}(h:us.length=1):∃a0,us=[a0]:=by
 obtain⟨a,r,rfl,h'⟩:=lnS h;cases qH h';exact⟨a,rfl⟩
theorem ln2{us:List Value}(h:us.length=2):∃a0 a1,us=[a0,a1]:=by
 obtain⟨a,r,rfl,h'⟩:=lnS h;obtain⟨_,rfl⟩:=ln1 h';exact⟨_,_,rfl⟩
theorem ln3{us:List Value}(h:us.length=3):∃a0 a1 a2,us=[a0,a1,a2]:=by
 obtain⟨a,r,rfl,h'⟩:=lnS h;obtain⟨_,_,rfl⟩:=ln2 h';exact⟨_,_,_,rfl⟩
theorem ln4{us:List Value}(h:us.length=4):∃a0 a1 a2 a3,us=[a0,a1,a2,a3]:=by
 obtain⟨a,r,rfl,h'⟩:=lnS h;obtain⟨_,_,_,rfl⟩:=ln3 h';exact⟨_,_,_,_,rfl⟩
theorem ln5{us:List Value}(h:us.length=5):∃a0 a1 a2 a3 a4,us=[a0,a1,a2,a3,a4]:=by
 obtain⟨a,r,rfl,h'⟩:=lnS h;obtain⟨_,_,_,_,rfl⟩:=ln4 h';exact⟨_,_,_,_,_,rfl⟩
structure Txt (K:Fg9) (mg:Str->Option Value):Prop where
 c_GATES_MANY:∃t,mg "GATES_MANY" = some (.int 3 t)
 c_MOST_WALKERS:∃t,mg "MOST_WALKERS" = some (.int 100 t)
 z_all:mg "all" = none
 z_any:mg "any" = none
 z_bool:mg "bool" = none
 z_divmod:mg "divmod" = none
 z_enumerate:mg "enumerate" = none
 z_int:mg "int" = none
 z_isinstance:mg "isinstance" = none
 z_len:mg "len" = none
 z_list:mg "list" = none
 z_max:mg "max" = none
 z_min:mg "min" = none
 z_range:mg "range" = none
 z_set:mg "set" = none
 z_sorted:mg "sorted" = none
 z_sum:mg "sum" = none
 z_tuple:mg "tuple" = none
 z_zip:mg "zip" = none
 f_Crowd_house:FldT K "Crowd" "house"
 f_Crowd_turning:FldT K "Crowd" "turning"
 f_Crowd_standing:FldT K "Crowd" "standing"
 f_Crowd_gone:FldT K "Crowd" "gone"
 f_Crowd_left:FldT K "Crowd" "left"
abbrev Dd0(P:aZ)(w:World)(K:Fg9)(mg:Str->Option Value)(base:Heap):Prop:=Dfn P w K mg base "is_whole" ["thing"] 1 (spOf K 1 wz)
abbrev Dd1(P:aZ)(w:World)(K:Fg9)(mg:Str->Option Value)(base:Heap):Prop:=Dfn P w K mg base "is_whole_within" ["thing","least","most"] 2 (spOf K 3 jm)
abbrev Dd4(P:aZ)(w:World)(K:Fg9)(mg:Str->Option Value)(base:Heap):Prop:=Dfn P w K mg base "trap" ["house"] 1 (spOf K 1 aj6)
abbrev Dd2(P:aZ)(w:World)(K:Fg9)(mg:Str->Option Value)(base:Heap):Prop:=Dfn P w K mg base "is_tuple_within" ["thing","least","most"] 1 (spOf K 3 gf)
abbrev Dd6(P:aZ)(w:World)(K:Fg9)(mg:Str->Option Value)(base:Heap):Prop:=Dfn P w K mg base "is_arrows" ["house","thing"] 3 (spOf K 2 xu)
abbrev Dd11(P:aZ)(w:World)(K:Fg9)(mg:Str->Option Value)(base:Heap):Prop:=Dfn P w K mg base "is_walkers" ["house","thing","most"] 3 (spOf K 3 vo)
abbrev Dd13(P:aZ)(w:World)(K:Fg9)(mg:Str->Option Value)(base:Heap):Prop:=Dfn P w K mg base "uses_of" ["doors_many","arrow","leavings"] 1 (spOf K 3 aal)
abbrev Dd7(P:aZ)(w:World)(K:Fg9)(mg:Str->Option Value)(base:Heap):Prop:=Dfn P w K mg base "refuse_no_arrows" ["house","thing"] 4 (spOf K 2 ig)
abbrev Dd12(P:aZ)(w:World)(K:Fg9)(mg:Str->Option Value)(base:Heap):Prop:=Dfn P w K mg base "refuse_no_walkers" ["house","thing"] 4 (spOf K 2 kh)
abbrev Dd16(P:aZ)(w:World)(K:Fg9)(mg:Str->Option Value)(base:Heap):Prop:=Dfn P w K mg base "refuse_no_crowd" ["house","arrows","walkers"] 5 (spOf K 3 jl)
abbrev Dd5(P:aZ)(w:World)(K:Fg9)(mg:Str->Option Value)(base:Heap):Prop:=Dfn P w K mg base "refuse_not_open" ["house"] 2 (spOf K 1 jc)
abbrev Dd15(P:aZ)(w:World)(K:Fg9)(mg:Str->Option Value)(base:Heap):Prop:=Dfn P w K mg base "rest_of" ["house","arrows","walkers"] 3 (spOf K 3 abq)
abbrev Dd3(P:aZ)(w:World)(K:Fg9)(mg:Str->Option Value)(base:Heap):Prop:=Dfn P w K mg base "is_room_number" ["house","thing"] 3 (spOf K 2 m9)
abbrev Dd14(P:aZ)(w:World)(K:Fg9)(mg:Str->Option Value)(base:Heap):Prop:=Dfn P w K mg base "uses_of_all" ["house","arrows","leavings"] 2 (spOf K 3 qb)
abbrev Dd20(P:aZ)(w:World)(K:Fg9)(mg:Str->Option Value)(base:Heap):Prop:=Dfn P w K mg base "is_leavings" ["house","thing"] 2 (spOf K 2 tu)
abbrev Dd21(P:aZ)(w:World)(K:Fg9)(mg:Str->Option Value)(base:Heap):Prop:=Dfn P w K mg base "come_by" ["house","uses"] 1 (spOf K 2 abr)
abbrev Dd8(P:aZ)(w:World)(K:Fg9)(mg:Str->Option Value)(base:Heap):Prop:=Dfn P w K mg base "turned_by" ["house","arrows","turns"] 1 (spOf K 3 xq)
abbrev Dd9(P:aZ)(w:World)(K:Fg9)(mg:Str->Option Value)(base:Heap):Prop:=Dfn P w K mg base "last_ways" ["house","arrows"] 1 (spOf K 2 xr)
abbrev Dd10(P:aZ)(w:World)(K:Fg9)(mg:Str->Option Value)(base:Heap):Prop:=Dfn P w K mg base "going_round" ["last","rooms"] 1 (spOf K 2 t7)
abbrev Dd25(P:aZ)(w:World)(K:Fg9)(mg:Str->Option Value)(base:Heap):Prop:=Dfn P w K mg base "_law_draw" ["pen","many"] 1 (spOf K 2 f__law_draw)
abbrev Dd26(P:aZ)(w:World)(K:Fg9)(mg:Str->Option Value)(base:Heap):Prop:=Dfn P w K mg base "_law_house" ["pen","most","doors"] 2 (spOf K 3 f__law_house)
abbrev Dd27(P:aZ)(w:World)(K:Fg9)(mg:Str->Option Value)(base:Heap):Prop:=Dfn P w K mg base "_law_reached" ["house","room"] 1 (spOf K 2 ql)
abbrev Dd28(P:aZ)(w:World)(K:Fg9)(mg:Str->Option Value)(base:Heap):Prop:=Dfn P w K mg base "_law_open" ["pen","most","doors"] 3 (spOf K 3 f__law_open)
abbrev Dd31(P:aZ)(w:World)(K:Fg9)(mg:Str->Option Value)(base:Heap):Prop:=Dfn P w K mg base "_law_left" ["house","some","there","gates","room"] 1 (spOf K 5 ux)
abbrev Dd19(P:aZ)(w:World)(K:Fg9)(mg:Str->Option Value)(base:Heap):Prop:=Dfn P w K mg base "doors_used" ["house","arrows","leavings"] 5 (spOf K 3 vp)
abbrev Dd23(P:aZ)(w:World)(K:Fg9)(mg:Str->Option Value)(base:Heap):Prop:=Dfn P w K mg base "_law_cell" ["script","k"] 1 (spOf K 2 f__law_cell)
abbrev Dd24(P:aZ)(w:World)(K:Fg9)(mg:Str->Option Value)(base:Heap):Prop:=Dfn P w K mg base "_law_pen" ["cell"] 1 (spOf K 1 f__law_pen)
abbrev Dd32(P:aZ)(w:World)(K:Fg9)(mg:Str->Option Value)(base:Heap):Prop:=Dfn P w K mg base "_law_wide" ["pen"] 4 (spOf K 1 f__law_wide)
abbrev Dd29(P:aZ)(w:World)(K:Fg9)(mg:Str->Option Value)(base:Heap):Prop:=Dfn P w K mg base "_law_drawn" ["pen","house"] 2 (spOf K 2 f__law_drawn)
abbrev Dd30(P:aZ)(w:World)(K:Fg9)(mg:Str->Option Value)(base:Heap):Prop:=Dfn P w K mg base "_law_walkers" ["pen","house","most"] 2 (spOf K 3 qj)
abbrev Dd17(P:aZ)(w:World)(K:Fg9)(mg:Str->Option Value)(base:Heap):Prop:=Dfn P w K mg base "rest" ["house","arrows","walkers"] 6 (spOf K 3 ahj)
abbrev Dd34(P:aZ)(w:World)(K:Fg9)(mg:Str->Option Value)(base:Heap):Prop:=Dfn P w K mg base "_law_doors_right" ["house","some","there","told"] 6 (spOf K 4 lu)
abbrev Dd22(P:aZ)(w:World)(K:Fg9)(mg:Str->Option Value)(base:Heap):Prop:=Dfn P w K mg base "is_rest" ["house","arrows","walkers","thing"] 6 (spOf K 4 aan)
abbrev Dd33(P:aZ)(w:World)(K:Fg9)(mg:Str->Option Value)(base:Heap):Prop:=Dfn P w K mg base "_law_order" ["pen","house","some","there"] 2 (spOf K 4 vq)
abbrev Dd18(P:aZ)(w:World)(K:Fg9)(mg:Str->Option Value)(base:Heap):Prop:=Dfn P w K mg base "left_by" ["house","arrows","walkers","rooms"] 6 (spOf K 4 aam)
section
variable{P:aZ}{w:World}{K:Fg9}{mg:Str->Option Value}{base:Heap}{f:Addr}{fd:fM}
theorem ak8(F:Fun K "is_whole" "is_whole" wj f fd)(T:Txt K mg):FnOk P w K mg base CX0 1 f fd ["thing"] (spOf K 1 wz) :=
 jn F ak4 rfl rfl fun cdv A outer s H E hr =>
  (az (ik (EV.toR (ahk (aq8 (t:=.int) (aw5 (by rfl) T.z_int av3) (by rfl) T.z_isinstance aba (gn (pv 0))) (aj7 (a2d (aq8 (t:=.bool) (aw5 (by rfl) T.z_bool ay4) (by rfl) T.z_isinstance aba (gn (pv 0)))))))))
theorem adk(F:Fun K "is_whole_within" "is_whole_within" j5 f fd)(T:Txt K mg)(d0:Dd0 P w K mg base):FnOk P w K mg base CX0 2 f fd ["thing","least","most"] (spOf K 3 jm) :=
 jn F adb rfl rfl fun cdv A outer s H E hr =>
  (az (ik (EV.toR (ahk (ER.toD (jg d0 (hr.mono (by decide)) (by rfl) (eg_n (pv 0) dq))) (aj7 (am3 atr atr (aq (pv 1)) (aq (pv 0)) (aq (pv 2))))))))
theorem adl(F:Fun K "is_tuple_within" "is_tuple_within" j6 f fd)(T:Txt K mg):FnOk P w K mg base CX0 1 f fd ["thing","least","most"] (spOf K 3 gf) :=
 jn F adc rfl rfl fun cdv A outer s H E hr =>
  (az (ik (EV.toR (ahk (aq8 (t:=.tuple) (aw5 (by rfl) T.z_tuple jj) (by rfl) T.z_isinstance aba (gn (pv 0))) (aj7 (am3 atr atr (aq (pv 1)) (ER.toD (bz ju (by rfl) T.z_len jw (ea_n (pv 0) cg))) (aq (pv 2))))))))
theorem aec(F:Fun K "is_room_number" "is_room_number" km f fd)(T:Txt K mg)(d1:Dd1 P w K mg base):FnOk P w K mg base CX0 3 f fd ["house","thing"] (spOf K 2 m9) :=
 jn F ad7 rfl rfl fun cdv A outer s H E hr =>
  (az (ik (jg d1 (hr.mono (by decide)) (by rfl) (eg_v (aq (pv 1)) (eg_v au (eg_v (ER.toD (dj nq (e2_v (ER.toD (bz ju (by rfl) T.z_len jw (ea_n (pv 0) cg))) (EV.toB au)))) dq))))))
theorem axj(F:Fun K "trap" "trap" aha f fd)(T:Txt K mg):FnOk P w K mg base CX0 1 f fd ["house"] (spOf K 1 aj6) :=
 jn F afq rfl rfl fun cdv A outer s H E hr =>
  (ak (iu (i:=1) afq.nd rfl (nP rfl) (aka rfl (by rfl) T.z_list (by rfl) T.z_range (ao (ER.toD (bz ju (by rfl) T.z_len jw (ea_n (pv 0) cg))) f9))) (ak (iu (i:=2) afq.nd rfl (bR rfl) (dj jq (e2_v (ER.toD (bz ju (by rfl) T.z_len jw (ea_n (pv 1) cg))) (EV.toB au)))) (ak (ac8 fuel cL (oh amf (e2_v (ER.toD (bz ju (by rfl) T.z_len jw (ea_n (pv 1) cg))) (gn (pv 2))) (my _)) (ak (iu (i:=2) afq.nd rfl (bR rfl) (bz ju (by rfl) T.z_len jw (ea_n (pv 1) cg))) (az (iu (i:=1) afq.nd rfl (nP rfl) (ou ["staying","house"] ["room","staying","house"] [none,some 1,some 0] rfl (aco (aq (pv 1))) (fun _ _ _=>(cj (i:=0) (show(["room","staying","house"]:List Str).Nodup by decide +kernel) rfl (bR rfl))) (fun _ _ _=>(agm (abg (ER.toD (bz (akc rfl) (by rfl) T.z_all akj (ea_v (ER.toD (ou ["staying"] ["door","staying"] [none,some 1] rfl (aco (ER.toD (kj (e2_n (pv 2) (gn (pv 0))) (fun _ _=>by rfl)))) (fun _ _ _=>(cj (i:=0) (show(["door","staying"]:List Str).Nodup by decide +kernel) rfl (bR rfl))) (fun _ _ _=>uy) (fun _ _ _=>(ER.toD (ae5 (avj hr.units) (e2_n (pv 0) (gn (pv 1))) (by with_unfolding_all rfl)))))) cg)))))) (fun _ _ _=>(aq (pv 0)))))))) (az (ik (fj jo (by rfl) T.z_tuple jj (ea_n (pv 1) cg)))))))
theorem adh(F:Fun K "refuse_not_open" "refuse_not_open" jz f fd)(T:Txt K mg)(d4:Dd4 P w K mg base):FnOk P w K mg base CX0 2 f fd ["house"] (spOf K 1 jc) :=
 jn F yp rfl rfl fun cdv A outer s H E hr =>
  (ak (iu (i:=1) yp.nd rfl (bR rfl) (jg d4 (hr.mono (by decide)) (by rfl) (eg_n (pv 0) dq))) (az (yl (oh (ajg hr.units) (e2_n (pv 1) (EV.toB (aao f9))) (my _)) (az ae8) m5)))
theorem ajj(F:Fun K "is_arrows" "is_arrows" ug f fd)(T:Txt K mg)(d2:Dd2 P w K mg base)(d1:Dd1 P w K mg base):FnOk P w K mg base CX0 3 f fd ["house","thing"] (spOf K 2 xu) :=
 jn F aja rfl rfl fun cdv A outer s H E hr =>
  (ak (yl (acs (abg (ER.toD (jg d2 (hr.mono (by decide)) (by rfl) (eg_n (pv 1) (eg_v (ER.toD (bz ju (by rfl) T.z_len jw (ea_n (pv 0) cg))) (eg_v (ER.toD (bz ju (by rfl) T.z_len jw (ea_n (pv 0) cg))) dq))))))) (az (ik (EV.toR ag2))) m5) (az (ik (bz (akc rfl) (by rfl) T.z_all akj (ea_v (ER.toD (ou [] ["arrow","doors"] [none,none] rfl (abp (by rfl) T.z_zip (ao (aq (pv 1)) (ao (aq (pv 0)) f9))) (fun _ _ _=>(vz rfl (dw (cj (i:=0) (show(["arrow","doors"]:List Str).Nodup by decide +kernel) rfl (bR rfl)) (dw (cj (i:=1) (show(["arrow","doors"]:List Str).Nodup by decide +kernel) rfl (bR rfl)) qe)))) (fun _ _ _=>uy) (fun _ _ _=>(ER.toD (jg d1 (hr.mono (by decide)) (by rfl) (eg_n (pv 0) (eg_v au (eg_v (ER.toD (dj nq (e2_v (ER.toD (bz ju (by rfl) T.z_len jw (ea_n (pv 1) cg))) (EV.toB au)))) dq)))))))) cg)))))
theorem acx(F:Fun K "refuse_no_arrows" "refuse_no_arrows" jr f fd)(T:Txt K mg)(d6:Dd6 P w K mg base):FnOk P w K mg base CX0 4 f fd ["house","thing"] (spOf K 2 ig) :=
 jn F acw rfl rfl fun cdv A outer s H E hr =>
  (az (yl (acs (abg (ER.toD (jg d6 (hr.mono (by decide)) (by rfl) (eg_v (aq (pv 0)) (eg_v (aq (pv 1)) dq)))))) (az ae8) m5))
theorem ajh(F:Fun K "turned_by" "turned_by" ue f fd)(T:Txt K mg):FnOk P w K mg base CX0 1 f fd ["house","arrows","turns"] (spOf K 3 xq) :=
 jn F ai8 rfl rfl fun cdv A outer s H E hr =>
  (az (ik (fj jo (by rfl) T.z_tuple jj (ea_v (ER.toD (ou [] ["arrow","turn","doors"] [none,none,none] rfl (alj (by rfl) T.z_zip (ao (aq (pv 1)) (ao (aq (pv 2)) (ao (aq (pv 0)) f9)))) (fun _ _ _=>(vz rfl (dw (cj (i:=0) (show(["arrow","turn","doors"]:List Str).Nodup by decide +kernel) rfl (bR rfl)) (dw (cj (i:=1) (show(["arrow","turn","doors"]:List Str).Nodup by decide +kernel) rfl (bR rfl)) (dw (cj (i:=2) (show(["arrow","turn","doors"]:List Str).Nodup by decide +kernel) rfl (bR rfl)) qe))))) (fun _ _ _=>uy) (fun _ _ _=>(ER.toD (dj aax (e2_v (ER.toD (dj jq (e2_n (pv 0) (gn (pv 1))))) (EV.toB (ER.toD (bz ju (by rfl) T.z_len jw (ea_n (pv 2) cg)))))))))) cg))))
theorem aji(F:Fun K "last_ways" "last_ways" uf f fd)(T:Txt K mg):FnOk P w K mg base CX0 1 f fd ["house","arrows"] (spOf K 2 xr) :=
 jn F ai9 rfl rfl fun cdv A outer s H E hr =>
  (az (ik (fj jo (by rfl) T.z_tuple jj (ea_v (ER.toD (ou [] ["arrow","doors"] [none,none] rfl (abp (by rfl) T.z_zip (ao (aq (pv 1)) (ao (aq (pv 0)) f9))) (fun _ _ _=>(vz rfl (dw (cj (i:=0) (show(["arrow","doors"]:List Str).Nodup by decide +kernel) rfl (bR rfl)) (dw (cj (i:=1) (show(["arrow","doors"]:List Str).Nodup by decide +kernel) rfl (bR rfl)) qe)))) (fun _ _ _=>uy) (fun _ _ _=>(ER.toD (kj (e2_n (pv 1) (EV.toB (ER.toD (dj nq (e2_n (pv 0) (EV.toB au)))))) (fun _ _=>by rfl)))))) cg))))
theorem ag0(F:Fun K "going_round" "going_round" p7 f fd)(T:Txt K mg):FnOk P w K mg base CX0 1 f fd ["last","rooms"] (spOf K 2 t7) :=
 jn F qi rfl rfl fun cdv A outer s H E hr =>
  (ak (iu (i:=2) qi.nd rfl (nP rfl) (fj ac5 (by rfl) T.z_list aby (ea_n (pv 1) cg))) (ak (iu (i:=3) qi.nd rfl (bR rfl) (dj jq (e2_v (ER.toD (bz ju (by rfl) T.z_len jw (ea_n (pv 2) cg))) (EV.toB au)))) (ak (ac8 fuel cL (oh amf (e2_v (ER.toD (bz ju (by rfl) T.z_len jw (ea_n (pv 2) cg))) (gn (pv 3))) (my _)) (ak (iu (i:=3) qi.nd rfl (bR rfl) (bz ju (by rfl) T.z_len jw (ea_n (pv 2) cg))) (az (iu (i:=2) qi.nd rfl (nP rfl) (ou ["staying","last"] ["room","staying","last"] [none,some 2,some 0] rfl (aco (aq (pv 2))) (fun _ _ _=>(cj (i:=0) (show(["room","staying","last"]:List Str).Nodup by decide +kernel) rfl (bR rfl))) (fun _ _ _=>(agm (oh (avj hr.units) (e2_v (ER.toD (kj (e2_n (pv 2) (gn (pv 0))) (fun _ _=>by rfl))) (gn (pv 1))) (by with_unfolding_all rfl)))) (fun _ _ _=>(aq (pv 0)))))))) (az (ik (aen (pv 2)))))))
theorem ah5(F:Fun K "is_walkers" "is_walkers" qw f fd)(T:Txt K mg)(d2:Dd2 P w K mg base)(d1:Dd1 P w K mg base):FnOk P w K mg base CX0 3 f fd ["house","thing","most"] (spOf K 3 vo) :=
 jn F ahu rfl rfl fun cdv A outer s H E hr =>
  (ak (yl (acs (abg (ER.toD (jg d2 (hr.mono (by decide)) (by rfl) (eg_n (pv 1) (eg_v (ER.toD (bz ju (by rfl) T.z_len jw (ea_n (pv 0) cg))) (eg_v (ER.toD (bz ju (by rfl) T.z_len jw (ea_n (pv 0) cg))) dq))))))) (az (ik (EV.toR ag2))) m5) (az (ik (bz (akc rfl) (by rfl) T.z_all akj (ea_v (ER.toD (ou ["most"] ["many","most"] [none,some 2] rfl (aco (aq (pv 1))) (fun _ _ _=>(cj (i:=0) (show(["many","most"]:List Str).Nodup by decide +kernel) rfl (bR rfl))) (fun _ _ _=>uy) (fun _ _ _=>(ER.toD (jg d1 (hr.mono (by decide)) (by rfl) (eg_n (pv 0) (eg_v au (eg_n (pv 1) dq)))))))) cg)))))
theorem ack(F:Fun K "refuse_no_walkers" "refuse_no_walkers" jk f fd)(T:Txt K mg)(d11:Dd11 P w K mg base):FnOk P w K mg base CX0 4 f fd ["house","thing"] (spOf K 2 kh) :=
 jn F acj rfl rfl fun cdv A outer s H E hr =>
  (az (yl (acs (abg (ER.toD (jg d11 (hr.mono (by decide)) (by rfl) (eg_n (pv 0) (eg_v (aq (pv 1)) (eg_v (ev_c (a0l (by rfl) T.c_MOST_WALKERS) fun _=>.int _) dq))))))) (az ae8) m5))
theorem anx(F:Fun K "uses_of" "uses_of" zu f fd)(T:Txt K mg):FnOk P w K mg base CX0 1 f fd ["doors_many","arrow","leavings"] (spOf K 3 aal) :=
 jn F ab2 rfl rfl fun cdv A outer s H E hr =>
  (ak (iu (i:=3) ab2.nd rfl (bR rfl) (yc f9)) (ak (zr cL rfl (vh (by rfl) T.z_range (ao (aq (pv 0)) f9)) (cj (i:=4) ab2.nd rfl (bR rfl)) (ak (iu (i:=5) ab2.nd rfl (bR rfl) (dj aax (e2_v (ER.toD (dj nq (e2_n (pv 4) (gn (pv 1))))) (gn (pv 0))))) (az (qp (EV.toR (am1 ab6 jL PySem.F.type_list_append abl (pv 3) (ao (ER.toD (dj ap6 (e2_v (ER.toD (dj nq (e2_v (ER.toD (dj nq (e2_v (ER.toD (dj jq (e2_n (pv 2) (gn (pv 0))))) (EV.toB au)))) (gn (pv 5))))) (gn (pv 0))))) f9))))))) (az (ik (aen (pv 3))))))
theorem agy(F:Fun K "uses_of_all" "uses_of_all" pq f fd)(T:Txt K mg)(d13:Dd13 P w K mg base):FnOk P w K mg base CX0 2 f fd ["house","arrows","leavings"] (spOf K 3 qb) :=
 jn F qg rfl rfl fun cdv A outer s H E hr =>
  (ak (iu (i:=3) qg.nd rfl (bR rfl) (yc f9)) (ak (zr cL rfl (alj (by rfl) T.z_zip (ao (aq (pv 0)) (ao (aq (pv 1)) (ao (aq (pv 2)) f9)))) (vz rfl (dw (cj (i:=4) qg.nd rfl (bR rfl)) (dw (cj (i:=5) qg.nd rfl (bR rfl)) (dw (cj (i:=6) qg.nd rfl (bR rfl)) qe)))) (az (qp (EV.toR (am1 ab6 jL PySem.F.type_list_append abl (pv 3) (ao (ER.toD (fj jo (by rfl) T.z_tuple jj (ea_v (ER.toD (jg d13 (hr.mono (by decide)) (by rfl) (eg_v (ER.toD (bz ju (by rfl) T.z_len jw (ea_n (pv 4) cg))) (eg_n (pv 5) (eg_n (pv 6) dq))))) cg))) f9)))))) (az (ik (fj jo (by rfl) T.z_tuple jj (ea_n (pv 3) cg))))))
theorem adm(F:Fun K "let_leave" "Crowd.let_leave" j7 f fd)(T:Txt K mg)(d13:Dd13 P w K mg base):FnOk P w K mg base CX0 2 f fd ["self","room","many"] (spBx K 3 4 cz) :=
 a7k F lg rfl rfl (by decide) (by decide +kernel) fun cdv A outer s H E hr =>
  (ak (iu (i:=7) lg.nd rfl (bR rfl) (kj (e2_v (a7s T.f_Crowd_house (pv 0)) (gn (pv 1))) (fun _ _=>by rfl))) (ak (iu (i:=8) lg.nd rfl (bR rfl) (jg d13 (hr.mono (by decide)) (by rfl) (eg_v (ER.toD (bz ju (by rfl) T.z_len jw (ea_n (pv 7) cg))) (eg_v (ER.toD (kj (e2_f T.f_Crowd_turning (pv 0) (gn (pv 1))) (fun _ _=>by rfl))) (eg_n (pv 2) dq))))) (ak (awj T.f_Crowd_turning (ER.toD (dj aax (e2_v (ER.toD (dj jq (e2_v (ER.toD (kj (e2_f T.f_Crowd_turning (pv 0) (gn (pv 1))) (fun _ _=>by rfl))) (gn (pv 2))))) (EV.toB (ER.toD (bz ju (by rfl) T.z_len jw (ea_n (pv 7) cg))))))) (pv 0) (aq (pv 1))) (ak (ab1 T.f_Crowd_left (pv 0) (aq (pv 1)) (aq (pv 2)) amw) (ak (ab1 T.f_Crowd_standing (pv 0) (aq (pv 1)) (aq (pv 2)) a1p) (az (zr cL rfl (abp (by rfl) T.z_zip (ao (aq (pv 7)) (ao (aq (pv 8)) f9))) (vz rfl (dw (cj (i:=9) lg.nd rfl (bR rfl)) (dw (cj (i:=10) lg.nd rfl (bR rfl)) qe))) (az (yl (oh aev (e2_n (pv 9) (EV.toB au)) (my _)) (az (ab1 T.f_Crowd_standing (pv 0) (aq (pv 9)) (aq (pv 10)) amw)) (az (ab1 T.f_Crowd_gone (pv 0) (ER.toD (dj nq (e2_v (aj8 (aq (pv 9))) (EV.toB au)))) (aq (pv 10)) amw)))))))))))
theorem aia{C:Addr}(F:Fun K "__init__" "Crowd.__init__" rn f fd)(T:Txt K mg)(hC:nsIn K aP "Crowd" = some (some (.ref C))):FnOk P w K mg base CX0 1 f fd ["self","house","arrows","walkers"] (ak1 K 4 4 aa0 C) :=
 a2b F ahx rfl rfl (by decide) (by decide) fun cdv A outer s H E hr =>
  (afo (T.f_Crowd_house C hC).1 (T.f_Crowd_house C hC).2 (EV.toR (aq (pv 1))) (pv 0) (afo (T.f_Crowd_turning C hC).1 (T.f_Crowd_turning C hC).2 (fj ac5 (by rfl) T.z_list aby (ea_n (pv 2) cg)) (pv 0) (afo (T.f_Crowd_standing C hC).1 (T.f_Crowd_standing C hC).2 (fj ac5 (by rfl) T.z_list aby (ea_n (pv 3) cg)) (pv 0) (afo (T.f_Crowd_gone C hC).1 (T.f_Crowd_gone C hC).2 (dj aeb (e2_v (ER.toD (yc (ao au f9))) (EV.toB (ev_c (a0l (by rfl) T.c_GATES_MANY) fun _=>.int _)))) (pv 0) (afo (T.f_Crowd_left C hC).1 (T.f_Crowd_left C hC).2 (dj aeb (e2_v (ER.toD (yc (ao au f9))) (EV.toB (ER.toD (bz ju (by rfl) T.z_len jw (ea_n (pv 1) cg)))))) (pv 0) azw)))))
theorem anz(F:Fun K "rest_of" "rest_of" zy f fd)(T:Txt K mg)(m_Crowd_let_leave:DfnM P w K mg base "Crowd" "let_leave" ["self","room","many"] 2 (spBx K 3 4 cz))(n_Crowd:DfnI P w K mg base "Crowd" ["self","house","arrows","walkers"] 1 (ak1 K 4 4 aa0)):FnOk P w K mg base CX0 3 f fd ["house","arrows","walkers"] (spOf K 3 abq) :=
 jn F ad6 rfl rfl fun cdv A outer s H E hr =>
  (apf (i:=3) (gs:=[5,6,7,8]) n_Crowd (hr.mono (by decide)) (by rfl) ad6.nd rfl (bR rfl) (eg_n (pv 0) (eg_n (pv 1) (eg_n (pv 2) dq))) (ak (ac8 fuel cL (abg (ER.toD (bz (ay1 rfl) (by rfl) T.z_any a2m (ea_f T.f_Crowd_standing (pv 3) cg)))) (az (zr cL rfl (vh (by rfl) T.z_range (ao (ER.toD (bz ju (by rfl) T.z_len jw (ea_n (pv 0) cg))) f9)) (cj (i:=4) ad6.nd rfl (bR rfl)) (az (yl (oh amg (e2_v (ER.toD (kj (e2_f T.f_Crowd_standing (pv 3) (gn (pv 4))) (fun _ _=>by rfl))) (EV.toB au)) (my _)) (az (qp (aq9 m_Crowd_let_leave (hr.mono (by decide)) (pv 3) (eg_n (pv 4) (eg_v (ER.toD (kj (e2_f T.f_Crowd_standing (pv 3) (gn (pv 4))) (fun _ _=>by rfl))) dq))))) m5))))) (az (ik (EV.toR (aao (ao (ER.toD (fj jo (by rfl) T.z_tuple jj (ea_f T.f_Crowd_gone (pv 3) cg))) (ao (ER.toD (fj jo (by rfl) T.z_tuple jj (ea_f T.f_Crowd_turning (pv 3) cg))) (ao (ER.toD (fj jo (by rfl) T.z_tuple jj (ea_f T.f_Crowd_left (pv 3) cg))) f9)))))))) (a1r (by rfl)))
theorem adi(F:Fun K "refuse_no_crowd" "refuse_no_crowd" j0 f fd)(T:Txt K mg)(d7:Dd7 P w K mg base)(d12:Dd12 P w K mg base):FnOk P w K mg base CX0 5 f fd ["house","arrows","walkers"] (spOf K 3 jl) :=
 jn F ada rfl rfl fun cdv A outer s H E hr =>
  (ak (qp (jg d7 (hr.mono (by decide)) (by rfl) (eg_v (aq (pv 0)) (eg_v (aq (pv 1)) dq)))) (az (qp (jg d12 (hr.mono (by decide)) (by rfl) (eg_n (pv 0) (eg_v (aq (pv 2)) dq))))))
theorem axk(F:Fun K "rest" "rest" ahb f fd)(T:Txt K mg)(d16:Dd16 P w K mg base)(d5:Dd5 P w K mg base)(d15:Dd15 P w K mg base):FnOk P w K mg base CX0 6 f fd ["house","arrows","walkers"] (spOf K 3 ahj) :=
 jn F awp rfl rfl fun cdv A outer s H E hr =>
  (ak (qp (jg d16 (hr.mono (by decide)) (by rfl) (eg_v (aq (pv 0)) (eg_v (aq (pv 1)) (eg_v (aq (pv 2)) dq))))) (ak (qp (jg d5 (hr.mono (by decide)) (by rfl) (eg_n (pv 0) dq))) (az (ik (jg d15 (hr.mono (by decide)) (by rfl) (eg_n (pv 0) (eg_n (pv 1) (eg_n (pv 2) dq))))))))
theorem aoa(F:Fun K "left_by" "left_by" z9 f fd)(T:Txt K mg)(d3:Dd3 P w K mg base)(d16:Dd16 P w K mg base)(m_Crowd_let_leave:DfnM P w K mg base "Crowd" "let_leave" ["self","room","many"] 2 (spBx K 3 4 cz))(n_Crowd:DfnI P w K mg base "Crowd" ["self","house","arrows","walkers"] 1 (ak1 K 4 4 aa0)):FnOk P w K mg base CX0 6 f fd ["house","arrows","walkers","rooms"] (spOf K 4 aam) :=
 jn F ab3 rfl rfl fun cdv A outer s H E hr =>
  (ak (qp (jg d16 (hr.mono (by decide)) (by rfl) (eg_v (aq (pv 0)) (eg_v (aq (pv 1)) (eg_v (aq (pv 2)) dq))))) (apf (i:=4) (gs:=[7,8,9,10]) n_Crowd (hr.mono (by decide)) (by rfl) ab3.nd rfl (bR rfl) (eg_n (pv 0) (eg_n (pv 1) (eg_n (pv 2) dq))) (ak (zr cL rfl (aqn (by rfl) T.z_enumerate (ao (aq (pv 3)) f9)) (vz rfl (dw (cj (i:=5) ab3.nd rfl (bR rfl)) (dw (cj (i:=6) ab3.nd rfl (bR rfl)) qe))) (ak (yl (EW.pt (ayp (acs (abg (ER.toD (jg d3 (hr.mono (by decide)) (by rfl) (eg_n (pv 0) (eg_v (aq (pv 6)) dq)))))) (aq7 (oh (afv hr.units) (e2_v (ER.toD (kj (e2_f T.f_Crowd_standing (pv 4) (gn (pv 6))) (fun _ _=>by rfl))) (EV.toB au)) (my _))))) (az ae8) m5) (az (qp (aq9 m_Crowd_let_leave (hr.mono (by decide)) (pv 4) (eg_n (pv 6) (eg_v au dq))))))) (az (ik (EV.toR (aao (ao (ER.toD (fj jo (by rfl) T.z_tuple jj (ea_f T.f_Crowd_turning (pv 4) cg))) (ao (ER.toD (fj jo (by rfl) T.z_tuple jj (ea_f T.f_Crowd_standing (pv 4) cg))) (ao (ER.toD (fj jo (by rfl) T.z_tuple jj (ea_f T.f_Crowd_gone (pv 4) cg))) f9)))))))) (a1r (by rfl))))
theorem ah6(F:Fun K "doors_used" "doors_used" qx f fd)(T:Txt K mg)(d7:Dd7 P w K mg base)(d14:Dd14 P w K mg base):FnOk P w K mg base CX0 5 f fd ["house","arrows","leavings"] (spOf K 3 vp) :=
 jn F ahv rfl rfl fun cdv A outer s H E hr =>
  (ak (qp (jg d7 (hr.mono (by decide)) (by rfl) (eg_v (aq (pv 0)) (eg_v (aq (pv 1)) dq)))) (az (ik (jg d14 (hr.mono (by decide)) (by rfl) (eg_v (aq (pv 0)) (eg_v (aq (pv 1)) (eg_v (aq (pv 2)) dq)))))))
theorem agz(F:Fun K "is_leavings" "is_leavings" p6 f fd)(T:Txt K mg)(d2:Dd2 P w K mg base)(d0:Dd0 P w K mg base):FnOk P w K mg base CX0 2 f fd ["house","thing"] (spOf K 2 tu) :=
 jn F agx rfl rfl fun cdv A outer s H E hr =>
  (ak (yl (acs (abg (ER.toD (jg d2 (hr.mono (by decide)) (by rfl) (eg_n (pv 1) (eg_v (ER.toD (bz ju (by rfl) T.z_len jw (ea_n (pv 0) cg))) (eg_v (ER.toD (bz ju (by rfl) T.z_len jw (ea_n (pv 0) cg))) dq))))))) (az (ik (EV.toR ag2))) m5) (az (ik (bz (akc rfl) (by rfl) T.z_all akj (ea_v (ER.toD (ou [] ["many"] [none] rfl (aco (aq (pv 1))) (fun _ _ _=>(cj (i:=0) (show(["many"]:List Str).Nodup by decide +kernel) rfl (bR rfl))) (fun _ _ _=>uy) (fun _ _ _=>(ahk (ER.toD (jg d0 (hr.mono (by decide)) (by rfl) (eg_n (pv 0) dq))) (aj7 (ER.toD (ae5 aev (e2_n (pv 0) (EV.toB au)) (my _)))))))) cg)))))
theorem aoc(F:Fun K "come_by" "come_by" aab f fd)(T:Txt K mg):FnOk P w K mg base CX0 1 f fd ["house","uses"] (spOf K 2 abr) :=
 jn F wg rfl rfl fun cdv A outer s H E hr =>
  (ak (iu (i:=2) wg.nd rfl (bR rfl) (dj aeb (e2_v (ER.toD (yc (ao au f9))) (EV.toB (ER.toD (bz ju (by rfl) T.z_len jw (ea_n (pv 0) cg))))))) (ak (zr cL rfl (abp (by rfl) T.z_zip (ao (aq (pv 0)) (ao (aq (pv 1)) f9))) (vz rfl (dw (cj (i:=3) wg.nd rfl (bR rfl)) (dw (cj (i:=4) wg.nd rfl (bR rfl)) qe))) (az (zr cL rfl (abp (by rfl) T.z_zip (ao (aq (pv 3)) (ao (aq (pv 4)) f9))) (vz rfl (dw (cj (i:=5) wg.nd rfl (bR rfl)) (dw (cj (i:=6) wg.nd rfl (bR rfl)) qe))) (az (yl (oh aev (e2_n (pv 5) (EV.toB au)) (my _)) (az (apg (pv 2) (aq (pv 5)) (aq (pv 6)) amw)) m5))))) (az (ik (aen (pv 2))))))
theorem aob(F:Fun K "is_rest" "is_rest" aaa f fd)(T:Txt K mg)(d16:Dd16 P w K mg base)(d5:Dd5 P w K mg base)(d20:Dd20 P w K mg base)(d14:Dd14 P w K mg base)(d21:Dd21 P w K mg base)(d8:Dd8 P w K mg base)(d9:Dd9 P w K mg base)(d10:Dd10 P w K mg base):FnOk P w K mg base CX0 6 f fd ["house","arrows","walkers","thing"] (spOf K 4 aan) :=
 jn F ad8 rfl rfl fun cdv A outer s H E hr =>
  (ak (qp (jg d16 (hr.mono (by decide)) (by rfl) (eg_v (aq (pv 0)) (eg_v (aq (pv 1)) (eg_v (aq (pv 2)) dq))))) (ak (qp (jg d5 (hr.mono (by decide)) (by rfl) (eg_n (pv 0) dq))) (ak (yl (acs (abg (ER.toD (jg d20 (hr.mono (by decide)) (by rfl) (eg_n (pv 0) (eg_v (aq (pv 3)) dq)))))) (az (ik (EV.toR ag2))) m5) (ak (iu (i:=4) ad8.nd rfl (bR rfl) (jg d21 (hr.mono (by decide)) (by rfl) (eg_v (aq (pv 0)) (eg_v (ER.toD (jg d14 (hr.mono (by decide)) (by rfl) (eg_v (aq (pv 0)) (eg_v (aq (pv 1)) (eg_v (aq (pv 3)) dq))))) dq)))) (ak (yl (acs (abg (ER.toD (bz (akc rfl) (by rfl) T.z_all akj (ea_v (ER.toD (ou [] ["stood","by","many"] [none,none,none] rfl (alj (by rfl) T.z_zip (ao (aq (pv 2)) (ao (aq (pv 4)) (ao (aq (pv 3)) f9)))) (fun _ _ _=>(vz rfl (dw (cj (i:=0) (show(["stood","by","many"]:List Str).Nodup by decide +kernel) rfl (bR rfl)) (dw (cj (i:=1) (show(["stood","by","many"]:List Str).Nodup by decide +kernel) rfl (bR rfl)) (dw (cj (i:=2) (show(["stood","by","many"]:List Str).Nodup by decide +kernel) rfl (bR rfl)) qe))))) (fun _ _ _=>uy) (fun _ _ _=>(ER.toD (ae5 (afv hr.units) (e2_v (ER.toD (dj jq (e2_n (pv 0) (gn (pv 1))))) (gn (pv 2))) (my _)))))) cg))))) (az (ik (EV.toR ag2))) m5) (ak (iu (i:=5) ad8.nd rfl (bR rfl) (jg d9 (hr.mono (by decide)) (by rfl) (eg_v (aq (pv 0)) (eg_v (ER.toD (jg d8 (hr.mono (by decide)) (by rfl) (eg_v (aq (pv 0)) (eg_v (aq (pv 1)) (eg_v (aq (pv 3)) dq))))) dq)))) (az (ik (ae5 (afv hr.units) (e2_v (ER.toD (jg d10 (hr.mono (by decide)) (by rfl) (eg_n (pv 5) (eg_v (ER.toD (ou [] ["room","many"] [none,none] rfl (aqn (by rfl) T.z_enumerate (ao (aq (pv 3)) f9)) (fun _ _ _=>(vz rfl (dw (cj (i:=0) (show(["room","many"]:List Str).Nodup by decide +kernel) rfl (bR rfl)) (dw (cj (i:=1) (show(["room","many"]:List Str).Nodup by decide +kernel) rfl (bR rfl)) qe)))) (fun _ _ _=>(agm (oh amg (e2_n (pv 1) (EV.toB au)) (my _)))) (fun _ _ _=>(aq (pv 0))))) dq)))) (EV.toB (ER.toD (yc f9)))) (my _))))))))))
theorem ajo(F:Fun K "_law_cell" "_law_cell" ur f fd)(T:Txt K mg):FnOk P w K mg base CX0 1 f fd ["script","k"] (spOf K 2 f__law_cell) :=
 jn F ajb rfl rfl fun cdv A outer s H E hr =>
  (ak (yl (oh amf (e2_n (pv 1) (EV.toB (ER.toD (bz ju (by rfl) T.z_len jw (ea_n (pv 0) cg))))) (my _)) (az (ik (kj (e2_n (pv 0) (gn (pv 1))) (fun _ _=>by rfl)))) m5) (az (ik (EV.toR au))))
theorem ak9(F:Fun K "_law_pen" "_law_pen" wk f fd)(T:Txt K mg):FnOk P w K mg base CX0 1 f fd ["cell"] (spOf K 1 f__law_pen) :=
 jn F afs rfl rfl fun cdv A outer s H E hr =>
  (ak (iu (i:=1) afs.nd rfl (bR rfl) (bz (av0 rfl) (by rfl) T.z_max ar8 (ea_n (pv 0) (ea_v (ER.toD (dj nq (e2_v au (gn (pv 0))))) cg)))) (az (ik (yc (ao (aq (pv 1)) (ao (ER.toD (fj a2j (by rfl) T.z_int av3 (ea_v (ER.toD (ae5 aev (e2_n (pv 1) (EV.toB (ER.toD (dj axg (e2_v au (EV.toB au)))))) (my _))) cg))) f9))))))
theorem ajn(F:Fun K "_law_draw" "_law_draw" uq f fd)(T:Txt K mg):FnOk P w K mg base CX0 1 f fd ["pen","many"] (spOf K 2 f__law_draw) :=
 jn F vg rfl rfl fun cdv A outer s H E hr =>
  (ak (yl (oh (afv hr.units) (e2_v (ER.toD (kj (e2_n (pv 0) (EV.toB au)) (fun _ _=>by rfl))) (EV.toB au)) (my _)) (ak (aph (ER.toD (bz arw (by rfl) T.z_divmod ar9 (ea_v (ER.toD (kj (e2_n (pv 0) (EV.toB au)) (fun _ _=>by rfl))) (ea_n (pv 1) cg)))) (vz rfl (dw (cj (i:=2) vg.nd rfl (bR rfl)) (dw (cj (i:=3) vg.nd rfl (bR rfl)) qe)))) (ak (ac9 (aq (pv 2)) (pv 0) au) (az (ik (aen (pv 3)))))) m5) (ak (iu (i:=4) vg.nd rfl (bR rfl) (dj aax (e2_v (ER.toD (dj aeb (e2_v (ER.toD (dj jq (e2_v (ER.toD (dj aax (e2_v (ER.toD (kj (e2_n (pv 0) (EV.toB au)) (fun _ _=>by rfl))) (EV.toB au)))) (EV.toB au)))) (EV.toB au)))) (EV.toB au)))) (ak (iu (i:=4) vg.nd rfl (bR rfl) (dj aax (e2_v (ER.toD (dj jq (e2_v (ER.toD (dj aeb (e2_n (pv 4) (gn (pv 4))))) (EV.toB au)))) (EV.toB au)))) (ak (ac9 (ER.toD (dj aax (e2_v (ER.toD (dj jq (e2_v (ER.toD (dj aeb (e2_n (pv 4) (EV.toB au)))) (EV.toB au)))) (EV.toB au)))) (pv 0) au) (az (ik (dj aax (e2_v (ER.toD (dj ap6 (e2_v (ER.toD (kj (e2_n (pv 0) (EV.toB au)) (fun _ _=>by rfl))) (EV.toB au)))) (gn (pv 1))))))))))
theorem ah8(F:Fun K "_law_house" "_law_house" qz f fd)(T:Txt K mg)(d25:Dd25 P w K mg base):FnOk P w K mg base CX0 2 f fd ["pen","most","doors"] (spOf K 3 f__law_house) :=
 jn F ph rfl rfl fun cdv A outer s H E hr =>
  (ak (iu (i:=3) ph.nd rfl (nP rfl) (dj jq (e2_v au (EV.toB (ER.toD (jg d25 (hr.mono (by decide)) (by rfl) (eg_n (pv 0) (eg_n (pv 1) dq)))))))) (ak (iu (i:=4) ph.nd rfl (nP rfl) (kj (e2_v (ER.toD (yc (ao au (ao au (ao au (ao au f9)))))) (EV.toB (ER.toD (jg d25 (hr.mono (by decide)) (by rfl) (eg_n (pv 0) (eg_v au dq)))))) (fun _ _=>by rfl))) (ak (iu (i:=5) ph.nd rfl (bR rfl) (yc f9)) (ak (zr cL rfl (vh (by rfl) T.z_range (ao (aq (pv 3)) f9)) (cj (i:=6) ph.nd rfl (bR rfl)) (ak (iu (i:=7) ph.nd rfl (bR rfl) (dj jq (e2_v au (EV.toB (ER.toD (jg d25 (hr.mono (by decide)) (by rfl) (eg_n (pv 0) (eg_n (pv 2) dq)))))))) (az (qp (EV.toR (am1 ab6 jL PySem.F.type_list_append abl (pv 5) (ao (ER.toD (fj jo (by rfl) T.z_tuple jj (ea_v (ER.toD (ou ["pen","many","gates"] ["door","pen","many","gates"] [none,some 0,some 3,some 4] rfl (vh (by rfl) T.z_range (ao (aq (pv 7)) f9)) (fun _ _ _=>(cj (i:=0) (show(["door","pen","many","gates"]:List Str).Nodup by decide +kernel) rfl (bR rfl))) (fun _ _ _=>uy) (fun _ _ _=>(ER.toD (dj nq (e2_v (ER.toD (jg d25 (hr.mono (by decide)) (by rfl) (eg_n (pv 1) (eg_v (ER.toD (dj jq (e2_n (pv 2) (gn (pv 3))))) dq)))) (gn (pv 3)))))))) cg))) f9))))))) (az (ik (fj jo (by rfl) T.z_tuple jj (ea_n (pv 5) cg))))))))
theorem afx(F:Fun K "_law_reached" "_law_reached" nj f fd)(T:Txt K mg):FnOk P w K mg base CX0 1 f fd ["house","room"] (spOf K 2 ql) :=
 jn F n6 rfl rfl fun cdv A outer s H E hr =>
  (ak (iu (i:=2) n6.nd rfl (nP rfl) (yc (ao (aq (pv 1)) f9))) (ak (iu (i:=3) n6.nd rfl (bR rfl) (EV.toR au)) (ak (ac8 fuel cL (oh amf (e2_n (pv 3) (EV.toB (ER.toD (bz ju (by rfl) T.z_len jw (ea_n (pv 2) cg))))) (my _)) (ak (yl (oh aev (e2_v (ER.toD (kj (e2_n (pv 2) (gn (pv 3))) (fun _ _=>by rfl))) (EV.toB au)) (my _)) (az (iu (i:=2) n6.nd rfl (nP rfl) (dj jq (e2_n (pv 2) (EV.toB (ER.toD (ou ["found"] ["door","found"] [none,some 2] rfl (aco (ER.toD (aj9 rfl (by rfl) T.z_sorted ar7 (by rfl) T.z_set a2k (ea_v (ER.toD (kj (e2_n (pv 0) (EV.toB (ER.toD (kj (e2_n (pv 2) (gn (pv 3))) (fun _ _=>by rfl))))) (fun _ _=>by rfl))) cg)))) (fun _ _ _=>(cj (i:=0) (show(["door","found"]:List Str).Nodup by decide +kernel) rfl (bR rfl))) (fun _ _ _=>(agm (oh (ap5 hr.units) (e2_n (pv 0) (gn (pv 1))) (by with_unfolding_all rfl)))) (fun _ _ _=>(aq (pv 0)))))))))) m5) (az (iu (i:=3) n6.nd rfl (bR rfl) (dj jq (e2_n (pv 3) (EV.toB au))))))) (az (ik (aen (pv 2)))))))
theorem ajl(F:Fun K "_law_open" "_law_open" um f fd)(T:Txt K mg)(d26:Dd26 P w K mg base)(d27:Dd27 P w K mg base)(d25:Dd25 P w K mg base):FnOk P w K mg base CX0 3 f fd ["pen","most","doors"] (spOf K 3 f__law_open) :=
 jn F yr rfl rfl fun cdv A outer s H E hr =>
  (ak (iu (i:=3) yr.nd rfl (bR rfl) (fj ac5 (by rfl) T.z_list aby (ea_v (ER.toD (jg d26 (hr.mono (by decide)) (by rfl) (eg_n (pv 0) (eg_n (pv 1) (eg_n (pv 2) dq))))) cg))) (ak (zr cL rfl (vh (by rfl) T.z_range (ao (ER.toD (bz ju (by rfl) T.z_len jw (ea_n (pv 3) cg))) f9)) (cj (i:=4) yr.nd rfl (bR rfl)) (az (yl (oh aev (e2_v (ER.toD (bz (ayz rfl) (by rfl) T.z_min a2l (ea_v (ER.toD (jg d27 (hr.mono (by decide)) (by rfl) (eg_n (pv 3) (eg_v (aq (pv 4)) dq)))) cg))) (EV.toB au)) (my _)) (ak (iu (i:=5) yr.nd rfl (bR rfl) (jg d25 (hr.mono (by decide)) (by rfl) (eg_n (pv 0) (eg_v (ER.toD (bz ju (by rfl) T.z_len jw (ea_v (ER.toD (kj (e2_n (pv 3) (gn (pv 4))) (fun _ _=>by rfl))) cg))) dq)))) (az (ac9 (ER.toD (dj jq (e2_v (ER.toD (dj jq (e2_v (ER.toD (avv (ER.toD (kj (e2_n (pv 3) (gn (pv 4))) (fun _ _=>by rfl))) als (agj (aq (pv 5))))) (EV.toB (aao (ao (ER.toD (dj nq (e2_v (aj8 au) (EV.toB (ER.toD (jg d25 (hr.mono (by decide)) (by rfl) (eg_n (pv 0) (eg_v au dq)))))))) f9)))))) (EV.toB (ER.toD (avv (ER.toD (kj (e2_n (pv 3) (gn (pv 4))) (fun _ _=>by rfl))) (agj (ER.toD (dj jq (e2_n (pv 5) (EV.toB au))))) als)))))) (pv 3) (aq (pv 4))))) m5))) (az (ik (fj jo (by rfl) T.z_tuple jj (ea_n (pv 3) cg))))))
theorem ah9(F:Fun K "_law_drawn" "_law_drawn" rm f fd)(T:Txt K mg)(d25:Dd25 P w K mg base):FnOk P w K mg base CX0 2 f fd ["pen","house"] (spOf K 2 f__law_drawn) :=
 jn F ahw rfl rfl fun cdv A outer s H E hr =>
  (az (ik (fj jo (by rfl) T.z_tuple jj (ea_v (ER.toD (ou ["pen"] ["room","pen"] [none,some 0] rfl (aco (aq (pv 1))) (fun _ _ _=>(cj (i:=0) (show(["room","pen"]:List Str).Nodup by decide +kernel) rfl (bR rfl))) (fun _ _ _=>uy) (fun _ _ _=>(ER.toD (jg d25 (hr.mono (by decide)) (by rfl) (eg_n (pv 1) (eg_v (ER.toD (bz ju (by rfl) T.z_len jw (ea_n (pv 0) cg))) dq))))))) cg))))
theorem afw(F:Fun K "_law_walkers" "_law_walkers" ni f fd)(T:Txt K mg)(d25:Dd25 P w K mg base):FnOk P w K mg base CX0 2 f fd ["pen","house","most"] (spOf K 3 qj) :=
 jn F afr rfl rfl fun cdv A outer s H E hr =>
  (az (ik (fj jo (by rfl) T.z_tuple jj (ea_v (ER.toD (ou ["pen","most"] ["room","pen","most"] [none,some 0,some 2] rfl (aco (aq (pv 1))) (fun _ _ _=>(cj (i:=0) (show(["room","pen","most"]:List Str).Nodup by decide +kernel) rfl (bR rfl))) (fun _ _ _=>uy) (fun _ _ _=>(ER.toD (bz (av0 rfl) (by rfl) T.z_max ar8 (ea_v au (ea_v (ER.toD (dj nq (e2_v (ER.toD (jg d25 (hr.mono (by decide)) (by rfl) (eg_n (pv 1) (eg_v (ER.toD (dj jq (e2_n (pv 2) (EV.toB au)))) dq)))) (EV.toB au)))) cg))))))) cg))))
theorem ajm(F:Fun K "_law_left" "_law_left" uo f fd)(T:Txt K mg):FnOk P w K mg base CX0 1 f fd ["house","some","there","gates","room"] (spOf K 5 ux) :=
 jn F aes rfl rfl fun cdv A outer s H E hr =>
  (ak (iu (i:=5) aes.nd rfl (bR rfl) (kj (e2_v (ER.toD (kj (e2_n (pv 0) (gn (pv 4))) (fun _ _=>by rfl))) (EV.toB (ER.toD (kj (e2_n (pv 1) (gn (pv 4))) (fun _ _=>by rfl))))) (fun _ _=>by rfl))) (ak (ac9 (ER.toD (dj aax (e2_v (ER.toD (dj jq (e2_v (ER.toD (kj (e2_n (pv 1) (gn (pv 4))) (fun _ _=>by rfl))) (EV.toB au)))) (EV.toB (ER.toD (bz ju (by rfl) T.z_len jw (ea_v (ER.toD (kj (e2_n (pv 0) (gn (pv 4))) (fun _ _=>by rfl))) cg))))))) (pv 1) (aq (pv 4))) (ak (ac9 (ER.toD (dj nq (e2_v (ER.toD (kj (e2_n (pv 2) (gn (pv 4))) (fun _ _=>by rfl))) (EV.toB au)))) (pv 2) (aq (pv 4))) (az (yl (oh aev (e2_n (pv 5) (EV.toB au)) (my _)) (az (ac9 (ER.toD (dj jq (e2_v (ER.toD (kj (e2_n (pv 2) (gn (pv 5))) (fun _ _=>by rfl))) (EV.toB au)))) (pv 2) (aq (pv 5)))) (az (ac9 (ER.toD (dj jq (e2_v (ER.toD (kj (e2_n (pv 3) (EV.toB (ER.toD (dj nq (e2_v (ER.toD (dj nq (e2_v au (gn (pv 5))))) (EV.toB au)))))) (fun _ _=>by rfl))) (EV.toB au)))) (pv 3) (ER.toD (dj nq (e2_v (ER.toD (dj nq (e2_v au (gn (pv 5))))) (EV.toB au)))))))))))
theorem ajk(F:Fun K "_law_wide" "_law_wide" uh f fd)(T:Txt K mg)(d25:Dd25 P w K mg base)(d28:Dd28 P w K mg base):FnOk P w K mg base CX0 4 f fd ["pen"] (spOf K 1 f__law_wide) :=
 jn F abh rfl rfl fun cdv A outer s H E hr =>
  (ak (aph (ER.toD (kj (e2_v (ER.toD (yc (ao (aao (ao au (ao au f9))) (ao (aao (ao au (ao au f9))) (ao (aao (ao au (ao au f9))) (ao (aao (ao au (ao au f9))) (ao (aao (ao au (ao au f9))) (ao (aao (ao au (ao au f9))) (ao (aao (ao au (ao au f9))) (ao (aao (ao au (ao au f9))) f9)))))))))) (EV.toB (ER.toD (jg d25 (hr.mono (by decide)) (by rfl) (eg_n (pv 0) (eg_v au dq)))))) (fun _ _=>by rfl))) (vz rfl (dw (cj (i:=1) abh.nd rfl (bR rfl)) (dw (cj (i:=2) abh.nd rfl (bR rfl)) qe)))) (az (ik (jg d28 (hr.mono (by decide)) (by rfl) (eg_n (pv 0) (eg_n (pv 1) (eg_n (pv 2) dq)))))))
theorem ah7(F:Fun K "_law_order" "_law_order" qy f fd)(T:Txt K mg)(d25:Dd25 P w K mg base)(d31:Dd31 P w K mg base):FnOk P w K mg base CX0 2 f fd ["pen","house","some","there"] (spOf K 4 vq) :=
 jn F v6 rfl rfl fun cdv A outer s H E hr =>
  (ak (awl (i:=2) (j:=3) (k:=4) rfl v6.nd rfl rfl rfl (bR rfl) (nP rfl) (bR rfl) (fj ac5 (by rfl) T.z_list aby (ea_n (pv 2) cg)) (fj ac5 (by rfl) T.z_list aby (ea_n (pv 3) cg)) (yc (ao au (ao au (ao au f9))))) (ak (iu (i:=5) v6.nd rfl (bR rfl) (yc f9)) (ak (ac8 fuel cL (oh amg (e2_v (ER.toD (bz (ay0 rfl) (by rfl) T.z_max ar8 (ea_n (pv 3) cg))) (EV.toB au)) (my _)) (ak (awk (i:=6) ["there"] ["room","there"] [none,some 3] v6.nd rfl (bR rfl) rfl (vh (by rfl) T.z_range (ao (ER.toD (bz ju (by rfl) T.z_len jw (ea_n (pv 1) cg))) f9)) (fun _ _ _=>(cj (i:=0) (show(["room","there"]:List Str).Nodup by decide +kernel) rfl (bR rfl))) (fun _ _ _=>(agm (oh amg (e2_v (ER.toD (kj (e2_n (pv 1) (gn (pv 0))) (fun _ _=>by rfl))) (EV.toB au)) (my _)))) (fun _ _ _=>(aq (pv 0)))) (ak (qp (EV.toR (am1 ab6 jL PySem.F.type_list_append abl (pv 5) (ao (ER.toD (kj (e2_n (pv 6) (EV.toB (ER.toD (jg d25 (hr.mono (by decide)) (by rfl) (eg_n (pv 0) (eg_v (ER.toD (bz ju (by rfl) T.z_len jw (ea_n (pv 6) cg))) dq)))))) (fun _ _=>by rfl))) f9)))) (az (qp (jg d31 (hr.mono (by decide)) (by rfl) (eg_n (pv 1) (eg_n (pv 2) (eg_n (pv 3) (eg_n (pv 4) (eg_v (ER.toD (kj (e2_n (pv 5) (EV.toB (aj8 au))) (fun _ _=>by rfl))) dq))))))))))) (az (ik (aen (pv 5)))))))
theorem acy(F:Fun K "_law_doors_right" "_law_doors_right" jt f fd)(T:Txt K mg)(d19:Dd19 P w K mg base):FnOk P w K mg base CX0 6 f fd ["house","some","there","told"] (spOf K 4 lu) :=
 jn F ir rfl rfl fun cdv A outer s H E hr =>
  (ak (iu (i:=4) ir.nd rfl (bR rfl) (fj ac5 (by rfl) T.z_list aby (ea_n (pv 2) cg))) (ak (iu (i:=5) ir.nd rfl (bR rfl) (yc (ao au (ao au (ao au f9))))) (ak (zr cL rfl (abp (by rfl) T.z_zip (ao (aq (pv 0)) (ao (ER.toD (jg d19 (hr.mono (by decide)) (by rfl) (eg_v (aq (pv 0)) (eg_v (aq (pv 1)) (eg_v (ER.toD (kj (e2_n (pv 3) (EV.toB au)) (fun _ _=>by rfl))) dq))))) f9))) (vz rfl (dw (cj (i:=6) ir.nd rfl (bR rfl)) (dw (cj (i:=7) ir.nd rfl (bR rfl)) qe))) (az (zr cL rfl (abp (by rfl) T.z_zip (ao (aq (pv 6)) (ao (aq (pv 7)) f9))) (vz rfl (dw (cj (i:=8) ir.nd rfl (bR rfl)) (dw (cj (i:=9) ir.nd rfl (bR rfl)) qe))) (az (yl (oh aev (e2_n (pv 8) (EV.toB au)) (my _)) (az (ac9 (ER.toD (dj jq (e2_v (ER.toD (kj (e2_n (pv 4) (gn (pv 8))) (fun _ _=>by rfl))) (gn (pv 9))))) (pv 4) (aq (pv 8)))) (az (ac9 (ER.toD (dj jq (e2_v (ER.toD (kj (e2_n (pv 5) (EV.toB (ER.toD (dj nq (e2_v (aj8 au) (gn (pv 8))))))) (fun _ _=>by rfl))) (gn (pv 9))))) (pv 5) (ER.toD (dj nq (e2_v (aj8 au) (gn (pv 8)))))))))))) (az (ik (EV.toR (ahk (ER.toD (ae5 (afv hr.units) (e2_v (ER.toD (fj jo (by rfl) T.z_tuple jj (ea_n (pv 4) cg))) (EV.toB (ER.toD (kj (e2_n (pv 3) (EV.toB au)) (fun _ _=>by rfl))))) (my _))) (ahk (ER.toD (ae5 (afv hr.units) (e2_v (ER.toD (fj jo (by rfl) T.z_tuple jj (ea_n (pv 5) cg))) (EV.toB (ER.toD (kj (e2_n (pv 3) (EV.toB au)) (fun _ _=>by rfl))))) (my _))) (aj7 (ER.toD (ae5 (afv hr.units) (e2_v (ER.toD (bz (avz rfl) (by rfl) T.z_sum av2 (ea_n (pv 5) cg))) (EV.toB (ER.toD (bz (avz rfl) (by rfl) T.z_sum av2 (ea_n (pv 2) cg))))) (my _))))))))))))
theorem a0v(F:Fun K "law" "law" ahy f fd)(T:Txt K mg)(d23:Dd23 P w K mg base)(d24:Dd24 P w K mg base)(d32:Dd32 P w K mg base)(d29:Dd29 P w K mg base)(d30:Dd30 P w K mg base)(d17:Dd17 P w K mg base)(d34:Dd34 P w K mg base)(d22:Dd22 P w K mg base)(d33:Dd33 P w K mg base)(d18:Dd18 P w K mg base)(d25:Dd25 P w K mg base):FnOk P w K mg base CX0 7 f fd ["script"] (spOf K 1 aq6) :=
 jn F yq rfl rfl fun cdv A outer s H E hr =>
  (ak (zr cL rfl (aco (ER.toD (dj jq (e2_v (ER.toD (yc (ao (ER.toD (jg d23 (hr.mono (by decide)) (by rfl) (eg_n (pv 0) (eg_v au dq)))) f9))) (EV.toB (ER.toD (ara (pv 0) (agj au) (agj au)))))))) (cj (i:=1) yq.nd rfl (bR rfl)) (ak (iu (i:=2) yq.nd rfl (bR rfl) (jg d24 (hr.mono (by decide)) (by rfl) (eg_n (pv 1) dq))) (ak (iu (i:=3) yq.nd rfl (bR rfl) (jg d32 (hr.mono (by decide)) (by rfl) (eg_n (pv 2) dq))) (ak (azr (i:=4) (j:=5) rfl yq.nd rfl rfl (by decide) rfl rfl (ao (ER.toD (jg d29 (hr.mono (by decide)) (by rfl) (eg_n (pv 2) (eg_v (aq (pv 3)) dq)))) (ao (ER.toD (jg d30 (hr.mono (by decide)) (by rfl) (eg_n (pv 2) (eg_v (aq (pv 3)) (eg_v au dq))))) f9))) (ak (iu (i:=6) yq.nd rfl (bR rfl) (jg d17 (hr.mono (by decide)) (by rfl) (eg_v (aq (pv 3)) (eg_v (aq (pv 4)) (eg_v (aq (pv 5)) dq))))) (ak (iu (i:=7) yq.nd rfl (bR rfl) (fj jo (by rfl) T.z_tuple jj (ea_v (ER.toD (ou [] ["room"] [none] rfl (aco (aq (pv 3))) (fun _ _ _=>(cj (i:=0) (show(["room"]:List Str).Nodup by decide +kernel) rfl (bR rfl))) (fun _ _ _=>uy) (fun _ _ _=>au))) cg))) (ak (yl (EW.pt (ayp (acs (abg (ER.toD (jg d34 (hr.mono (by decide)) (by rfl) (eg_v (aq (pv 3)) (eg_v (aq (pv 4)) (eg_n (pv 5) (eg_n (pv 6) dq)))))))) (aq7 (acs (abg (ER.toD (jg d22 (hr.mono (by decide)) (by rfl) (eg_v (aq (pv 3)) (eg_v (aq (pv 4)) (eg_v (aq (pv 5)) (eg_v (ER.toD (kj (e2_n (pv 6) (EV.toB au)) (fun _ _=>by rfl))) dq))))))))))) (az (ik (EV.toR ag2))) m5) (az (zr cL rfl (vh (by rfl) T.z_range (ao au f9)) (cj (i:=8) yq.nd rfl (bR rfl)) (ak (iu (i:=9) yq.nd rfl (nP rfl) (jg d33 (hr.mono (by decide)) (by rfl) (eg_n (pv 2) (eg_n (pv 3) (eg_n (pv 4) (eg_n (pv 5) dq)))))) (ak (yl (oh (ajg hr.units) (e2_v (ER.toD (jg d18 (hr.mono (by decide)) (by rfl) (eg_v (aq (pv 3)) (eg_v (aq (pv 4)) (eg_v (aq (pv 5)) (eg_v (aq (pv 9)) dq)))))) (EV.toB (aao (ao (ER.toD (kj (e2_n (pv 6) (EV.toB au)) (fun _ _=>by rfl))) (ao (aq (pv 7)) (ao (ER.toD (kj (e2_n (pv 6) (EV.toB au)) (fun _ _=>by rfl))) f9)))))) (my _)) (az (ik (EV.toR ag2))) m5) (ak (yl (oh (ajg hr.units) (e2_v (ER.toD (fj jo (by rfl) T.z_tuple jj (ea_v (ER.toD (ou ["rooms"] ["room","rooms"] [none,some 9] rfl (vh (by rfl) T.z_range (ao (ER.toD (bz ju (by rfl) T.z_len jw (ea_n (pv 3) cg))) f9)) (fun _ _ _=>(cj (i:=0) (show(["room","rooms"]:List Str).Nodup by decide +kernel) rfl (bR rfl))) (fun _ _ _=>uy) (fun _ _ _=>(auw hr.units (pv 1) (ao (aq (pv 0)) f9))))) cg))) (EV.toB (ER.toD (kj (e2_n (pv 6) (EV.toB au)) (fun _ _=>by rfl))))) (my _)) (az (ik (EV.toR ag2))) m5) (ak (iu (i:=10) yq.nd rfl (bR rfl) (jg d25 (hr.mono (by decide)) (by rfl) (eg_n (pv 2) (eg_v (ER.toD (dj jq (e2_v (ER.toD (bz ju (by rfl) T.z_len jw (ea_n (pv 9) cg))) (EV.toB au)))) dq)))) (ak (aph (ER.toD (jg d18 (hr.mono (by decide)) (by rfl) (eg_v (aq (pv 3)) (eg_v (aq (pv 4)) (eg_v (aq (pv 5)) (eg_v (ER.toD (ara (pv 9) als (agj (aq (pv 10))))) dq)))))) (vz rfl (dw (cj (i:=11) yq.nd rfl (bR rfl)) (dw (cj (i:=12) yq.nd rfl (bR rfl)) (dw (cj (i:=13) yq.nd rfl (bR rfl)) qe))))) (ak (iu (i:=14) yq.nd rfl (bR rfl) (jg d17 (hr.mono (by decide)) (by rfl) (eg_v (aq (pv 3)) (eg_v (aq (pv 11)) (eg_v (aq (pv 12)) dq))))) (az (yl (EW.pt (ayp (oh (ajg hr.units) (e2_v (ER.toD (kj (e2_n (pv 14) (EV.toB au)) (fun _ _=>by rfl))) (EV.toB (ER.toD (kj (e2_n (pv 6) (EV.toB au)) (fun _ _=>by rfl))))) (my _)) (aq7 (oh (ajg hr.units) (e2_v (ER.toD (fj jo (by rfl) T.z_tuple jj (ea_v (ER.toD (ou [] ["a","b"] [none,none] rfl (abp (by rfl) T.z_zip (ao (aq (pv 13)) (ao (ER.toD (kj (e2_n (pv 14) (EV.toB au)) (fun _ _=>by rfl))) f9))) (fun _ _ _=>(vz rfl (dw (cj (i:=0) (show(["a","b"]:List Str).Nodup by decide +kernel) rfl (bR rfl)) (dw (cj (i:=1) (show(["a","b"]:List Str).Nodup by decide +kernel) rfl (bR rfl)) qe)))) (fun _ _ _=>uy) (fun _ _ _=>(ER.toD (dj jq (e2_n (pv 0) (gn (pv 1)))))))) cg))) (EV.toB (ER.toD (kj (e2_n (pv 6) (EV.toB au)) (fun _ _=>by rfl))))) (my _))))) (az (ik (EV.toR ag2))) m5))))))))))))))))) (az (ik (EV.toR ag2))))
end
theorem a2s{l:qT}{w:World}{K:Fg9}{h:Heap}{mg:Str->Option Value}{fa f0' f1' f2' f3' f4' f5' f6' f7' f8' f9' f10' f11' f12' f13' f14' f15' f16' f17' f18' f19' f20' f21' f22' f23' f24' f25' f26' f27' f28' f29' f30' f31' f32' f33' f34' f35' f36' f37':Addr}(X:K.In h)(G:h.Ns aP mg)(hfa:mg "law" = some (.ref fa))
  {od0 an0 od1 an1 od2 an2 od3 an3 od4 an4 od5 an5 od6 an6 od7 an7 od8 an8 od9 an9 od10 an10 od11 an11 od12 an12 od13 an13 od14 an14 od15 an15 od16 an16 od17 an17 od18 an18 od19 an19 od20 an20 od21 an21 od22 an22 od23 an23 od24 an24 od25 an25 od26 an26 od27 an27 od28 an28 od29 an29 od30 an30 od31 an31 od32 an32 od33 an33 od34 an34 od35 an35 od36 an36 od37 an37:Option Addr} {sl0 sl1 sl2 sl3 sl4 sl5 sl6 sl7 sl8 sl9 sl10 sl11 sl12 sl13 sl14 sl15 sl16 sl17 sl18 sl19 sl20 sl21 sl22 sl23 sl24 sl25 sl26 sl27 sl28 sl29 sl30 sl31 sl32 sl33 sl34 sl35 sl36 sl37:Array (Option Value)} {oc0 kV0 dc0 pm0 cd0 ct0 oc1 kV1 dc1 pm1 cd1 ct1 oc2 kV2 dc2 pm2 cd2 ct2 oc3 kV3 dc3 pm3 cd3 ct3 oc4 kV4 dc4 pm4 cd4 ct4 oc5 kV5 dc5 pm5 cd5 ct5 oc6 kV6 dc6 pm6 cd6 ct6 oc7 kV7 dc7 pm7 cd7 ct7 oc8 kV8 dc8 pm8 cd8 ct8 oc9 kV9 dc9 pm9 cd9 ct9 oc10 kV10 dc10 pm10 cd10 ct10 oc11 kV11 dc11 pm11 cd11 ct11 oc12 kV12 dc12 pm12 cd12 ct12 oc13 kV13 dc13 pm13 cd13 ct13 oc14 kV14 dc14 pm14 cd14 ct14 oc15 kV15 dc15 pm15 cd15 ct15 oc16 kV16 dc16 pm16 cd16 ct16 oc17 kV17 dc17 pm17 cd17 ct17 oc18 kV18 dc18 pm18 cd18 ct18 oc19 kV19 dc19 pm19 cd19 ct19 oc20 kV20 dc20 pm20 cd20 ct20 oc21 kV21 dc21 pm21 cd21 ct21 oc22 kV22 dc22 pm22 cd22 ct22 oc23 kV23 dc23 pm23 cd23 ct23 oc24 kV24 dc24 pm24 cd24 ct24 oc25 kV25 dc25 pm25 cd25 ct25 oc26 kV26 dc26 pm26 cd26 ct26 oc27 kV27 dc27 pm27 cd27 ct27 oc28 kV28 dc28 pm28 cd28 ct28 oc29 kV29 dc29 pm29 cd29 ct29 oc30 kV30 dc30 pm30 cd30 ct30 oc31 kV31 dc31 pm31 cd31 ct31 oc32 kV32 dc32 pm32 cd32 ct32 oc33 kV33 dc33 pm33 cd33 ct33 oc34 kV34 dc34 pm34 cd34 ct34 oc35 kV35 dc35 pm35 cd35 ct35 oc36 kV36 dc36 pm36 cd36 ct36 oc37 kV37 dc37 pm37 cd37 ct37:Value}
  {tk_GATES_MANY tk_MOST_WALKERS:Tok}
  {B_Crowd:Addr} (aB_Crowd:nsIn K aP "Crowd" = some (some (.ref B_Crowd))) (e_B_Crowd:boxB K B_Crowd ["house","turning","standing","gone","left"]=true)
  (a0:nsIn K aP "is_whole" = some (some (.ref f0'))) (l0:K.lookup f0'=some ⟨oc0,od0,.func (fnOf "is_whole" "is_whole" (fu wj) (dh wj) (aj wj) .none kV0 dc0 pm0 an0 cd0 ct0),sl0⟩) (c0:fK K cd0 "is_whole" = true) (k0:eQ K (.ref f0')=true)
  (a1:nsIn K aP "is_whole_within" = some (some (.ref f1'))) (l1:K.lookup f1'=some ⟨oc1,od1,.func (fnOf "is_whole_within" "is_whole_within" (fu j5) (dh j5) (aj j5) .none kV1 dc1 pm1 an1 cd1 ct1),sl1⟩) (c1:fK K cd1 "is_whole_within" = true) (k1:eQ K (.ref f1')=true)
  (a2:nsIn K aP "is_tuple_within" = some (some (.ref f2'))) (l2:K.lookup f2'=some ⟨oc2,od2,.func (fnOf "is_tuple_within" "is_tuple_within" (fu j6) (dh j6) (aj j6) .none kV2 dc2 pm2 an2 cd2 ct2),sl2⟩) (c2:fK K cd2 "is_tuple_within" = true) (k2:eQ K (.ref f2')=true)
  (a3:nsIn K aP "is_room_number" = some (some (.ref f3'))) (l3:K.lookup f3'=some ⟨oc3,od3,.func (fnOf "is_room_number" "is_room_number" (fu km) (dh km) (aj km) .none kV3 dc3 pm3 an3 cd3 ct3),sl3⟩) (c3:fK K cd3 "is_room_number" = true) (k3:eQ K (.ref f3')=true)
  (a4:nsIn K aP "trap" = some (some (.ref f4'))) (l4:K.lookup f4'=some ⟨oc4,od4,.func (fnOf "trap" "trap" (fu aha) (dh aha) (aj aha) .none kV4 dc4 pm4 an4 cd4 ct4),sl4⟩) (c4:fK K cd4 "trap" = true) (k4:eQ K (.ref f4')=true)
  (a5:nsIn K aP "refuse_not_open" = some (some (.ref f5'))) (l5:K.lookup f5'=some ⟨oc5,od5,.func (fnOf "refuse_not_open" "refuse_not_open" (fu jz) (dh jz) (aj jz) .none kV5 dc5 pm5 an5 cd5 ct5),sl5⟩) (c5:fK K cd5 "refuse_not_open" = true) (k5:eQ K (.ref f5')=true)
  (a6:nsIn K aP "is_arrows" = some (some (.ref f6'))) (l6:K.lookup f6'=some ⟨oc6,od6,.func (fnOf "is_arrows" "is_arrows" (fu ug) (dh ug) (aj ug) .none kV6 dc6 pm6 an6 cd6 ct6),sl6⟩) (c6:fK K cd6 "is_arrows" = true) (k6:eQ K (.ref f6')=true)
  (a7:nsIn K aP "refuse_no_arrows" = some (some (.ref f7'))) (l7:K.lookup f7'=some ⟨oc7,od7,.func (fnOf "refuse_no_arrows" "refuse_no_arrows" (fu jr) (dh jr) (aj jr) .none kV7 dc7 pm7 an7 cd7 ct7),sl7⟩) (c7:fK K cd7 "refuse_no_arrows" = true) (k7:eQ K (.ref f7')=true)
  (a8:nsIn K aP "turned_by" = some (some (.ref f8'))) (l8:K.lookup f8'=some ⟨oc8,od8,.func (fnOf "turned_by" "turned_by" (fu ue) (dh ue) (aj ue) .none kV8 dc8 pm8 an8 cd8 ct8),sl8⟩) (c8:fK K cd8 "turned_by" = true) (k8:eQ K (.ref f8')=true)
  (a9:nsIn K aP "last_ways" = some (some (.ref f9'))) (l9:K.lookup f9'=some ⟨oc9,od9,.func (fnOf "last_ways" "last_ways" (fu uf) (dh uf) (aj uf) .none kV9 dc9 pm9 an9 cd9 ct9),sl9⟩) (c9:fK K cd9 "last_ways" = true) (k9:eQ K (.ref f9')=true)
  (a10:nsIn K aP "going_round" = some (some (.ref f10'))) (l10:K.lookup f10'=some ⟨oc10,od10,.func (fnOf "going_round" "going_round" (fu p7) (dh p7) (aj p7) .none kV10 dc10 pm10 an10 cd10 ct10),sl10⟩) (c10:fK K cd10 "going_round" = true) (k10:eQ K (.ref f10')=true)
  (a11:nsIn K aP "is_walkers" = some (some (.ref f11'))) (l11:K.lookup f11'=some ⟨oc11,od11,.func (fnOf "is_walkers" "is_walkers" (fu qw) (dh qw) (aj qw) .none kV11 dc11 pm11 an11 cd11 ct11),sl11⟩) (c11:fK K cd11 "is_walkers" = true) (k11:eQ K (.ref f11')=true)
  (a12:nsIn K aP "refuse_no_walkers" = some (some (.ref f12'))) (l12:K.lookup f12'=some ⟨oc12,od12,.func (fnOf "refuse_no_walkers" "refuse_no_walkers" (fu jk) (dh jk) (aj jk) .none kV12 dc12 pm12 an12 cd12 ct12),sl12⟩) (c12:fK K cd12 "refuse_no_walkers" = true) (k12:eQ K (.ref f12')=true)
  (a13:nsIn K aP "uses_of" = some (some (.ref f13'))) (l13:K.lookup f13'=some ⟨oc13,od13,.func (fnOf "uses_of" "uses_of" (fu zu) (dh zu) (aj zu) .none kV13 dc13 pm13 an13 cd13 ct13),sl13⟩) (c13:fK K cd13 "uses_of" = true) (k13:eQ K (.ref f13')=true)
  (a14:nsIn K aP "uses_of_all" = some (some (.ref f14'))) (l14:K.lookup f14'=some ⟨oc14,od14,.func (fnOf "uses_of_all" "uses_of_all" (fu pq) (dh pq) (aj pq) .none kV14 dc14 pm14 an14 cd14 ct14),sl14⟩) (c14:fK K cd14 "uses_of_all" = true) (k14:eQ K (.ref f14')=true)
  (a15:nsIn K aP "rest_of" = some (some (.ref f15'))) (l15:K.lookup f15'=some ⟨oc15,od15,.func (fnOf "rest_of" "rest_of" (fu zy) (dh zy) (aj zy) .none kV15 dc15 pm15 an15 cd15 ct15),sl15⟩) (c15:fK K cd15 "rest_of" = true) (k15:eQ K (.ref f15')=true)
  (a16:nsIn K aP "refuse_no_crowd" = some (some (.ref f16'))) (l16:K.lookup f16'=some ⟨oc16,od16,.func (fnOf "refuse_no_crowd" "refuse_no_crowd" (fu j0) (dh j0) (aj j0) .none kV16 dc16 pm16 an16 cd16 ct16),sl16⟩) (c16:fK K cd16 "refuse_no_crowd" = true) (k16:eQ K (.ref f16')=true)
  (a17:nsIn K aP "rest" = some (some (.ref f17'))) (l17:K.lookup f17'=some ⟨oc17,od17,.func (fnOf "rest" "rest" (fu ahb) (dh ahb) (aj ahb) .none kV17 dc17 pm17 an17 cd17 ct17),sl17⟩) (c17:fK K cd17 "rest" = true) (k17:eQ K (.ref f17')=true)
  (a18:nsIn K aP "left_by" = some (some (.ref f18'))) (l18:K.lookup f18'=some ⟨oc18,od18,.func (fnOf "left_by" "left_by" (fu z9) (dh z9) (aj z9) .none kV18 dc18 pm18 an18 cd18 ct18),sl18⟩) (c18:fK K cd18 "left_by" = true) (k18:eQ K (.ref f18')=true)
  (a19:nsIn K aP "doors_used" = some (some (.ref f19'))) (l19:K.lookup f19'=some ⟨oc19,od19,.func (fnOf "doors_used" "doors_used" (fu qx) (dh qx) (aj qx) .none kV19 dc19 pm19 an19 cd19 ct19),sl19⟩) (c19:fK K cd19 "doors_used" = true) (k19:eQ K (.ref f19')=true)
  (a20:nsIn K aP "is_leavings" = some (some (.ref f20'))) (l20:K.lookup f20'=some ⟨oc20,od20,.func (fnOf "is_leavings" "is_leavings" (fu p6) (dh p6) (aj p6) .none kV20 dc20 pm20 an20 cd20 ct20),sl20⟩) (c20:fK K cd20 "is_leavings" = true) (k20:eQ K (.ref f20')=true)
  (a21:nsIn K aP "come_by" = some (some (.ref f21'))) (l21:K.lookup f21'=some ⟨oc21,od21,.func (fnOf "come_by" "come_by" (fu aab) (dh aab) (aj aab) .none kV21 dc21 pm21 an21 cd21 ct21),sl21⟩) (c21:fK K cd21 "come_by" = true) (k21:eQ K (.ref f21')=true)
  (a22:nsIn K aP "is_rest" = some (some (.ref f22'))) (l22:K.lookup f22'=some ⟨oc22,od22,.func (fnOf "is_rest" "is_rest" (fu aaa) (dh aaa) (aj aaa) .none kV22 dc22 pm22 an22 cd22 ct22),sl22⟩) (c22:fK K cd22 "is_rest" = true) (k22:eQ K (.ref f22')=true)
  (a23:nsIn K aP "_law_cell" = some (some (.ref f23'))) (l23:K.lookup f23'=some ⟨oc23,od23,.func (fnOf "_law_cell" "_law_cell" (fu ur) (dh ur) (aj ur) .none kV23 dc23 pm23 an23 cd23 ct23),sl23⟩) (c23:fK K cd23 "_law_cell" = true) (k23:eQ K (.ref f23')=true)
  (a24:nsIn K aP "_law_pen" = some (some (.ref f24'))) (l24:K.lookup f24'=some ⟨oc24,od24,.func (fnOf "_law_pen" "_law_pen" (fu wk) (dh wk) (aj wk) .none kV24 dc24 pm24 an24 cd24 ct24),sl24⟩) (c24:fK K cd24 "_law_pen" = true) (k24:eQ K (.ref f24')=true)
  (a25:nsIn K aP "_law_draw" = some (some (.ref f25'))) (l25:K.lookup f25'=some ⟨oc25,od25,.func (fnOf "_law_draw" "_law_draw" (fu uq) (dh uq) (aj uq) .none kV25 dc25 pm25 an25 cd25 ct25),sl25⟩) (c25:fK K cd25 "_law_draw" = true) (k25:eQ K (.ref f25')=true)
  (a26:nsIn K aP "_law_house" = some (some (.ref f26'))) (l26:K.lookup f26'=some ⟨oc26,od26,.func (fnOf "_law_house" "_law_house" (fu qz) (dh qz) (aj qz) .none kV26 dc26 pm26 an26 cd26 ct26),sl26⟩) (c26:fK K cd26 "_law_house" = true) (k26:eQ K (.ref f26')=true)
  (a27:nsIn K aP "_law_reached" = some (some (.ref f27'))) (l27:K.lookup f27'=some ⟨oc27,od27,.func (fnOf "_law_reached" "_law_reached" (fu nj) (dh nj) (aj nj) .none kV27 dc27 pm27 an27 cd27 ct27),sl27⟩) (c27:fK K cd27 "_law_reached" = true) (k27:eQ K (.ref f27')=true)
  (a28:nsIn K aP "_law_open" = some (some (.ref f28'))) (l28:K.lookup f28'=some ⟨oc28,od28,.func (fnOf "_law_open" "_law_open" (fu um) (dh um) (aj um) .none kV28 dc28 pm28 an28 cd28 ct28),sl28⟩) (c28:fK K cd28 "_law_open" = true) (k28:eQ K (.ref f28')=true)
  (a29:nsIn K aP "_law_drawn" = some (some (.ref f29'))) (l29:K.lookup f29'=some ⟨oc29,od29,.func (fnOf "_law_drawn" "_law_drawn" (fu rm) (dh rm) (aj rm) .none kV29 dc29 pm29 an29 cd29 ct29),sl29⟩) (c29:fK K cd29 "_law_drawn" = true) (k29:eQ K (.ref f29')=true)
  (a30:nsIn K aP "_law_walkers" = some (some (.ref f30'))) (l30:K.lookup f30'=some ⟨oc30,od30,.func (fnOf "_law_walkers" "_law_walkers" (fu ni) (dh ni) (aj ni) .none kV30 dc30 pm30 an30 cd30 ct30),sl30⟩) (c30:fK K cd30 "_law_walkers" = true) (k30:eQ K (.ref f30')=true)
  (a31:nsIn K aP "_law_left" = some (some (.ref f31'))) (l31:K.lookup f31'=some ⟨oc31,od31,.func (fnOf "_law_left" "_law_left" (fu uo) (dh uo) (aj uo) .none kV31 dc31 pm31 an31 cd31 ct31),sl31⟩) (c31:fK K cd31 "_law_left" = true) (k31:eQ K (.ref f31')=true)
  (a32:nsIn K aP "_law_wide" = some (some (.ref f32'))) (l32:K.lookup f32'=some ⟨oc32,od32,.func (fnOf "_law_wide" "_law_wide" (fu uh) (dh uh) (aj uh) .none kV32 dc32 pm32 an32 cd32 ct32),sl32⟩) (c32:fK K cd32 "_law_wide" = true) (k32:eQ K (.ref f32')=true)
  (a33:nsIn K aP "_law_order" = some (some (.ref f33'))) (l33:K.lookup f33'=some ⟨oc33,od33,.func (fnOf "_law_order" "_law_order" (fu qy) (dh qy) (aj qy) .none kV33 dc33 pm33 an33 cd33 ct33),sl33⟩) (c33:fK K cd33 "_law_order" = true) (k33:eQ K (.ref f33')=true)
  (a34:nsIn K aP "_law_doors_right" = some (some (.ref f34'))) (l34:K.lookup f34'=some ⟨oc34,od34,.func (fnOf "_law_doors_right" "_law_doors_right" (fu jt) (dh jt) (aj jt) .none kV34 dc34 pm34 an34 cd34 ct34),sl34⟩) (c34:fK K cd34 "_law_doors_right" = true) (k34:eQ K (.ref f34')=true)
  (a35:nsIn K aP "law" = some (some (.ref f35'))) (l35:K.lookup f35'=some ⟨oc35,od35,.func (fnOf "law" "law" (fu ahy) (dh ahy) (aj ahy) .none kV35 dc35 pm35 an35 cd35 ct35),sl35⟩) (c35:fK K cd35 "law" = true) (k35:eQ K (.ref f35')=true)
  (a36:jJ K (.ref B_Crowd) "__init__" = some (some (.ref f36'))) (l36:K.lookup f36'=some ⟨oc36,od36,.func (fnOf "__init__" "Crowd.__init__" (fu rn) (dh rn) (aj rn) .none kV36 dc36 pm36 an36 cd36 ct36),sl36⟩) (c36:fK K cd36 "Crowd.__init__" = true) (k36:eQ K (.ref f36')=true) (e_F_Crowd_init:jZ K (.ref f36')=true)
  (a37:jJ K (.ref B_Crowd) "let_leave" = some (some (.ref f37'))) (l37:K.lookup f37'=some ⟨oc37,od37,.func (fnOf "let_leave" "Crowd.let_leave" (fu j7) (dh j7) (aj j7) .none kV37 dc37 pm37 an37 cd37 ct37),sl37⟩) (c37:fK K cd37 "Crowd.let_leave" = true) (k37:eQ K (.ref f37')=true) (e_F_Crowd_let_leave:jZ K (.ref f37')=true)
  (g_GATES_MANY:nsIn K aP "GATES_MANY" = some (some (.int 3 tk_GATES_MANY)))
  (g_MOST_WALKERS:nsIn K aP "MOST_WALKERS" = some (some (.int 100 tk_MOST_WALKERS)))
  (y_all:nsIn K aP "all" = some none)
  (y_any:nsIn K aP "any" = some none)
  (y_bool:nsIn K aP "bool" = some none)
  (y_divmod:nsIn K aP "divmod" = some none)
  (y_enumerate:nsIn K aP "enumerate" = some none)
  (y_int:nsIn K aP "int" = some none)
  (y_isinstance:nsIn K aP "isinstance" = some none)
  (y_len:nsIn K aP "len" = some none)
  (y_list:nsIn K aP "list" = some none)
  (y_max:nsIn K aP "max" = some none)
  (y_min:nsIn K aP "min" = some none)
  (y_range:nsIn K aP "range" = some none)
  (y_set:nsIn K aP "set" = some none)
  (y_sorted:nsIn K aP "sorted" = some none)
  (y_sum:nsIn K aP "sum" = some none)
  (y_tuple:nsIn K aP "tuple" = some none)
  (y_zip:nsIn K aP "zip" = some none)
  : ∃fd:fM,(∀(s:aJ) (v:Value),pU s fd ⟨[v],[]⟩ [("script", v)])/\∀base:Heap,K.In base->base.Ns aP mg->FnOk l.prog w K mg base CX0 7 fa fd ["script"] (spOf K 1 aq6):=by
 have e:=hfa.symm.trans (mg_of X G a35);cases e;have T:Txt K mg:=⟨⟨_,mg_of X G g_GATES_MANY⟩,⟨_,mg_of X G g_MOST_WALKERS⟩,fU X G y_all,fU X G y_any,fU X G y_bool,fU X G y_divmod,fU X G y_enumerate,fU X G y_int,fU X G y_isinstance,fU X G y_len,fU X G y_list,fU X G y_max,fU X G y_min,fU X G y_range,fU X G y_set,fU X G y_sorted,fU X G y_sum,fU X G y_tuple,fU X G y_zip,agi aB_Crowd e_B_Crowd (by decide +kernel),agi aB_Crowd e_B_Crowd (by decide +kernel),agi aB_Crowd e_B_Crowd (by decide +kernel),agi aB_Crowd e_B_Crowd (by decide +kernel),agi aB_Crowd e_B_Crowd (by decide +kernel)⟩
 have F0:=ji (st:=wj) l0 c0 k0;have b0:=F0.binds (ps:=["thing"]) fun _ _ _ _ _ _ us hl=>by obtain⟨_,rfl⟩:=ln1 hl;rfl
 have F1:=ji (st:=j5) l1 c1 k1;have b1:=F1.binds (ps:=["thing","least","most"]) fun _ _ _ _ _ _ us hl=>by obtain⟨_,_,_,rfl⟩:=ln3 hl;rfl
 have F2:=ji (st:=j6) l2 c2 k2;have b2:=F2.binds (ps:=["thing","least","most"]) fun _ _ _ _ _ _ us hl=>by obtain⟨_,_,_,rfl⟩:=ln3 hl;rfl
 have F3:=ji (st:=km) l3 c3 k3;have b3:=F3.binds (ps:=["house","thing"]) fun _ _ _ _ _ _ us hl=>by obtain⟨_,_,rfl⟩:=ln2 hl;rfl
 have F4:=ji (st:=aha) l4 c4 k4;have b4:=F4.binds (ps:=["house"]) fun _ _ _ _ _ _ us hl=>by obtain⟨_,rfl⟩:=ln1 hl;rfl
 have F5:=ji (st:=jz) l5 c5 k5;have b5:=F5.binds (ps:=["house"]) fun _ _ _ _ _ _ us hl=>by obtain⟨_,rfl⟩:=ln1 hl;rfl
 have F6:=ji (st:=ug) l6 c6 k6;have b6:=F6.binds (ps:=["house","thing"]) fun _ _ _ _ _ _ us hl=>by obtain⟨_,_,rfl⟩:=ln2 hl;rfl
 have F7:=ji (st:=jr) l7 c7 k7;have b7:=F7.binds (ps:=["house","thing"]) fun _ _ _ _ _ _ us hl=>by obtain⟨_,_,rfl⟩:=ln2 hl;rfl
 have F8:=ji (st:=ue) l8 c8 k8;have b8:=F8.binds (ps:=["house","arrows","turns"]) fun _ _ _ _ _ _ us hl=>by obtain⟨_,_,_,rfl⟩:=ln3 hl;rfl
 have F9:=ji (st:=uf) l9 c9 k9;have b9:=F9.binds (ps:=["house","arrows"]) fun _ _ _ _ _ _ us hl=>by obtain⟨_,_,rfl⟩:=ln2 hl;rfl
 have F10:=ji (st:=p7) l10 c10 k10;have b10:=F10.binds (ps:=["last","rooms"]) fun _ _ _ _ _ _ us hl=>by obtain⟨_,_,rfl⟩:=ln2 hl;rfl
 have F11:=ji (st:=qw) l11 c11 k11;have b11:=F11.binds (ps:=["house","thing","most"]) fun _ _ _ _ _ _ us hl=>by obtain⟨_,_,_,rfl⟩:=ln3 hl;rfl
 have F12:=ji (st:=jk) l12 c12 k12;have b12:=F12.binds (ps:=["house","thing"]) fun _ _ _ _ _ _ us hl=>by obtain⟨_,_,rfl⟩:=ln2 hl;rfl
 have F13:=ji (st:=zu) l13 c13 k13;have b13:=F13.binds (ps:=["doors_many","arrow","leavings"]) fun _ _ _ _ _ _ us hl=>by obtain⟨_,_,_,rfl⟩:=ln3 hl;rfl
 have F14:=ji (st:=pq) l14 c14 k14;have b14:=F14.binds (ps:=["house","arrows","leavings"]) fun _ _ _ _ _ _ us hl=>by obtain⟨_,_,_,rfl⟩:=ln3 hl;rfl
 have F15:=ji (st:=zy) l15 c15 k15;have b15:=F15.binds (ps:=["house","arrows","walkers"]) fun _ _ _ _ _ _ us hl=>by obtain⟨_,_,_,rfl⟩:=ln3 hl;rfl
 have F16:=ji (st:=j0) l16 c16 k16;have b16:=F16.binds (ps:=["house","arrows","walkers"]) fun _ _ _ _ _ _ us hl=>by obtain⟨_,_,_,rfl⟩:=ln3 hl;rfl
 have F17:=ji (st:=ahb) l17 c17 k17;have b17:=F17.binds (ps:=["house","arrows","walkers"]) fun _ _ _ _ _ _ us hl=>by obtain⟨_,_,_,rfl⟩:=ln3 hl;rfl
 have F18:=ji (st:=z9) l18 c18 k18;have b18:=F18.binds (ps:=["house","arrows","walkers","rooms"]) fun _ _ _ _ _ _ us hl=>by obtain⟨_,_,_,_,rfl⟩:=ln4 hl;rfl
 have F19:=ji (st:=qx) l19 c19 k19;have b19:=F19.binds (ps:=["house","arrows","leavings"]) fun _ _ _ _ _ _ us hl=>by obtain⟨_,_,_,rfl⟩:=ln3 hl;rfl
 have F20:=ji (st:=p6) l20 c20 k20;have b20:=F20.binds (ps:=["house","thing"]) fun _ _ _ _ _ _ us hl=>by obtain⟨_,_,rfl⟩:=ln2 hl;rfl
 have F21:=ji (st:=aab) l21 c21 k21;have b21:=F21.binds (ps:=["house","uses"]) fun _ _ _ _ _ _ us hl=>by obtain⟨_,_,rfl⟩:=ln2 hl;rfl
 have F22:=ji (st:=aaa) l22 c22 k22;have b22:=F22.binds (ps:=["house","arrows","walkers","thing"]) fun _ _ _ _ _ _ us hl=>by obtain⟨_,_,_,_,rfl⟩:=ln4 hl;rfl
 have F23:=ji (st:=ur) l23 c23 k23;have b23:=F23.binds (ps:=["script","k"]) fun _ _ _ _ _ _ us hl=>by obtain⟨_,_,rfl⟩:=ln2 hl;rfl
 have F24:=ji (st:=wk) l24 c24 k24;have b24:=F24.binds (ps:=["cell"]) fun _ _ _ _ _ _ us hl=>by obtain⟨_,rfl⟩:=ln1 hl;rfl
 have F25:=ji (st:=uq) l25 c25 k25;have b25:=F25.binds (ps:=["pen","many"]) fun _ _ _ _ _ _ us hl=>by obtain⟨_,_,rfl⟩:=ln2 hl;rfl
 have F26:=ji (st:=qz) l26 c26 k26;have b26:=F26.binds (ps:=["pen","most","doors"]) fun _ _ _ _ _ _ us hl=>by obtain⟨_,_,_,rfl⟩:=ln3 hl;rfl
 have F27:=ji (st:=nj) l27 c27 k27;have b27:=F27.binds (ps:=["house","room"]) fun _ _ _ _ _ _ us hl=>by obtain⟨_,_,rfl⟩:=ln2 hl;rfl
 have F28:=ji (st:=um) l28 c28 k28;have b28:=F28.binds (ps:=["pen","most","doors"]) fun _ _ _ _ _ _ us hl=>by obtain⟨_,_,_,rfl⟩:=ln3 hl;rfl
 have F29:=ji (st:=rm) l29 c29 k29;have b29:=F29.binds (ps:=["pen","house"]) fun _ _ _ _ _ _ us hl=>by obtain⟨_,_,rfl⟩:=ln2 hl;rfl
 have F30:=ji (st:=ni) l30 c30 k30;have b30:=F30.binds (ps:=["pen","house","most"]) fun _ _ _ _ _ _ us hl=>by obtain⟨_,_,_,rfl⟩:=ln3 hl;rfl
 have F31:=ji (st:=uo) l31 c31 k31;have b31:=F31.binds (ps:=["house","some","there","gates","room"]) fun _ _ _ _ _ _ us hl=>by obtain⟨_,_,_,_,_,rfl⟩:=ln5 hl;rfl
 have F32:=ji (st:=uh) l32 c32 k32;have b32:=F32.binds (ps:=["pen"]) fun _ _ _ _ _ _ us hl=>by obtain⟨_,rfl⟩:=ln1 hl;rfl
 have F33:=ji (st:=qy) l33 c33 k33;have b33:=F33.binds (ps:=["pen","house","some","there"]) fun _ _ _ _ _ _ us hl=>by obtain⟨_,_,_,_,rfl⟩:=ln4 hl;rfl
 have F34:=ji (st:=jt) l34 c34 k34;have b34:=F34.binds (ps:=["house","some","there","told"]) fun _ _ _ _ _ _ us hl=>by obtain⟨_,_,_,_,rfl⟩:=ln4 hl;rfl
 have F35:=ji (st:=ahy) l35 c35 k35;have F36:=ji (st:=rn) l36 c36 k36;have b36:=F36.binds (ps:=["self","house","arrows","walkers"]) fun _ _ _ _ _ _ us hl=>by obtain⟨_,_,_,_,rfl⟩:=ln4 hl;rfl
 have F37:=ji (st:=j7) l37 c37 k37;have b37:=F37.binds (ps:=["self","room","many"]) fun _ _ _ _ _ _ us hl=>by obtain⟨_,_,_,rfl⟩:=ln3 hl;rfl
 refine⟨fnOf "law" "law" (fu ahy) (dh ahy) (aj ahy) .none kV35 dc35 pm35 an35 cd35 ct35,fun s v=>.of_eq rfl,fun base _ _ =>?_⟩
 have d0:Dd0 l.prog w K mg base:=⟨f0',_,ak8 F0 T,mg_of X G a0,k0,b0⟩;have d1:Dd1 l.prog w K mg base:=⟨f1',_,adk F1 T d0,mg_of X G a1,k1,b1⟩;have d2:Dd2 l.prog w K mg base:=⟨f2',_,adl F2 T,mg_of X G a2,k2,b2⟩;have d3:Dd3 l.prog w K mg base:=⟨f3',_,aec F3 T d1,mg_of X G a3,k3,b3⟩;have d4:Dd4 l.prog w K mg base:=⟨f4',_,axj F4 T,mg_of X G a4,k4,b4⟩;have d5:Dd5 l.prog w K mg base:=⟨f5',_,adh F5 T d4,mg_of X G a5,k5,b5⟩;have d6:Dd6 l.prog w K mg base:=⟨f6',_,ajj F6 T d2 d1,mg_of X G a6,k6,b6⟩;have d7:Dd7 l.prog w K mg base:=⟨f7',_,acx F7 T d6,mg_of X G a7,k7,b7⟩;have d8:Dd8 l.prog w K mg base:=⟨f8',_,ajh F8 T,mg_of X G a8,k8,b8⟩;have d9:Dd9 l.prog w K mg base:=⟨f9',_,aji F9 T,mg_of X G a9,k9,b9⟩;have d10:Dd10 l.prog w K mg base:=⟨f10',_,ag0 F10 T,mg_of X G a10,k10,b10⟩;have d11:Dd11 l.prog w K mg base:=⟨f11',_,ah5 F11 T d2 d1,mg_of X G a11,k11,b11⟩;have d12:Dd12 l.prog w K mg base:=⟨f12',_,ack F12 T d11,mg_of X G a12,k12,b12⟩;have d13:Dd13 l.prog w K mg base:=⟨f13',_,anx F13 T,mg_of X G a13,k13,b13⟩;have d14:Dd14 l.prog w K mg base:=⟨f14',_,agy F14 T d13,mg_of X G a14,k14,b14⟩;have m_Crowd_let_leave:DfnM l.prog w K mg base _ _ _ _ _:=ayu aB_Crowd e_B_Crowd a37 e_F_Crowd_let_leave k37 (adm (P:=l.prog) (w:=w) (base:=base) F37 T d13) b37;have n_Crowd:DfnI l.prog w K mg base _ _ _ (ak1 K _ _ aa0):=ayv aB_Crowd (mg_of X G aB_Crowd) e_B_Crowd a36 e_F_Crowd_init (aia (P:=l.prog) (w:=w) (base:=base) F36 T aB_Crowd) b36;have d15:Dd15 l.prog w K mg base:=⟨f15',_,anz F15 T m_Crowd_let_leave n_Crowd,mg_of X G a15,k15,b15⟩;have d16:Dd16 l.prog w K mg base:=⟨f16',_,adi F16 T d7 d12,mg_of X G a16,k16,b16⟩;have d17:Dd17 l.prog w K mg base:=⟨f17',_,axk F17 T d16 d5 d15,mg_of X G a17,k17,b17⟩;have d18:Dd18 l.prog w K mg base:=⟨f18',_,aoa F18 T d3 d16 m_Crowd_let_leave n_Crowd,mg_of X G a18,k18,b18⟩;have d19:Dd19 l.prog w K mg base:=⟨f19',_,ah6 F19 T d7 d14,mg_of X G a19,k19,b19⟩;have d20:Dd20 l.prog w K mg base:=⟨f20',_,agz F20 T d2 d0,mg_of X G a20,k20,b20⟩;have d21:Dd21 l.prog w K mg base:=⟨f21',_,aoc F21 T,mg_of X G a21,k21,b21⟩;have d22:Dd22 l.prog w K mg base:=⟨f22',_,aob F22 T d16 d5 d20 d14 d21 d8 d9 d10,mg_of X G a22,k22,b22⟩;have d23:Dd23 l.prog w K mg base:=⟨f23',_,ajo F23 T,mg_of X G a23,k23,b23⟩;have d24:Dd24 l.prog w K mg base:=⟨f24',_,ak9 F24 T,mg_of X G a24,k24,b24⟩;have d25:Dd25 l.prog w K mg base:=⟨f25',_,ajn F25 T,mg_of X G a25,k25,b25⟩;have d26:Dd26 l.prog w K mg base:=⟨f26',_,ah8 F26 T d25,mg_of X G a26,k26,b26⟩;have d27:Dd27 l.prog w K mg base:=⟨f27',_,afx F27 T,mg_of X G a27,k27,b27⟩;have d28:Dd28 l.prog w K mg base:=⟨f28',_,ajl F28 T d26 d27 d25,mg_of X G a28,k28,b28⟩;have d29:Dd29 l.prog w K mg base:=⟨f29',_,ah9 F29 T d25,mg_of X G a29,k29,b29⟩;have d30:Dd30 l.prog w K mg base:=⟨f30',_,afw F30 T d25,mg_of X G a30,k30,b30⟩;have d31:Dd31 l.prog w K mg base:=⟨f31',_,ajm F31 T,mg_of X G a31,k31,b31⟩;have d32:Dd32 l.prog w K mg base:=⟨f32',_,ajk F32 T d25 d28,mg_of X G a32,k32,b32⟩;have d33:Dd33 l.prog w K mg base:=⟨f33',_,ah7 F33 T d25 d31,mg_of X G a33,k33,b33⟩;have d34:Dd34 l.prog w K mg base:=⟨f34',_,acy F34 T d19,mg_of X G a34,k34,b34⟩;exact a0v F35 T d23 d24 d32 d29 d30 d17 d34 d22 d33 d18 d25
end My
namespace PySem.W.Fast
def tw12615541012030193856:Unit:=()
def tw17748708257118266977:Unit:=()
def tw13682992076993218882:Unit:=()
def tw18261481044045281026:Unit:=()
def tw1770397154364974050:Unit:=()
def tw1251134950483179523:Unit:=()
def tw4772971079527150243:Unit:=()
def tw12811509355906861573:Unit:=()
def tw10011825818790010533:Unit:=()
def tw2619029215776481862:Unit:=()
def tw16666897090337456007:Unit:=()
def tw1177925849426779144:Unit:=()
def tw3199587443232407624:Unit:=()
def tw6903953204647795144:Unit:=()
def tw5596999728264964552:Unit:=()
def tw124382065378241160:Unit:=()
def tw18430561368029793033:Unit:=()
def tw8158827950789830473:Unit:=()
def tw8451057436144122154:Unit:=()
def tw6582632386889957194:Unit:=()
def tw14328291052904325259:Unit:=()
def tw17381029115452844076:Unit:=()
def tw16008063210070657132:Unit:=()
def tw18009665961673557388:Unit:=()
def tw9505163972646620620:Unit:=()
def tw6907743235169424012:Unit:=()
def tw12412177673534151149:Unit:=()
def tw16582244436587878734:Unit:=()
def tw3968075686121296334:Unit:=()
def tw12427528046882159438:Unit:=()
def tw5737234444167902287:Unit:=()
def tw15440333213263954671:Unit:=()
def tw2596902520439888240:Unit:=()
def tw3743340386793048688:Unit:=()
def tw10448341917824883568:Unit:=()
def tw9708993710214878065:Unit:=()
def tw1421746483743909394:Unit:=()
def tw14172972508943889907:Unit:=()
def tw3344054572280578421:Unit:=()
def tw12866967878983057109:Unit:=()
def tw6516091588302411541:Unit:=()
def tw8373127803542623734:Unit:=()
def tw10890651642798994070:Unit:=()
def tw136046021701652087:Unit:=()
def tw6424294574099565785:Unit:=()
def tw10989261743770936250:Unit:=()
def tw736299850799439163:Unit:=()
def tw1750508111381802300:Unit:=()
def tw4758784330615558140:Unit:=()
def tw15150991408901247261:Unit:=()
def tw11069304710642779869:Unit:=()
def tw16783732263897053022:Unit:=()
def tw13084151502037777055:Unit:=()
def tw8041688799457106815:Unit:=()
def tw9696401369474059686:Unit:=()
end PySem.W.Fast
open PySem PySem.W PyProof.Rows
set_option maxRecDepth 100000 in
set_option maxHeartbeats 0 in
theorem PySem.Challenge.cw_turnarrows_k21_whole_whatever_the_order_holds : PySem.Challenge.rw_turnarrows_k21_whole_whatever_the_order.Holds := by
 w_on;o_law;k_head;(case hw=>w_witness2)
 k_fill
 refine Dn.walk (l:=PySem.Challenge.rw_turnarrows_k21_whole_whatever_the_order) (f:=My.aq6) (k:=7) My.at8 rfl rfl ⟨rfl,by decide,by decide,rfl⟩ (fun w h Y=>PySem.W.kIn_of Y) ?F
 case F =>
  intro w mg fa h KX G hmg;refine' My.a2s KX G hmg ?_ ?_ ?_ ?_ ?_ ?_ ?_ ?_ ?_ ?_ ?_ ?_ ?_ ?_ ?_ ?_ ?_ ?_ ?_ ?_ ?_ ?_ ?_ ?_ ?_ ?_ ?_ ?_ ?_ ?_ ?_ ?_ ?_ ?_ ?_ ?_ ?_ ?_ ?_ ?_ ?_ ?_ ?_ ?_ ?_ ?_ ?_ ?_ ?_ ?_ ?_ ?_ ?_ ?_ ?_ ?_ ?_ ?_ ?_ ?_ ?_ ?_ ?_ ?_ ?_ ?_ ?_ ?_ ?_ ?_ ?_ ?_ ?_ ?_ ?_ ?_ ?_ ?_ ?_ ?_ ?_ ?_ ?_ ?_ ?_ ?_ ?_ ?_ ?_ ?_ ?_ ?_ ?_ ?_ ?_ ?_ ?_ ?_ ?_ ?_ ?_ ?_ ?_ ?_ ?_ ?_ ?_ ?_ ?_ ?_ ?_ ?_ ?_ ?_ ?_ ?_ ?_ ?_ ?_ ?_ ?_ ?_ ?_ ?_ ?_ ?_ ?_ ?_ ?_ ?_ ?_ ?_ ?_ ?_ ?_ ?_ ?_ ?_ ?_ ?_ ?_ ?_ ?_ ?_ ?_ ?_ ?_ ?_ ?_ ?_ ?_ ?_ ?_ ?_ ?_ ?_ ?_ ?_ ?_ ?_ ?_ ?_ ?_ ?_ ?_ ?_ ?_ ?_ ?_ ?_ ?_ ?_ ?_ ?_ ?_
  any_goals k_is
  all_goals kernel_rfl
