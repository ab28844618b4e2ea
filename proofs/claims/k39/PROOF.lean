import PyProof.Rows.All
import Wide.All
import OpenK.AllK
import Wide.FinOn
import Lean
import PyProof.EqAt
import PyProof.EqKinds
import PyProof.TupleCall
import PySem.Challenge.RW_turnarrows_k39_behind_how_many_walkers
set_option Elab.async false
set_option linter.all false
set_option maxRecDepth 100000
open Array renaming length_toList->bM,getElem?_eq_some_iff->fG,getElem?_toList->pZ,getElem_toList->qH,getElem?_eq_none->uT,find?_toList->wQ,toList_push->xY,getD->xZ,toList_inj->yH
open Bool renaming and_eq_true->bH,false_ne_true->dG,false_eq_true->jN,and_eq_false_iff->pY,true_and->qY,false_and->uA,or_eq_false_iff->vL,and_eq_true_iff->vM,not_eq_true'->xX,or_eq_true->yW,and_false->zF,or_false->zR,and_true->zT
open Classical renaming byContradiction->bF
open False renaming elim->fK
open ForInStep renaming yield->yQ
open Function renaming comp_def->oH
open Int renaming toNat_natCast->cD,mul_comm->cO,emod_eq_of_lt->cP,eq_of_mul_eq_mul_left->dH,zero_mul->eX,mul_left_comm->fD,mul_zero->fW,emod_lt_of_pos->gA,natCast_add->gH,lt_or_le->gJ,mul_neg->gP,natCast_mul->iK,mul_assoc->iT,mul_add->iW,emod_nonneg->iZ,add_zero->jD,mul_le_mul_of_nonneg_left->jH,eq_ofNat_of_zero_le->lR,add_emod_right->lU,one_mul->mC,zero_add->mG,natAbs_mul->nR,neg_mul->oW,mul_sub->oX,le_refl->oY,pow_succ->pX,natAbs_natCast->qX,mul_le_mul_of_nonneg_right->rM,le_trans->rN,fmod_eq_emod_of_nonneg->tK,fdiv_eq_ediv_of_nonneg->tL,emod_self->uN,natAbs_dvd_natAbs->vB,mul_ediv_cancel'->vJ,pow_ne_zero->yO,mul_eq_zero->yP
open List renaming getElem?_eq_getElem->aF,range->aK,getD_eq_getElem?_getD->aM,mem_cons_of_mem->aN,getElem?_eq_some_iff->aQ,mem_cons_self->aR,replicate->aU,map_cons->aV,length_map->aW,size_toArray->aY,getElem?_map->bA,mem_cons->bD,getElem?_set->bG,nil_append->bL,mem_filter->bQ,mem_map->bV,mem_singleton->bY,sum_cons->cA,getElem?_range->cB,length_cons->cG,map_append->cI,mem_range->cR,mem_append_right->cU,getElem?_append_left->cW,mem_append->cX,getElem_mem->cZ,append_assoc->dB,set->dC,length_set->dD,length_append->dF,map_map->dN,cons_append->dO,lookup->dU,getElem?_eq_none->dX,contains_iff_mem->dY,count_append->eN,append_nil->fO,not_mem_nil->fP,all_eq_true->fQ,map_congr_left->fV,pairwise_cons->fZ,mem_append_left->gB,length_range->gF,length_filter_le->gG,length_take->gM,mem_of_getElem?->gQ,mem_iff_getElem->gR,replicate_succ->iH,range_succ->iI,filterMap_cons->iJ,getElem?_append_right->iQ,length_zipWith->jG,pairwise_lt_range->jL,filter_filter->jM,flatten_cons->jX,ext_getElem?->jY,length_drop->lA,getElem?_take_of_lt->lH,getElem?_replicate->lO,findIdx?_eq_some_iff_getElem->lQ,getElem?_set_self->lW,length_replicate->mF,take_length->mH,getElem?_set_ne->mJ,foldl->mQ,length_pos_iff->mY,filter_eq_self->mZ,append_of_mem->nG,getElem?_zip_eq_some->nP,drop_eq_getElem_cons->nQ,Pairwise.nil->oG,all_cons->oU,of_mem_zip->pN,nodup_cons->pO,length_filter_lt_length_iff_exists->pP,getElem?_zipWith->pQ,forIn_cons->pR,cons.injEq->pU,Pairwise.sublist->pW,getElem?_mapIdx->qF,count_replicate->qG,forIn_nil->qK,ne_nil_of_mem->qR,findIdx?->qT,count_eq_zero->qU,Pairwise.cons->qW,pairwise_map->rH,ext_getElem->rT,eq_nil_of_length_eq_zero->rW,countP_cons->rY,sum_append->sU,length_zip->sV,filter_map->sW,count_cons->sX,length_eraseIdx_of_lt->tG,exists_cons_of_ne_nil->tH,mem_or_eq_of_mem_set->tW,findIdx?_eq_none_iff->tX,append_eq_append_iff->tY,map_take->uK,length_eq_zero_iff->uL,filter_eq_nil_iff->uQ,drop_eq_nil_of_le->uR,set_set->uY,map_nil->uZ,Pairwise.of_cons->vA,mem_of_mem_take->vI,filter_sublist->vW,mem_filterMap->wJ,length_mapIdx->wK,count_pos_iff->wL,take_sublist->xF,take_add_one->xG,nodup_append->xH,length_erase->xJ,getElem_drop->xK,filter_congr->xM,Pairwise.imp->xN,Nodup->xO,zipIdx_cons->yF,filter_cons->yG,zipIdx_nil->yL,length_nil->yM,foldl_cons->yN,take_succ->zA,drop_zero->zB,dropWhile->zE,zip->zM,map_drop->zN,any_cons->zO
open Nat renaming le_refl->aL,ne_of_lt->bI,lt_of_lt_of_le->bW,le_trans->cL,zero_add->cN,zero_le->eF,ne_of_gt->gY,le_succ->iG,lt_trans->jC,lt_or_ge->jQ,lt_irrefl->jW,lt_succ_self->kZ,not_lt->lG,eq_zero_or_pos->lN,mul_le_mul_left->mW,gcd->mX,mul_comm->nD,le_of_lt->nF,succ_le_succ->pC,le_mul_of_pos_left->pH,succ_mul->pK,not_lt_zero->pL,le_of_eq->pM,lt_of_le_of_lt->qQ,lt_succ_of_lt->rG,min_eq_left->sO,mul_le_mul->tV,pow_le_pow_right->vG,mul_le_mul_right->vH,gcd_zero_right->wH,add_sub_cancel->wI,mod_lt->wZ,le_of_dvd->zL
open Ne renaming symm->fU
open Option renaming some.inj->bU,map_eq_some_iff->eQ,getD_none->rR,isSome_iff_exists->uC,isSome_some->wG,bind_some->yE
open Or renaming inl->bN,inr->oF
open PyProof renaming Rows.slot_tuple_getitem->fB,Rows.callWith_type1->iD,Rows.IntsAre->oV,Rows.F.plain_set_update_loop->oZ,Rows.envOfC->pB,Rows.AllBare->qC,Rows.LSm.kept_iter->uM,Rows.F.entry_set_update_loop->uO,Rows.IsTup->xP
open PySem renaming wpAny_bind->aA,Heap.get?_push_of_some->aD,Value->aG,wpAny_pure->aH,Shared->aJ,Heap.get?_push_size->aO,Heap.lt_size->aP,starEach->aX,Addr->aZ,mainGlobals->bB,wpAny_mono->bC,Heap.get?_update_other->bJ,wpAny->bK,Obj.data_mapFields->bO,model->bR,bootBuiltins->bT,wpAny_newObj_type->bZ,Heap.get?_update_self->cC,Program->cF,Heap.size_push->cH,sizeLine->cJ,PassesOwn.never->cM,Around->cQ,Value.none->cT,SetTable->cY,Heap.SameBut.update->dI,Value.ref->dJ,World->dR,Expr->dW,wpAny_field->dZ,wpAny_callSpecial?_slot->eE,NameKind.free->eG,W.kia_one->eH,wpAny_holding->eU,Obj.isFreed_of_fields->eV,wpAny_call_entry->eY,Heap->fH,Heap.SameBut->fJ,wpAny_setField->fL,SetTable.below->fM,FuncData->fX,compareOp->fY,binaryOp->gC,F.excBase_ValueError->gD,W.mg_none_of->gK,W.subIn->gU,W.kitOne->gW,foldedSetIterable->iB,mem_of_lookup->iC,Stmt->iM,NameKind.cell->iR,wpAny_seqItems->iU,sizeLine_eq->iV,W.emptyDict->iY,Builtin.Tuple.tupleExact->jA,backTo->jB,wpAny_standAt->jE,behindInMarks->jF,assignEach->jJ,W.InstAt->jK,Str.ofString->jO,W.instObj->jP,Value.type->jR,W.Looks->jT,Obj.mapSeq->jU,Obj.cls_mapFields->jV,rawInt->jZ,F.slot_tuple_iterator_next->kE,Heap.get?_none_of_le->kI,Builtin->kJ,Around.under_plainId->kO,Builtin.Slice.slicePlaces->kW,W.any_some->kY,wpAny_rule->lB,codeAny_mono->lC,call_meets->lD,F.type_list_append->lE,F.slot_list_append->lF,F.called_set->lJ,pickOrder->lK,W.mroIn->lL,W.clsIn->lM,F.slot_int_rmul->lV,Scope->lX,W.specialIn->lY,W.hasDictIn->lZ,swapsWith->mD,Value.builtin->mK,Obj.mapFields->mL,wpAny_call->mO,W.findIn->mR,W.takerIn->mV,W.callWith_K->nA,Calls.spliced_cons->nH,holding->nJ,SetTable.grown->nM,W.notCls->nO,Builtin.Slice.sliceAdjust->nT,scanBound->nU,pyNext->nW,W.keepIn->nY,Value.int->nZ,F.args_tuple_add_2->oE,AutoSeq1.wpAny_loadPart'->oJ,codeAny->oK,W.excIn->oM,F.slot_list_index->oN,F.plainAttrs_list->oO,F.entry_tuple_add->oR,BindsTo->pA,F.slot_tuple_mul->pD,W.cellsFrom_some->pF,F.slot_tuple_add->pG,W.takesIn->pI,W.findObj->pJ,W.looks_findIn->qD,assign->qI,W.typeIn->qJ,intKind->qL,hashInt->qM,argBest->qN,Keyword->qO,W.isNs_of_in->qP,setNext->qZ,getItem->rA,callerA->rB,Value.bool->rC,W.methodObj->rD,W.kitx_list->rE,PyData.eqv->rF,F.args_int_rmul_2->rJ,IsPart->rK,Code.isFrame->rO,Builtin.ObjectAttr.storeInDict->rP,Around.under->rQ,F.slot_int_index->rZ,F.entry_int_rmul->sE,F.args_tuple_iterator_next_1->sG,Builtin.divisionGoesByPylong->sH,W.OpenLaw->sJ,IsZip->sY,F.fills_int_mul->sZ,F.entry_tuple_iterator_next->tD,Builtin.List.listExtendWith->tE,Calls.Name_function_global->tM,Builtin.Tuple.tupleTooMany->tO,Builtin.Tuple.tupleItemsOf->tQ,Builtin.Slice.sliceApplied->tR,W.lookIn->tU,Heap.MadeExcOf->tZ,F.slot_tuple_count->uB,Builtin.List.listTooLong->uD,Builtin.List.listSameRef->uE,F.type_list_index->uF,F.slot_list_count->uG,F.attr_ValueError->uH,PyData.eqvAll->uI,NameKind->uJ,CmpOp->uP,Value.str->uU,W.Looks.of_pure->uV,PassesOwn->uW,Model->uX,Flow.next->vC,Value.notImplemented->vD,Calls.evalArgs_plain->vK,Around.frames_deeper->vN,Value.isInt->vO,Value.float->vP,Shared.heap->vQ,W.looks_subIn->vR,W.looks_mroIn->vU,W.looks_clsIn->vV,Heap.get?_update_ne->vX,Heap.ExtBut->vY,EntryCells.newEntry->vZ,Code.frames->wA,W.tail_of_in->wC,W.codeRec_of->wD,W.check_slot->wF,F.args_tuple_mul_2->wM,Code.quiet_builtin->wN,Calls.Constant_str->wO,SetTable.probe.go->wR,SetTable.below.go->wU,call->wV,W.kitx_dict->wW,PyData.canLayAll0->wX,Obj.putSet->wY,Heap.get?_push_at->xQ,Heap.SameBut.refl->xR,Heap.Ns1.of_empty->xT,F.slot_tuple_rmul->xU,F.plain_list_iadd->xV,F.entry_tuple_mul->xW,seqSlot_of->yC,W.plainGet->yD,W.kitMeta->yI,PyData.depthAll->yJ,Paired->yK,F.slot_zip_next->yR,F.slot_set_iter->yS,F.plain_set_new->yU,Code.isCreation->yV,SetTable.Probe->yX,W.kitCls->yZ,Value.ref.inj->zG,Value.isStrOf->zH,SetTable.laid->zJ,W.WalkO->zK,Code.isCaller->zP,CmpOf.ints_lt->zQ
open Sum renaming inr->mU,inl->sI
open True renaming intro->oA
noncomputable section
open PySem.W (nsIn mg_of keepIn fnOf codeIn findIn mg_none_of)
abbrev Fg9:=PySem.W.Frag
abbrev LL9:=List (List Int)
section
open PySem PySem.Spec PyProof.Rows
namespace L2
abbrev Key:=Sum Int Str
def aw8:Key->aG->Bool
 | .inl k,v=>vO k v
 | .inr x,v=>zH x v
def keyH(w:dR):Key->Int
 | .inl k=>qM k
 | .inr x=>hashStr w x
theorem lw:∀{k:Key} {v:aG},aw8 k v=true->(∃i t,k=sI i/\v=nZ i t)∨(∃x t,k=mU x/\v=uU x t)
 | .inl i,v,h=>by
  obtain⟨t,e⟩:=Value.isInt_shape (k:=i) (v:=v) h;exact .inl ⟨i,t,rfl,e⟩
 | .inr x,v,h=>by
  obtain⟨t,e⟩:=Value.isStrOf_shape (x:=x) (v:=v) h;exact .inr ⟨x,t,rfl,e⟩
theorem atr(x:Str)(t:Tok):aw8 (.inr x) (.str x t)=true:=by simp[aw8,zH]
theorem a5k(a b:Int):decide ((sI a:Key)=sI b)=(a==b):=by
 by_cases e:a=b
 ·subst e;simp
 ·have h:¬(sI a:Key)=sI b:=fun q=>e (Sum.inl.inj q)
  rw[decide_eq_false h];exact(beq_eq_false_iff_ne.mpr e).symm
theorem a5h(a b:Str):decide ((mU a:Key)=mU b)=decide (a=b):=by
 by_cases e:a=b
 ·subst e;simp
 ·have h:¬(mU a:Key)=mU b:=fun q=>e (Sum.inr.inj q)
  rw[decide_eq_false h,decide_eq_false e]
theorem a5j(a:Int)(b:Str):decide ((sI a:Key)=mU b)=false:=decide_eq_false (fun q=>nomatch q)
theorem a5i(a:Str)(b:Int):decide ((mU a:Key)=sI b)=false:=decide_eq_false (fun q=>nomatch q)
def aj1(prog:cF)(w:dR):PySem.KeyKind prog w Key where
 is:=aw8
 hash:=keyH w
 inj:=fun v a b ha hb=>by
  rcases lw ha with⟨i,t,rfl,rfl⟩ | ⟨x,t,rfl,rfl⟩
  ·rcases lw hb with⟨j,u,rfl,e⟩ | ⟨y,u,rfl,e⟩
   ·injection e with e1 _;rw[e1]
   ·exact nomatch e
  ·rcases lw hb with⟨j,u,rfl,e⟩ | ⟨y,u,rfl,e⟩
   ·exact nomatch e
   ·injection e with e1 _;rw[e1]
 byValue:=fun k v h=>by
  rcases lw h with⟨i,t,rfl,rfl⟩ | ⟨x,t,rfl,rfl⟩ <;> rfl
 pyHash:=fun hv h=>by
  rcases lw hv with⟨i,t,rfl,rfl⟩ | ⟨x,t,rfl,rfl⟩
  ·exact wpAny_pyHash_int h
  ·exact wpAny_pyHash_str h
 eqBool:=fun hu hv h=>by
  rcases lw hu with⟨i,t,rfl,rfl⟩ | ⟨x,t,rfl,rfl⟩
  ·rcases lw hv with⟨j,u,rfl,rfl⟩ | ⟨y,u,rfl,rfl⟩
   ·rw[a5k] at h;exact wpAny_eqBool_int h
   ·rw[a5j] at h;exact SeqAt.EqAt.int_str i t y u _ _ _ _ h
  ·rcases lw hv with⟨j,u,rfl,rfl⟩ | ⟨y,u,rfl,rfl⟩
   ·rw[a5i] at h;exact SeqAt.EqAt.str_int x t j u _ _ _ _ h
   ·rw[a5h] at h;exact wpAny_eqBool_str h
 «strs» := fun k x t v h=>by
  rcases lw h with⟨i,u,rfl,e⟩ | ⟨y,u,rfl,e⟩
  ·exact nomatch e
  ·injection e with e1 _
   subst e1;cases v <;> rfl
theorem anr(prog:cF)(w:dR)(x:Str)(t:Tok):(aj1 prog w).is (.inr x) (.str x t)=true:=atr x t
def IsTp(h:fH)(a:aZ)(items:Array aG):Prop:=∃o,h.get? a=some o/\o.cls=.type "tuple" /\ o.dict=none/\∃n,o.data=.seq items n
theorem IsTp.tup{h:fH}{a:aZ}{items:Array aG}(x:IsTp h a items):xP h a items:=let ⟨o,e,c,_,n,d⟩:=x;⟨o,e,c,n,d⟩
theorem IsTp.new(h:fH)(items:Array aG):IsTp (h.push { cls:=.type "tuple", data:=.seq items }) h.objs.size items:=⟨_,aO _ rfl,rfl,rfl,_,rfl⟩
inductive V where
 | non | bl (b:Bool) | int (i:Int) | str (x:Str) | byt (b:Array UInt8) | flt (b:UInt64) | ref (a:aZ) | ty (n:String)
 deriving DecidableEq
def RelV:V->aG->Prop
 | .non,u=>u=cT
 | .bl b,u=>u=rC b
 | .int i,u=>∃t,u=nZ i t
 | .str x,u=>∃t,u=uU x t
 | .byt b,u=>∃t,u=Value.bytes b t
 | .flt b,u=>∃t,u=vP b t
 | .ref a,u=>u=dJ a
 | .ty n,u=>u=jR n
abbrev Vals:List V->List aG->Prop:=yK RelV
theorem Vals.length{xs:List V}{us:List aG}(r:Vals xs us):xs.length=us.length:=Paired.length r
theorem Vals.get:∀{xs:List V} {us:List aG} {i:Nat} {x:V},Vals xs us->xs[i]? = some x->∃u,us[i]? = some u/\RelV x u
 | _,_,_,_,.nil,e=>by simp at e
 | _,_,0,_,.cons r _,e=>by simp at e;subst e;exact⟨_,rfl,r⟩
 | _,_,i+1,x,.cons _ t,e=>by
  obtain⟨u,h1,h2⟩:=Vals.get (i:=i) (x:=x) t (by simpa using e)
  exact⟨u,by simpa using h1,h2⟩
theorem Vals.set{x:V}{u:aG}(r:RelV x u):∀{xs:List V} {us:List aG} (i:Nat),Vals xs us->Vals (xs.set i x) (us.set i u)
 | _,_,_,.nil=>.nil
 | _,_,0,.cons _ t=>.cons r t
 | _,_,i+1,.cons q t=>.cons q (Vals.set r i t)
theorem Vals.append:∀{xs ys:List V} {us ws:List aG},Vals xs us->Vals ys ws->Vals (xs++ys) (us++ws)
 | _,_,_,_,.nil,s=>s
 | _,_,_,_,.cons r t,s=>.cons r (Vals.append t s)
theorem Vals.take:∀{xs:List V} {us:List aG} (n:Nat),Vals xs us->Vals (xs.take n) (us.take n)
 | _,_,0,_=>.nil
 | _,_,_+1,.nil=>.nil
 | _,_,n+1,.cons r t=>.cons r (Vals.take n t)
theorem Vals.drop:∀{xs:List V} {us:List aG} (n:Nat),Vals xs us->Vals (xs.drop n) (us.drop n)
 | _,_,0,r=>r
 | _,_,_+1,.nil=>.nil
 | _,_,n+1,.cons _ t=>Vals.drop n t
def RelO:Option V->Option aG->Prop
 | some v,some u=>RelV v u
 | none,none=>True
 | _,_=>False
def KV{κ:Type}:List (κ×V)->List (κ×Value)->Prop:=yK fun(p:κ×V) (q:κ×Value)=>p.1=q.1/\RelV p.2 q.2
def kV:Key->V
 | .inl i=>.int i
 | .inr x=>.str x
inductive HO where
 | lst (xs:List V)
 | tup (xs:List V)
 | dK (kvs:List (Key×V)) | dT (kvs:List (List Key×V))
 | set (S:Int->Bool) (n:Nat)
 | ins (C dx:aZ) (fs:List (Str×V))
 | own (x:aZ)
 | xd (fs:List (Str×V))
 | met (f x:aZ)
 | rng (lo hi:Int)
 | frz (o:Obj) (u:HO)
 | tbl (ps:Array aG)
 | ext (φ:fH->Prop)
abbrev Hp:=aZ->Option HO
def upd(H:Hp)(a:aZ)(o:HO):Hp:=fun b=>if b=a then some o else H b
theorem gw{H:Hp}{a:aZ}{o:HO}:upd H a o a=some o:=by unfold upd;rw[if_pos rfl]
theorem cu{H:Hp}{a b:aZ}{o:HO}(h:b≠a):upd H a o b=H b:=by unfold upd;rw[if_neg h]
theorem azf{H:Hp}{a:aZ}{o u:HO}:upd (upd H a o) a u=upd H a u:=by
 funext b;unfold upd;split <;> rfl
theorem jn{H:Hp}{a b:aZ}{o:HO}(h:H a=some o)(h':H b=none):a≠b:=by
 intro e;subst e;rw[h] at h';cases h'
section
variable(P:cF)(w:dR)
def xm(H:Hp)(h:fH)(a:aZ):HO->Prop
 | .lst xs=>xs.length<=cJ/\∃(its:List aG) (n:Nat),Vals xs its/\h.get? a=some { cls:=.type "list", data:=.seq its.toArray n }
 | .tup xs=>xs.length<=cJ/\∃its:List aG,Vals xs its/\IsTp h a its.toArray
 | .dK kvs=>kvs.length<=cJ/\(a==sysModules)=false/\∃vs,KV kvs vs/\h.DictOf (aj1 P w) a vs
 | .dT kvs=>kvs.length<=cJ/\(a==sysModules)=false/\∃xs:List (List Key×Addr×Value),
   yK (fun(p:List Key×V) (q:List Key×Addr×Value)=>p.1=q.1/\H q.2.1=some (.tup (p.1.map kV))/\RelV p.2 q.2.2) kvs xs /\
   ∃o es ep,h.get? a=some o/\o.ExactDict/\o.data=.dict es ep/\es.toList=xs.map (entryOfKey (tupleKind (aj1 P w)))/\(xs.map (·.1)).Nodup
 | .set S n=>h.SetOf (qL P w) a S n
 | .ins C dx fs=>H dx=some (.own a)/\fs.length<=1000/\dx≠a/\h.get? a=some (jP C dx) /\
   ∃mA,h.Ns1 dx mA/\(∀f,RelO (fs.lookup f) (mA f))/\PySem.Within mA (fs.map (·.1))
 | .own _=>∃o,h.get? a=some o
 | .xd fs=>∃mA,h.Ns1 a mA/\∀f,RelO (fs.lookup f) (mA f)
 | .rng lo hi=>∃t u v,h.get? a=some { cls:=.type "range", data:=.fields #[.int lo t,.int hi u,.int 1 v] }
 | .frz o u=>h.get? a=some o/\xm H h a u
 | .tbl ps=>h.get? a=some { cls:=.none,data:=.fields ps }
 | .met f x=>h.get? a=some (rD (.ref f) (.ref x))
 | .ext φ=>φ h/\(∃o,h.get? a=some o)/\∀h1 h2:fH,φ h1->(∀o,h1.get? a=some o->h2.get? a=some o)->φ h2
def HOk(H:Hp)(h:fH):Prop:=∀a o,H a=some o->xm P w H h a o
end
section
variable{P:cF}{w:dR}{H H':Hp}{h h':fH}{a:aZ}{o:HO}
theorem xm.lt(x:xm P w H h a o):a < h.objs.size:=by
 cases o with
 | lst xs=>obtain⟨_,_,_,_,e⟩:=x;exact aP e
 | tup xs=>obtain⟨_,_,_,p⟩:=x;exact p.tup.lt
 | dK kvs=>obtain⟨_,_,_,_,o,_,_,e,_⟩:=x;exact aP e
 | dT kvs=>obtain⟨_,_,_,_,o,_,_,e,_⟩:=x;exact aP e
 | set S n=>obtain⟨o,_,_,_,e,_⟩:=x;exact aP e
 | ins C dx fs=>obtain⟨_,_,_,e,_⟩:=x;exact aP e
 | own y=>obtain⟨_,e⟩:=x;exact aP e
 | xd fs=>obtain⟨_,⟨_,_,_,e,_⟩,_⟩:=x;exact aP e
 | rng lo hi=>obtain⟨_,_,_,e⟩:=x;exact aP e
 | frz ob u=>obtain⟨e,_⟩:=x;exact aP e
 | tbl ps=>exact aP (show h.get? a=some _ from x)
 | met f y=>exact aP (show h.get? a=some _ from x)
 | ext φ=>obtain⟨_,⟨_,e⟩,_⟩:=x;exact aP e
theorem Paired.mapP{α β:Type}{F G:α->β->Prop}:∀{l₁:List α} {l₂:List β},yK F l₁ l₂->(∀a b,F a b->G a b)->yK G l₁ l₂
 | _,_,.nil,_=>.nil
 | _,_,.cons r t,f=>.cons (f _ _ r) (Paired.mapP t f)
theorem xm.stay(x:xm P w H h a o)(k:∀b u,(b=a∨H b=some (.own a))->h.get? b=some u->h'.get? b=some u)
  (ho:∀b,H b=some (.own a)->H' b=some (.own a)) (ht:∀b xs,H b=some (.tup xs)->H' b=some (.tup xs)):xm P w H' h' a o:=by
 induction o with
 | lst xs=>obtain⟨z,its,n,r,e⟩:=x;exact⟨z,its,n,r,k _ _ (.inl rfl) e⟩
 | tup xs=>obtain⟨z,its,r,ob,e,c⟩:=x;exact⟨z,its,r,ob,k _ _ (.inl rfl) e,c⟩
 | dK kvs=>obtain⟨z,y,vs,r,ob,es,ep,e,c⟩:=x;exact⟨z,y,vs,r,ob,es,ep,k _ _ (.inl rfl) e,c⟩
 | dT kvs =>
  obtain⟨z,y,xs,r,ob,es,ep,e,c⟩:=x;exact⟨z,y,xs,Paired.mapP r fun p q z=>⟨z.1,ht _ _ z.2.1,z.2.2⟩,ob,es,ep,k _ _ (.inl rfl) e,c⟩
 | set S n=>obtain⟨ob,es,ep,t,e,c⟩:=x;exact⟨ob,es,ep,t,k _ _ (.inl rfl) e,c⟩
 | ins C dx fs =>
  obtain⟨d,z,ne,e,mA,⟨od,es,ep,e2,c⟩,r⟩:=x;exact⟨ho _ d,z,ne,k _ _ (.inl rfl) e,mA,⟨od,es,ep,k _ _ (.inr d) e2,c⟩,r⟩
 | own y=>obtain⟨ob,e⟩:=x;exact⟨ob,k _ _ (.inl rfl) e⟩
 | xd fs=>obtain⟨mA,⟨od,es,ep,e,c⟩,r⟩:=x;exact⟨mA,⟨od,es,ep,k _ _ (.inl rfl) e,c⟩,r⟩
 | rng lo hi=>obtain⟨t,u,v,e⟩:=x;exact⟨t,u,v,k _ _ (.inl rfl) e⟩
 | frz ob u ih=>obtain⟨e,q⟩:=x;exact⟨k _ _ (.inl rfl) e,ih q⟩
 | tbl ps =>
  have e:h.get? a=some { cls:=.none,data:=.fields ps }:=x;show h'.get? a=some { cls:=.none,data:=.fields ps };exact k a _ (.inl rfl) e
 | met f y =>
  have e:h.get? a=some (rD (.ref f) (.ref y)):=x;show h'.get? a=some (rD (.ref f) (.ref y));exact k a _ (.inl rfl) e
 | ext φ=>obtain⟨p,⟨o,e⟩,st⟩:=x;exact⟨st _ _ p fun o q=>k _ _ (.inl rfl) q,⟨o,k _ _ (.inl rfl) e⟩,st⟩
theorem HOk.lt(x:HOk P w H h)(e:H a=some o):a < h.objs.size:=(x a o e).lt
theorem HOk.fresh(x:HOk P w H h)(e:h.objs.size<=a):H a=none:=by
 cases q:H a with
 | none=>rfl
 | some u=>exact absurd (bW (x.lt q) e) (jW _)
theorem HOk.kept(x:HOk P w H h)(k:∀b u,h.get? b=some u->h'.get? b=some u):HOk P w H h':=fun a o e =>
 (x a o e).stay (fun b u _ q=>k b u q) (fun _ q=>q) fun _ _ q=>q
theorem HOk.laid(x:HOk P w H h)(k:∀b u,h.get? b=some u->h'.get? b=some u)(hp:h.objs.size<=a)(new:xm P w (upd H a o) h' a o):HOk P w (upd H a o) h':=fun b u e=>by
 have hn:=x.fresh hp
 by_cases hb:b=a
 ·subst hb;rw[gw] at e;cases e;exact new
 ·rw[cu hb] at e;exact(x b u e).stay (fun c v _ q=>k c v q) (fun c q=>by rw[cu (jn q hn)];exact q) fun c xs q=>by rw[cu (jn q hn)];exact q
end
def Rd(H:Hp)(a:aZ)(u:HO):Prop:=H a=some u∨∃o,H a=some (.frz o u)
theorem Rd.ok{P:cF}{w:dR}{H:Hp}{h:fH}{a:aZ}{u:HO}(r:Rd H a u)(x:HOk P w H h):xm P w H h a u:=by
 rcases r with r | ⟨o,r⟩
 ·exact x a u r
 ·obtain⟨_,q⟩:=x a _ r;exact q
def Mut:Option HO->Prop
 | some (.lst _)=>True
 | some (.dK _)=>True
 | some (.dT _)=>True
 | some (.set _ _)=>True
 | some (.ins _ _ _)=>True
 | some (.ext _)=>True
 | _=>False
section
variable{P:cF}{w:dR}{H:Hp}{h h':fH}{x e:aZ}{o':HO}
theorem HOk.write(ok:HOk P w H h)(mu:Mut (H x))(he:e=x∨H e=some (.own x))(k:∀b u,b≠e->h.get? b=some u->h'.get? b=some u)(heo:∃u,h'.get? e=some u)
  (new:xm P w (upd H x o') h' x o'):HOk P w (upd H x o') h':=fun b u q=>by
 have nown:∀c y,H c=some (.own y)->c≠x:=fun c y r z=>by subst z;rw[r] at mu;exact mu
 have ntup:∀c xs,H c=some (.tup xs)->c≠x:=fun c xs r z=>by subst z;rw[r] at mu;exact mu
 by_cases hb:b=x
 ·subst hb;rw[gw] at q;cases q;exact new
 ·rw[cu hb] at q
  by_cases hbe:b=e
  ·have q':H b=some (.own x):=by
    rcases he with z | z
    ·exact absurd (hbe.trans z) hb
    ·rw[hbe];exact z
   rw[q] at q';cases q';obtain⟨v,hv⟩:=heo;exact⟨v,by rw[hbe];exact hv⟩
  ·refine(ok b u q).stay (fun c v hc r=>k c v ?_ r) (fun c r=>by rw[cu (nown c b r)];exact r) fun c xs r=>by rw[cu (ntup c xs r)];exact r
   rcases hc with rfl | hc
   ·exact hbe
   ·rintro rfl
    rcases he with z | z
    ·exact nown c b hc z
    ·rw[hc] at z;cases z;exact hb rfl
end
structure Un (fs ex:List aZ) (H H':Hp) (h h':fH):Prop where
 keep:∀b o,h.get? b=some o->H b=none->b∉fs->b∉ex->h'.get? b=some o
 slot:∀b o,h.get? b=some o->H b=none->b∈fs->b∉ex->∃sl,h'.get? b=some { o with slots:=sl }
 free:∀b o,h.get? b=some o->H b=none->b∉ex->H' b=none
 there:∀b o,h.get? b=some o->b∉ex->∃o',h'.get? b=some o'
 tups:∀b xs,H b=some (.tup xs)->H' b=some (.tup xs)
 frzs:∀b o u,H b=some (.frz o u)->H' b=some (.frz o u)
 tbls:∀b ps,H b=some (.tbl ps)->∃more,H' b=some (.tbl (ps++more))
section
variable{fs fs' ex ex':List aZ}{H H1 H2:Hp}{h h1 h2 h':fH}{a x e:aZ}{o:HO}
theorem Un.any(u:Un fs ex H H1 h h1){b:aZ}{ob:Obj}(q:h.get? b=some ob)(n:H b=none)(hx:b∉ex):∃sl,h1.get? b=some { ob with slots:=sl }:=by
 by_cases hb:b∈fs
 ·exact u.slot b ob q n hb hx
 ·exact⟨ob.slots,u.keep b ob q n hb hx⟩
theorem Un.kept(k:∀b u,h.get? b=some u->h'.get? b=some u):Un fs ex H H h h' :=
 ⟨fun b ob q _ _ _=>k b ob q,fun b ob q _ _ _=>⟨ob.slots,k b ob q⟩,fun _ _ _ n _=>n,fun b ob q _=>⟨ob,k b ob q⟩,fun _ _ q=>q,fun _ _ _ q=>q,fun _ ps q=>⟨#[],by rw[q];simp⟩⟩
theorem Un.refl:Un fs ex H H h h:=Un.kept fun _ _ q=>q
theorem Un.laid(k:∀b u,h.get? b=some u->h'.get? b=some u)(hp:h.objs.size<=a)(hn:H a=none):Un fs ex H (upd H a o) h h' where
 keep:=fun b u q _ _ _=>k b u q
 slot:=fun b u q _ _ _=>⟨u.slots,k b u q⟩
 free:=fun b u q n _=>by rw[cu (bI (bW (aP q) hp))];exact n
 there:=fun b u q _=>⟨u,k b u q⟩
 tups:=fun b xs q=>by rw[cu (jn q hn)];exact q
 frzs:=fun b u xs q=>by rw[cu (jn q hn)];exact q
 tbls:=fun b ps q=>⟨#[],by rw[cu (jn q hn),q];simp⟩
theorem Un.write(mu:Mut (H x))(he:e=x∨H e=some (.own x))(k:∀b u,b≠e->h.get? b=some u->h'.get? b=some u)(heo:∃u,h'.get? e=some u):Un fs ex H (upd H x o) h h':=by
 have hx:∀b,H b=none->b≠x:=fun b n z=>by subst z;rw[n] at mu;exact mu
 have hb:∀b,H b=none->b≠e:=fun b n z=>by
  subst z;rcases he with r | r
  ·exact hx b n r
  ·rw[n] at r;cases r
 have hm:∀b u,H b=some u->¬Mut (some u)->b≠x:=fun b u q nm z=>by subst z;rw[q] at mu;exact nm mu
 refine⟨fun b u q n _ _=>k b u (hb b n) q,fun b u q n _ _=>⟨u.slots,k b u (hb b n) q⟩,fun b u q n _=>by rw[cu (hx b n)];exact n,fun b u q _ =>?_,
  fun b xs q=>by rw[cu (hm b _ q fun z=>z)];exact q,fun b u xs q=>by rw[cu (hm b _ q fun z=>z)];exact q,fun b ps q=>⟨#[],by rw[cu (hm b _ q fun z=>z),q];simp⟩⟩
 by_cases hbe:b=e
 ·subst hbe;exact heo
 ·exact⟨u,k b u hbe q⟩
end
def trk(h:fH)(H:Hp):List aZ:=(aK h.objs.size).filter fun a=>(H a).isSome
def hidT(h:fH)(H:Hp):fH:=PySem.W.hideAll h (trk h H)
theorem at8(h:fH)(H:Hp):(hidT h H).objs.size=h.objs.size:=PySem.W.hideAll_size _ _
theorem axf{h:fH}{H:Hp}{b:aZ}{o:Obj}(e:h.get? b=some o)(n:H b=none):(hidT h H).get? b=some o :=
 PySem.W.hideAll_get _ e fun hm=>by
  have q:(H b).isSome=true:=(bQ.mp hm).2;rw[n] at q;simp at q
theorem a0p{h:fH}{H:Hp}{b:aZ}{o:Obj}(e:(hidT h H).get? b=some o):h.get? b=some o/\H b=none:=by
 have e':h.get? b=some o:=PySem.W.of_hideAll (trk h H) e;refine⟨e',?_⟩;cases q:H b with
 | none=>rfl
 | some x =>
  have hm:b∈trk h H:=bQ.mpr ⟨List.mem_range.mpr (aP e'),by simp[q]⟩
  have z:(hidT h H).get? b=none:=PySem.W.hideAll_none (trk h H) hm;rw[z] at e;cases e
def a2g(g h:fH)(L:aZ):List (aZ×Obj):=(aK h.objs.size).filterMap fun a=>if a=L∨(g.get? a).isSome=true then none else (h.get? a).map fun o=>(a,o)
def rest(g h:fH)(L d:aZ):List (aZ×Obj):=(a2g g h L).filter fun p=>decide (p.1≠d)
structure Mod (K:Fg9) (mg:Str->Option aG) (base:fH):Prop where
 kin:K.In base
 glob:base.Ns bB mg
 blt:∃mb,base.Ns builtinsNs mb/\∀x:Str,x ≠ "__name__" -> mb x=bT x
 nolimit:base.NoLimit
structure Cx where
 prog:cF
 w:dR
 K:Fg9
 mg:Str->Option aG
 base:fH
 A:cQ
 N:List Str
 s₀:aJ
 H₀:Hp
 env:Env
 outer:List Env
 stack:List Env
 ex:List aZ
 fn:Str->Bool
 calm:Bool
 pn:List (aZ×Obj)
 xe:aG->aJ->Prop
def frs(l:List Env):List aZ:=l.filterMap (·.frame)
abbrev Cx.fs(X:Cx):List aZ:=frs X.outer
def Vis(sc:lX)(x:Str):Prop:=sc.names.lookup x=some .local∨sc.names.lookup x=some .cell∨sc.names.lookup x=some .free
def Loc(sc:lX)(x:Str):Prop:=sc.names.lookup x=some .local∨sc.names.lookup x=some .cell
def Look(env:Env)(h:fH)(m:Str->Option aG)(x:Str)(u:aG):Prop :=
 (env.kindOf x=some .local/\m x=some u)∨((env.kindOf x=some .cell∨env.kindOf x=some .free)/\∃c,env.cells.lookup x=some c/\h.IsCell c (some u))
structure Cx.Ok (X:Cx):Prop where
 mod:Mod X.K X.mg X.base
 kind:X.env.scope.kind=.function
 glob:X.env.globals=bB
 blt:X.env.builtins=builtinsNs
 above:X.s₀.heap.objs.size<=X.env.locals
 inj:∀x y c,X.env.cells.lookup x=some c->X.env.cells.lookup y=some c->x=y
 has:∀x,(X.env.kindOf x=some .cell∨X.env.kindOf x=some .free)->∃c,X.env.cells.lookup x=some c
 cab:∀x c,X.fn x=true->X.env.cells.lookup x=some c->X.s₀.heap.objs.size<=c
 hd:X.calm=true->X.A.handled=none
 frames:X.A.frames=some X.stack
 stk:X.stack=X.outer∨(X.stack=X.env::X.outer/\X.env.frame=some X.env.locals)
 exf:∀b∈X.ex,b≠X.env.locals/\∀x c,X.env.cells.lookup x=some c->c≠b
 bs:∀b o,X.base.get? b=some o->X.s₀.heap.get? b=some o/\X.H₀ b=none
 bsz:X.base.objs.size<=X.s₀.heap.objs.size
 noex:∀b o,X.base.get? b=some o->b∉X.ex
 exfs:∀b∈X.ex,b∉X.fs
 funs:X.s₀.heap.FunFrames X.base X.outer
 frf:∀b∈X.fs,X.H₀ b=none
structure Inv (X:Cx) (zv:List (aZ×Obj)) (σ:List (Option V)) (H:Hp) (s:aJ):Prop where
 ok:X.Ok
 os:s.os=X.s₀.os
 bare:qC s.gens
 base:Un X.fs X.ex X.H₀ H X.s₀.heap s.heap
 loc:∃m,s.heap.Ns X.env.locals m/\∀(i:Nat) (x:Str) (v:V),X.N[i]? = some x->σ[i]? = some (some v)->Vis X.env.scope x->∃u,RelV v u/\Look X.env s.heap m x u
 cell:∀x c,X.env.cells.lookup x=some c->∃v,s.heap.IsCell c v
 free:H X.env.locals=none
 freeC:∀x c,X.env.cells.lookup x=some c->H c=none
 pin:∀p∈X.pn++zv,s.heap.get? p.1=some p.2/\H p.1=none/\p.1≠X.env.locals/\p.1∉X.fs/\∀v,p.2.data≠.cell v
 hok:HOk X.prog X.w H s.heap
 len:σ.length=X.N.length
section
variable{X:Cx}{zv:List (aZ×Obj)}{σ:List (Option V)}{H H':Hp}{s:aJ}{h':fH}
theorem Cx.Ok.nofr(ok:X.Ok){b:aZ}{o:Obj}(e:X.base.get? b=some o):b∉X.fs:=fun hb=>by
 have:=(ok.funs.mem hb).1;rw[e] at this;cases this
theorem Inv.bs(I:Inv X zv σ H s):∀b o,X.base.get? b=some o->s.heap.get? b=some o/\H b=none:=fun b o e =>
 ⟨I.base.keep b o (I.ok.bs b o e).1 (I.ok.bs b o e).2 (I.ok.nofr e) (I.ok.noex b o e),I.base.free b o (I.ok.bs b o e).1 (I.ok.bs b o e).2 (I.ok.noex b o e)⟩
theorem Inv.bk(I:Inv X zv σ H s):∀b o,X.base.get? b=some o->s.heap.get? b=some o:=fun b o e=>(I.bs b o e).1
theorem Inv.mod(I:Inv X zv σ H s):Mod X.K X.mg X.base:=I.ok.mod
theorem Inv.kIn(I:Inv X zv σ H s):X.K.In s.heap:=I.ok.mod.kin.keeps I.bk
theorem Inv.lt(I:Inv X zv σ H s):X.env.locals < s.heap.objs.size:=let ⟨_,hn,_⟩:=I.loc;hn.lt
theorem Inv.sz(I:Inv X zv σ H s):X.s₀.heap.objs.size<=s.heap.objs.size:=cL I.ok.above (nF I.lt)
theorem Inv.nofs(I:Inv X zv σ H s){a:aZ}(h:s.heap.objs.size<=a):a∉X.fs:=fun hb=>by
 obtain⟨_,o,ho,_⟩:=I.ok.funs.mem hb;exact absurd (bW (aP ho) (cL I.sz h)) (jW _)
theorem Inv.cne(I:Inv X zv σ H s):∀x c,X.env.cells.lookup x=some c->c≠X.env.locals:=fun x c e z=>by
 obtain⟨v,o,ho,hd⟩:=I.cell x c e;obtain⟨m,⟨o',es,ep,ho',hd',_⟩,_⟩:=I.loc;rw[z,ho'] at ho;cases ho;rw[hd'] at hd;cases hd
theorem Inv.funs(I:Inv X zv σ H s):s.heap.FunFrames X.base X.outer:=by
 have all:∀(l:List Env),(∀b∈frs l,b∈X.fs)->X.s₀.heap.FunFrames X.base l->s.heap.FunFrames X.base l:=by
  intro l
  induction l with
  | nil=>intro _ _;trivial
  | cons env r ih =>
   intro hs hl;obtain⟨hk,⟨L,o,hf,hn,ho,hd⟩,hr⟩:=hl;have hL:L∈X.fs:=hs L (by unfold frs;rw[iJ,hf];exact aR)
   obtain⟨sl,e⟩:=I.base.slot L o ho (I.ok.frf L hL) hL fun z=>I.ok.exfs L z hL
   exact⟨hk,⟨L,_,hf,hn,e,hd⟩,ih (fun b hb=>hs b (by unfold frs;rw[iJ,hf];exact aN _ hb)) hr⟩
 exact all X.outer (fun _ hb=>hb) I.ok.funs
theorem Inv.stack(I:Inv X zv σ H s):s.heap.FunFrames X.base X.stack:=by
 rcases I.ok.stk with e | ⟨e,hf⟩
 ·rw[e];exact I.funs
 ·rw[e];obtain⟨m,hn,_⟩:=I.loc;refine .cons (by rw[I.ok.kind];decide) hf hn ?_ I.funs
  exact kI (cL I.ok.bsz I.ok.above)
theorem Inv.stkSub(I:Inv X zv σ H s):∀b∈frs X.stack,b∈X.env.locals::X.fs:=fun b hb=>by
 rcases I.ok.stk with e | ⟨e,hf⟩
 ·rw[e] at hb;exact aN _ hb
 ·rw[e] at hb;unfold frs at hb;rw[iJ,hf] at hb;exact hb
theorem Inv.stkFree(I:Inv X zv σ H s):∀b∈frs X.stack,H b=none:=fun b hb=>by
 rcases bD.mp (I.stkSub b hb) with e | hb
 ·rw[e];exact I.free
 ·obtain⟨_,o,ho,_⟩:=I.ok.funs.mem hb;exact I.base.free b o ho (I.ok.frf b hb) fun z=>I.ok.exfs b z hb
theorem Inv.step{g':Array GenState}{t':Nat}{d':Drawn}{ch:List aZ}(I:Inv X zv σ H s)
  (hch:∀b∈ch,(b∈X.ex∨X.s₀.heap.objs.size<=b)/\b≠X.env.locals/\(∀x c,X.env.cells.lookup x=some c->c≠b)/\∀p∈X.pn++zv,p.1≠b)
  (keep:∀b o,b≠X.env.locals->b∉X.fs->b∉ch->s.heap.get? b=some o->H b=none->h'.get? b=some o)
  (slot:∀b o,b≠X.env.locals->b∈X.fs->b∉ch->s.heap.get? b=some o->H b=none->∃sl,h'.get? b=some { o with slots:=sl }) (free:∀b o,b∉ch->s.heap.get? b=some o->H b=none->H' b=none)
  (there:∀b o,b∉ch->s.heap.get? b=some o->∃o',h'.get? b=some o')
  (tups:∀b xs,H b=some (.tup xs)->H' b=some (.tup xs)) (frzs:∀b o u,H b=some (.frz o u)->H' b=some (.frz o u)) (tbls:∀b ps,H b=some (.tbl ps)->∃more,H' b=some (.tbl (ps++more)))
  (ns:∀m,s.heap.Ns X.env.locals m->h'.Ns X.env.locals m) (hok:HOk X.prog X.w H' h') (hg:qC g') :
  Inv X zv σ H' { s with heap:=h',gens:=g',drawn:=d',toks:=t' }:=by
 have neL:∀b o,X.s₀.heap.get? b=some o->b≠X.env.locals:=fun b o e=>bI (bW (aP e) I.ok.above)
 have neC:∀b o,X.s₀.heap.get? b=some o->b∉X.ex->b∉ch:=fun b o e hx hb=>by
  rcases(hch b hb).1 with z | z
  ·exact hx z
  ·exact absurd (bW (aP e) z) (jW _)
 have cellK:∀x c,X.env.cells.lookup x=some c->∀v,s.heap.IsCell c v->h'.IsCell c v:=fun x c e v hq0=>by
  obtain⟨o,ho,hd⟩:=hq0;have nch:c∉ch:=fun z=>(hch c z).2.2.1 x c e rfl
  by_cases hc:c∈X.fs
  ·obtain⟨sl,q⟩:=slot c o (I.cne x c e) hc nch ho (I.freeC x c e);exact⟨_,q,hd⟩
  ·exact⟨o,keep c o (I.cne x c e) hc nch ho (I.freeC x c e),hd⟩
 refine⟨I.ok,I.os,hg,⟨fun b o e n hb hx =>?_,fun b o e n hb hx =>?_,fun b o e n hx =>?_,fun b o e hx =>?_,fun b xs e=>tups b xs (I.base.tups b xs e),fun b o xs e=>frzs b o xs (I.base.frzs b o xs e),fun b ps e =>?_⟩,?_,fun x c e =>?_,?_,fun x c e =>?_,fun p hp =>?_,hok,I.len⟩
 ·exact keep b o (neL b o e) hb (neC b o e hx) (I.base.keep b o e n hb hx) (I.base.free b o e n hx)
 ·obtain⟨sl,e1⟩:=I.base.slot b o e n hb hx;obtain⟨sl',e2⟩:=slot b _ (neL b o e) hb (neC b o e hx) e1 (I.base.free b o e n hx);exact⟨sl',e2⟩
 ·obtain⟨o',e1⟩:=I.base.there b o e hx;exact free b o' (neC b o e hx) e1 (I.base.free b o e n hx)
 ·obtain⟨o',e1⟩:=I.base.there b o e hx;exact there b o' (neC b o e hx) e1
 ·obtain⟨m1,e1⟩:=I.base.tbls b ps e;obtain⟨m2,e2⟩:=tbls b _ e1;exact⟨m1++m2,by rw[e2,Array.append_assoc]⟩
 ·obtain⟨m,hn,hl⟩:=I.loc;refine⟨m,ns m hn,fun i x v e1 e2 e3 =>?_⟩
  obtain⟨u,r,l⟩:=hl i x v e1 e2 e3;refine⟨u,r,?_⟩;rcases l with l | ⟨k,c,e,z⟩
  ·exact .inl l
  ·exact .inr ⟨k,c,e,cellK x c e _ z⟩
 ·obtain⟨v,z⟩:=I.cell x c e;exact⟨v,cellK x c e v z⟩
 ·obtain⟨m,⟨o,_,_,ho,_⟩,_⟩:=I.loc;exact free _ o (fun z=>(hch _ z).2.1 rfl) ho I.free
 ·obtain⟨v,o,ho,hd⟩:=I.cell x c e;exact free c o (fun z=>(hch c z).2.2.1 x c e rfl) ho (I.freeC x c e)
 ·obtain⟨e,n,ne,nf,d⟩:=I.pin p hp;have nch:p.1∉ch:=fun z=>(hch p.1 z).2.2.2 p hp rfl
  exact⟨keep p.1 p.2 ne nf nch e n,free p.1 p.2 nch e n,ne,nf,d⟩
theorem Inv.un{t':Nat}(I:Inv X zv σ H s)(u:Un X.fs [] H H' s.heap h')(hok:HOk X.prog X.w H' h'):Inv X zv σ H' { s with heap:=h',toks:=t' }:=by
 obtain⟨m,⟨o,es,ep,ho,r⟩,_⟩:=id I.loc;obtain⟨sl,hL⟩:=u.any ho I.free (by simp)
 exact I.step (g':=s.gens) (d':=s.drawn) (ch:=[]) (fun _ z=>nomatch z) (fun b o _ hb _ e n=>u.keep b o e n hb (by simp)) (fun b o _ hb _ e n=>u.slot b o e n hb (by simp)) (fun b o _ e n=>u.free b o e n (by simp)) (fun b o _ e=>u.there b o e (by simp)) u.tups u.frzs u.tbls (fun m' hm=>by
  obtain⟨o',es',ep',ho',r'⟩:=hm;rw[ho] at ho';cases ho';exact⟨_,es',ep',hL,r'⟩) hok I.bare
theorem Inv.call{g':Array GenState}{t':Nat}{d':Drawn}{ch:List aZ}(I:Inv X zv σ H s)(u:Un (frs X.stack) ch H H' s.heap h')(hok:HOk X.prog X.w H' h')(hg:qC g')
  (hch:∀b∈ch,(b∈X.ex∨X.s₀.heap.objs.size<=b)/\b≠X.env.locals/\(∀x c,X.env.cells.lookup x=some c->c≠b)/\∀p∈X.pn++zv,p.1≠b) :
  Inv X zv σ H' { s with heap:=h',gens:=g',drawn:=d',toks:=t' }:=by
 obtain⟨m,⟨o,es,ep,ho,r⟩,_⟩:=id I.loc;obtain⟨sl,hL⟩:=u.any ho I.free fun z=>(hch _ z).2.1 rfl
 exact I.step (ch:=ch) hch (fun b o hL hb hc e n=>u.keep b o e n (fun z=>(bD.mp (I.stkSub b z)).elim hL hb) hc) (fun b o _ _ hc e n=>u.any e n hc) (fun b o hc e n=>u.free b o e n hc) (fun b o hc e=>u.there b o e hc) u.tups u.frzs u.tbls (fun m' hm=>by
  obtain⟨o',es',ep',ho',r'⟩:=hm;rw[ho] at ho';cases ho';exact⟨_,es',ep',hL,r'⟩) hok hg
theorem Inv.turned{t':Nat}{it:aZ}(I:Inv X zv σ H s)(k:∀b o,b≠it->s.heap.get? b=some o->h'.get? b=some o)(hn:H it=none)(hL:it≠X.env.locals)
  (h1:it∈X.ex∨X.s₀.heap.objs.size<=it) (h2:∀x c,X.env.cells.lookup x=some c->c≠it) (h3:∀p∈X.pn++zv,p.1≠it):Inv X zv σ H { s with heap:=h',toks:=t' }:=by
 have nit:∀b u,H b=some u->b≠it:=fun b u e z=>by rw[z,hn] at e;cases e
 refine I.step (g':=s.gens) (d':=s.drawn) (ch:=[it]) (fun b hb =>?_) (fun b o _ _ hc e _=>k b o (fun z=>hc (by simp[z])) e) (fun b o _ _ hc e _=>⟨o.slots,k b o (fun z=>hc (by simp[z])) e⟩) (fun _ _ _ _ n=>n)
  (fun b o hc e=>⟨o,k b o (fun z=>hc (by simp[z])) e⟩) (fun _ _ e=>e) (fun _ _ _ e=>e) (fun b ps e=>⟨#[],by rw[e];simp⟩) (fun m hm =>?_) (fun b u e =>?_) I.bare
 ·have e:b=it:=by simpa using hb
  subst e;exact⟨h1,hL,h2,h3⟩
 ·obtain⟨o,es,ep,ho,r⟩:=hm;exact⟨o,es,ep,k _ o (fU hL) ho,r⟩
 ·refine(I.hok b u e).stay (fun c v hc q=>k c v ?_ q) (fun _ q=>q) fun _ _ q=>q
  rcases hc with z | z
  ·rw[z];exact nit b u e
  ·exact nit c _ z
theorem Inv.tok(I:Inv X zv σ H s)(t:Nat):Inv X zv σ H { s with toks:=t }:=I.un (h':=s.heap) (t':=t) Un.refl I.hok
theorem Inv.kept{t':Nat}(I:Inv X zv σ H s)(k:∀b u,s.heap.get? b=some u->h'.get? b=some u):Inv X zv σ H { s with heap:=h',toks:=t' }:=I.un (Un.kept k) (I.hok.kept k)
theorem Inv.laid{a:aZ}{o:HO}{t':Nat}(I:Inv X zv σ H s)(k:∀b u,s.heap.get? b=some u->h'.get? b=some u)(hp:s.heap.objs.size<=a)(new:xm X.prog X.w (upd H a o) h' a o) :
  Inv X zv σ (upd H a o) { s with heap:=h',toks:=t' }:=I.un (Un.laid k hp (I.hok.fresh hp)) (I.hok.laid k hp new)
theorem Inv.write{x e:aZ}{o:HO}{t':Nat}(I:Inv X zv σ H s)(mu:Mut (H x))(he:e=x∨H e=some (.own x))(k:∀b u,b≠e->s.heap.get? b=some u->h'.get? b=some u)(heo:∃u,h'.get? e=some u)
  (new:xm X.prog X.w (upd H x o) h' x o):Inv X zv σ (upd H x o) { s with heap:=h',toks:=t' }:=I.un (Un.write mu he k heo) (I.hok.write mu he k heo new)
theorem Inv.pins_of{pins':List (aZ×Obj)}(I:Inv X zv σ H s)(h:∀p∈pins',s.heap.get? p.1=some p.2/\H p.1=none/\p.1≠X.env.locals/\p.1∉X.fs/\∀v,p.2.data≠.cell v):Inv X pins' σ H s :=
 ⟨I.ok,I.os,I.bare,I.base,I.loc,I.cell,I.free,I.freeC,fun p hp=>(cX.mp hp).elim (fun z=>I.pin p (gB _ z)) (h p),I.hok,I.len⟩
theorem aj0{N:List Str}(hN:N.Nodup){i j:Nat}{x:Str}(a:N[i]? = some x)(b:N[j]? = some x):i=j:=by
 obtain⟨h1,e1⟩:=aQ.mp a;obtain⟨h2,e2⟩:=aQ.mp b;exact(List.getElem_inj hN).mp (e1.trans e2.symm)
theorem akx{M:uX}{A:cQ}{E:aG->aJ->Prop}{i:Nat}{x:Str}{v:V}{u:aG}{Q:Unit->aJ->Prop}(I:Inv X zv σ H s)(hN:X.N.Nodup)(hi:X.N[i]? = some x)(hx:Loc X.env.scope x)(r:RelV v u)
  (h:∀s',Inv X zv (σ.set i (some v)) H s'->(∃a,fJ a s.heap s'.heap/\(a=X.env.locals∨X.env.cells.lookup x=some a))->Q () s') (hf:X.fn x=true∨X.env.scope.names.lookup x=some .local:=by first | exact .inl rfl | exact .inr rfl | assumption):bK M A (storeName X.env x u) Q E s:=by
 obtain⟨m,hn,hl⟩:=id I.loc;have hcls:(X.env.scope.kind==.class||(X.env.scope.kind==.module&&X.env.locals != X.env.globals))=false:=by rw[I.ok.kind];rfl
 have hiσ:i < σ.length:=by rw[I.len];exact(aQ.mp hi).1
 have cne:=I.cne;have tracked:∀{a:aZ} {h':fH},(∃o,s.heap.get? a=some o/\H a=none)->fJ a s.heap h'->HOk X.prog X.w H h':=fun{a h'} ha hs b ob e=>by
  obtain⟨_,_,hfree⟩:=ha;refine(I.hok b ob e).stay (fun c w' hc q=>(hs.2 c ?_).trans q) (fun _ q=>q) fun _ _ q=>q
  rintro rfl
  rcases hc with rfl | hc
  ·rw[hfree] at e;cases e
  ·rw[hfree] at hc;cases hc
 rcases hx with hk | hk
 ·refine wpAny_storeName_local hk hn (fun h' hn' hs =>?_) hcls
  obtain⟨oL,_,_,hoL,_⟩:=id hn;refine h _ ⟨I.ok,I.os,I.bare,⟨fun b o e n hb hx =>?_,fun b o e n hb hx =>?_,I.base.free,fun b o e hx =>?_,I.base.tups,I.base.frzs,I.base.tbls⟩,⟨_,hn',fun j y v' e1 e2 e3 =>?_⟩,fun y c e =>?_,I.free,I.freeC,fun p hp =>?_,tracked ⟨oL,hoL,I.free⟩ hs,by simpa using I.len⟩ ⟨_,hs,.inl rfl⟩
  ·exact(hs.2 b (bI (bW (aP e) I.ok.above))).trans (I.base.keep b o e n hb hx)
  ·obtain⟨sl,e1⟩:=I.base.slot b o e n hb hx;exact⟨sl,(hs.2 b (bI (bW (aP e) I.ok.above))).trans e1⟩
  ·obtain⟨o',e1⟩:=I.base.there b o e hx;exact⟨o',(hs.2 b (bI (bW (aP e) I.ok.above))).trans e1⟩
  ·by_cases hj:j=i
   ·subst hj;rw[hi] at e1;cases e1;rw[lW hiσ] at e2;cases e2;exact⟨u,r,.inl ⟨hk,by simp⟩⟩
   ·rw[mJ (fU hj)] at e2;obtain⟨u',r',q⟩:=hl j y v' e1 e2 e3;refine⟨u',r',?_⟩;rcases q with⟨k,e⟩ | ⟨k,c,e,z⟩
    ·refine .inl ⟨k,?_⟩;have:y≠x:=fun e=>hj (aj0 hN e1 (e▸hi))
     simp[this,e]
    ·exact .inr ⟨k,c,e,z.sameBut hs (cne y c e)⟩
  ·obtain⟨w',z⟩:=I.cell y c e;exact⟨w',z.sameBut hs (cne y c e)⟩
  ·obtain⟨e,n,ne,nf,d⟩:=I.pin p hp;exact⟨(hs.2 p.1 ne).trans e,n,ne,nf,d⟩
 ·have hfn:X.fn x=true:=by
   rcases hf with z | z
   ·exact z
   ·rw[z] at hk;cases hk
  obtain⟨c,hc⟩:=I.ok.has x (.inl hk);obtain⟨w',z⟩:=I.cell x c hc;refine wpAny_storeName_cell I.ok.kind hk hc z (fun h' hc' hs =>?_)
  obtain⟨oc,hoc,hocd⟩:=id z;refine h { s with heap:=h' } ⟨I.ok,I.os,I.bare,⟨fun b o e n hb hx =>?_,fun b o e n hb hx =>?_,I.base.free,fun b o e hx =>?_,I.base.tups,I.base.frzs,I.base.tbls⟩,⟨m,hn.sameBut hs (fU (cne x c hc)),fun j y v' e1 e2 e3 =>?_⟩,fun y c' e =>?_,I.free,I.freeC,fun p hp =>?_,tracked ⟨oc,hoc,I.freeC x c hc⟩ hs,by simpa using I.len⟩ ⟨c,hs,.inr hc⟩
  ·exact(hs.2 b (bI (bW (aP e) (I.ok.cab x c hfn hc)))).trans (I.base.keep b o e n hb hx)
  ·obtain⟨sl,e1⟩:=I.base.slot b o e n hb hx;exact⟨sl,(hs.2 b (bI (bW (aP e) (I.ok.cab x c hfn hc)))).trans e1⟩
  ·obtain⟨o',e1⟩:=I.base.there b o e hx;exact⟨o',(hs.2 b (bI (bW (aP e) (I.ok.cab x c hfn hc)))).trans e1⟩
  ·by_cases hj:j=i
   ·subst hj;rw[hi] at e1;cases e1;rw[lW hiσ] at e2;cases e2;exact⟨u,r,.inr ⟨.inl hk,c,hc,hc'⟩⟩
   ·rw[mJ (fU hj)] at e2;obtain⟨u',r',q⟩:=hl j y v' e1 e2 e3;refine⟨u',r',?_⟩;rcases q with q | ⟨k,c',e,z'⟩
    ·exact .inl q
    ·refine .inr ⟨k,c',e,z'.sameBut hs ?_⟩
     rintro rfl
     exact hj (aj0 hN e1 (I.ok.inj _ _ _ e hc▸hi))
  ·by_cases hcc:c'=c
   ·subst hcc;exact⟨_,hc'⟩
   ·obtain⟨w2,z2⟩:=I.cell y c' e;exact⟨w2,z2.sameBut hs hcc⟩
  ·obtain⟨e,n,ne,nf,d⟩:=I.pin p hp;refine⟨(hs.2 p.1 ?_).trans e,n,ne,nf,d⟩;intro q;rw[q,hoc] at e;have q':oc=p.2:=bU e;exact d w' (by rw[<-q'];exact hocd)
theorem acp{M:uX}{A:cQ}{E:aG->aJ->Prop}{i:Nat}{x:Str}{v:V}{u:aG}{Q:Unit->aJ->Prop}(I:Inv X zv σ H s)(hN:X.N.Nodup)(hi:X.N[i]? = some x)(hx:Loc X.env.scope x)(r:RelV v u)
  (h:∀s',Inv X zv (σ.set i (some v)) H s'->Q () s') (hf:X.fn x=true∨X.env.scope.names.lookup x=some .local:=by first | exact .inl rfl | exact .inr rfl | assumption):bK M A (storeName X.env x u) Q E s :=
 akx I hN hi hx r (fun s' I' _=>h s' I') hf
theorem Inv.call'{s':aJ}{ch:List aZ}(I:Inv X zv σ H s)(ho:s'.os=s.os)(u:Un (frs X.stack) ch H H' s.heap s'.heap)(hok:HOk X.prog X.w H' s'.heap)(hg:qC s'.gens)
  (hch:∀b∈ch,(b∈X.ex∨X.s₀.heap.objs.size<=b)/\b≠X.env.locals/\(∀x c,X.env.cells.lookup x=some c->c≠b)/\∀p∈X.pn++zv,p.1≠b):Inv X zv σ H' s':=by
 obtain⟨h',g',d',t',o'⟩:=s';have e:o'=s.os:=ho;subst e;exact I.call (g':=g') (t':=t') (d':=d') u hok hg hch
end
abbrev XK:=aG->Option aZ->Hp->Prop
abbrev St:=List (Option V)
abbrev VK:=V->Hp->Prop
abbrev TE:=St->Hp->VK->Prop
abbrev TT:=St->Hp->(Bool->Hp->Prop)->Prop
abbrev TA:=St->Hp->(List V->Hp->Prop)->Prop
structure Ends where
 nx:St->Hp->Prop
 rt:VK
 bk:St->Hp->Prop:=fun _ _=>False
 ct:St->Hp->Prop:=fun _ _=>False
abbrev TS:=Ends->St->Hp->Prop
def EP(X:Cx)(zv:List (aZ×Obj))(σ:St)(Q:VK)(u:aG)(s':aJ):Prop:=∃v H',Inv X zv σ H' s'/\RelV v u/\Q v H'
def TP(X:Cx)(zv:List (aZ×Obj))(σ:St)(Q:Bool->Hp->Prop)(b:Bool)(s':aJ):Prop:=∃H',Inv X zv σ H' s'/\Q b H'
def AP(X:Cx)(zv:List (aZ×Obj))(σ:St)(Q:List V->Hp->Prop)(us:List aG)(s':aJ):Prop:=∃vs H',Inv X zv σ H' s'/\Vals vs us/\Q vs H'
def SP(X:Cx)(zv:List (aZ×Obj))(D:Ends)(f:Flow)(s':aJ):Prop :=
 match f with
 | .next=>∃σ' H',Inv X zv σ' H' s'/\D.nx σ' H'
 | .brk=>∃σ' H',Inv X zv σ' H' s'/\D.bk σ' H'
 | .cont=>∃σ' H',Inv X zv σ' H' s'/\D.ct σ' H'
 | .ret u=>∃v σ' H',Inv X zv σ' H' s'/\RelV v u/\D.rt v H'
def PE(X:Cx)(e:dW)(t:TE):Prop :=
 ∀(zv:List (aZ×Obj)) (s:aJ) (σ:St) (H:Hp) (Q:VK),Inv X zv σ H s->t σ H Q->bK (bR X.prog X.w) X.A (eval e X.env) (EP X zv σ Q) X.xe s
def PT(X:Cx)(e:dW)(t:TT):Prop :=
 ∀(zv:List (aZ×Obj)) (s:aJ) (σ:St) (H:Hp) (Q:Bool->Hp->Prop),Inv X zv σ H s->t σ H Q->bK (bR X.prog X.w) X.A (isTrue e X.env (eval e X.env)) (TP X zv σ Q) X.xe s
def PW(X:Cx)(e:dW)(t:TT):Prop :=
 ∀(whole:Sem aG) (zv:List (aZ×Obj)) (s:aJ) (σ:St) (H:Hp) (Q:Bool->Hp->Prop),Inv X zv σ H s->t σ H Q->bK (bR X.prog X.w) X.A (isTrue e X.env whole) (TP X zv σ Q) X.xe s
theorem PW.pt{X:Cx}{e:dW}{t:TT}(h:PW X e t):PT X e t:=h _
def PA(X:Cx)(es:List dW)(t:TA):Prop :=
 ∀(pos:Pos) (zv:List (aZ×Obj)) (s:aJ) (σ:St) (H:Hp) (Q:List V->Hp->Prop),Inv X zv σ H s->t σ H Q->bK (bR X.prog X.w) X.A (spliced (jB pos (aX es X.env))) (AP X zv σ Q) X.xe s
def PS(X:Cx)(st:iM)(t:TS):Prop :=
 ∀(zv:List (aZ×Obj)) (s:aJ) (σ:St) (H:Hp) (D:Ends),Inv X zv σ H s->t D σ H->bK (bR X.prog X.w) X.A (exec st X.env) (SP X zv D) X.xe s
def PSs(X:Cx)(st:List iM)(t:TS):Prop :=
 ∀(zv:List (aZ×Obj)) (s:aJ) (σ:St) (H:Hp) (D:Ends),Inv X zv σ H s->t D σ H->bK (bR X.prog X.w) X.A (execs st X.env) (SP X zv D) X.xe s
theorem thn{α:Type}{t:Sem α}{Q Q':α->aJ->Prop}{M:uX}{A:cQ}{E:aG->aJ->Prop}{s:aJ}(h:bK M A t Q E s)(hQ:∀a s,Q a s->Q' a s):bK M A t Q' E s:=bC h hQ fun _ _ x=>x
section
variable{X:Cx}
def tVar(i:Nat):TE:=fun σ H Q=>∃v,σ[i]? = some (some v)/\Q v H
def tC(v:V):TE:=fun _ H Q=>Q v H
theorem a3v{i:Nat}{x:Str}{pos:Pos}(hN:X.N[i]? = some x)(hv:Vis X.env.scope x)(hd:(x==("__debug__" : Str))=false:=by decide)(hcd:(x==("__classdict__" : Str))=false:=by decide):PE X (.Name x pos) (tVar i):=by
 intro zv s σ H Q I h;obtain⟨v,e,h⟩:=h;obtain⟨m,hn,hl⟩:=I.loc;obtain⟨u,r,l⟩:=hl i x v hN e hv;have fin:EP X zv σ Q u s:=⟨v,H,I,r,h⟩;rcases l with⟨hk,hm⟩ | ⟨hk,c,hc,hcell⟩
 ·exact wpAny_Name (wpAny_loadName_local I.ok.kind hk hn hm fin) hd
 ·rcases hk with hk | hk
  ·exact wpAny_Name (wpAny_loadName_cell I.ok.kind hk hc hcell fin) hd
  ·exact wpAny_Name (wpAny_loadName_free I.ok.kind hk hc hcell fin hcd) hd
theorem a4c{i j pos}:PE X (.Constant (.int i) j pos) (tC (.int i)):=fun _ _ _ H _ I h=>wpAny_Constant_int ⟨.int i,H,I.tok _,⟨_,rfl⟩,h⟩
theorem a8j{b j pos}:PE X (.Constant (.bool b) j pos) (tC (.bl b)):=fun _ _ _ H _ I h=>Constant_bool ⟨.bl b,H,I,rfl,h⟩
theorem a4a{j pos}:PE X (.Constant .none j pos) (tC .non):=fun _ _ _ H _ I h=>Constant_none ⟨.non,H,I,rfl,h⟩
theorem a3x{x j pos}:PE X (.Constant (.str x) j pos) (tC (.str x)):=fun _ _ _ H _ I h=>wO ⟨.str x,H,I.tok _,⟨_,rfl⟩,h⟩
def Gl(X:Cx)(x:Str):Prop:=X.env.kindOf x=some .globalImplicit
theorem adu{E:aG->aJ->Prop}{zv:List (aZ×Obj)}{s:aJ}{σ:St}{H:Hp}{x:Str}{u:aG}{pos:Pos}{Q:aG->aJ->Prop}(I:Inv X zv σ H s)(hg:Gl X x)(hm:X.mg x=some u)(h:Q u s)
  (hd:(x==("__debug__" : Str))=false:=by decide):bK (bR X.prog X.w) X.A (eval (.Name x pos) X.env) Q E s :=
 tM I.ok.kind hg (Calls.loadGlobal_global (by rw[I.ok.glob];exact I.mod.glob.keeps I.bk) hm h) hd
theorem ag8{E:aG->aJ->Prop}{zv:List (aZ×Obj)}{s:aJ}{σ:St}{H:Hp}{x:Str}{u:aG}{pos:Pos}{Q:aG->aJ->Prop}(I:Inv X zv σ H s)(hg:Gl X x)(hm:X.mg x=none)(hv:bT x=some u)(h:Q u s)
  (hn:x ≠ "__name__" := by decide) (hd:(x==("__debug__" : Str))=false:=by decide):bK (bR X.prog X.w) X.A (eval (.Name x pos) X.env) Q E s:=by
 obtain⟨mb,h1,h2⟩:=I.mod.blt;exact tM I.ok.kind hg (Calls.loadGlobal_builtin (by rw[I.ok.glob];exact I.mod.glob.keeps I.bk) hm (by rw[I.ok.blt];exact h1.keeps I.bk) ((h2 x hn).trans hv) h) hd
theorem a0e{x:Str}{v:V}{u:aG}{pos:Pos}(hg:Gl X x)(hm:X.mg x=some u)(r:RelV v u)(hd:(x==("__debug__" : Str))=false:=by decide):PE X (.Name x pos) (tC v) :=
 fun _ _ _ H _ I h=>adu I hg hm ⟨v,H,I,r,h⟩ hd
theorem a0i{x:Str}{v:V}{u:aG}{pos:Pos}(hg:Gl X x)(hm:X.mg x=none)(hv:bT x=some u)(r:RelV v u)(hn:x ≠ "__name__" := by decide)(hd:(x==("__debug__" : Str))=false:=by decide):PE X (.Name x pos) (tC v) :=
 fun _ _ _ H _ I h=>ag8 I hg hm hv ⟨v,H,I,r,h⟩ hn hd
variable{a b:dW}{ta tb:TE}{pos:Pos}
def PC(X:Cx)(op:uP)(a b:dW)(t:TE):Prop :=
 ∀(zv:List (aZ×Obj)) (s:aJ) (σ:St) (H:Hp) (Q:VK),Inv X zv σ H s->t σ H Q ->
  bK (bR X.prog X.w) X.A (eval a X.env) (fun v s₁=>bK (bR X.prog X.w) X.A (eval b X.env) (fun u s₂=>bK (bR X.prog X.w) X.A (fY op v u) (EP X zv σ Q) X.xe s₂) X.xe s₁) X.xe s
theorem awx(b:dW){op:uP}(h:op≠.In)(h2:op≠.NotIn):jF op b=false:=by
 have e1:(op==CmpOp.In)=false:=by cases op <;> first | rfl | exact absurd rfl h
 have e2:(op==CmpOp.NotIn)=false:=by cases op <;> first | rfl | exact absurd rfl h2
 cases b <;> simp[jF,e1,e2]
def tIsN(ta:TE):TE:=fun σ H Q=>ta σ H fun x H1=>Q (.bl (decide (x=.non))) H1
theorem RelV.none_iff{x:V}{v:aG}(r:RelV x v):(v==cT)=decide (x=.non):=by
 cases x with
 | non=>cases r;rfl
 | bl _=>cases r;rfl
 | int _=>obtain⟨t,rfl⟩:=r;rfl
 | str _=>obtain⟨t,rfl⟩:=r;rfl
 | byt _=>obtain⟨t,rfl⟩:=r;rfl
 | flt _=>obtain⟨t,rfl⟩:=r;rfl
 | ref _=>cases r;rfl
 | ty _=>cases r;rfl
theorem a4f{j pos'}(ha:PE X a ta):PC X .Is a (.Constant .none j pos') (tIsN ta):=by
 intro zv s σ H Q I h;refine thn (ha zv s σ H _ I h) fun v s1 ⟨x,H1,I1,r1,q1⟩ =>?_
 exact Constant_none (is_none_gen ⟨.bl _,H1,I1,by rw[r1.none_iff];rfl,q1⟩)
def tB(t:TE):TT:=fun σ H Q=>t σ H fun x H1=>∃c,x=.bl c/\Q c H1
theorem a3n{op:uP}{t:TE}(h:PC X op a b t)(h1:jF op b=false:=by first | exact awx _ (by decide) (by decide) | rfl):PT X (.Compare a [op] [b] pos) (tB t):=by
 intro zv s σ H Q I hw;refine wpAny_isTrue_Compare1 (thn (h zv s σ H _ I hw) fun v s1 h1=>thn h1 fun u s2 h2=>thn h2 fun c s3 ⟨x,H1,I1,r1,q1⟩ =>?_) h1
 obtain⟨d,rfl,q⟩:=q1;cases r1;exact wpAny_truthy_bool ⟨H1,I1,q⟩
theorem a3l{e:dW}{t:TE}(h:PE X e t)(he:∀whole,isTrue e X.env whole=(do let v <-whole;standAt e.pos;nJ [v] (truthy v)):=by intro _;rfl):PT X e (tB t):=by
 intro zv s σ H Q I hw;refine isTrue_plain (thn (h zv s σ H _ I hw) fun v s1 ⟨x,H1,I1,r1,q1⟩ =>?_) (he _)
 obtain⟨d,rfl,q⟩:=q1;cases r1;exact wpAny_truthy_bool ⟨H1,I1,q⟩
variable{tA tB':TT}{rest:List dW}
def tOr(t u:TT):TT:=fun σ H Q=>t σ H fun c H1=>if c=true then Q true H1 else u σ H1 Q
def tNot(t:TT):TT:=fun σ H Q=>t σ H fun c H1=>Q (!c) H1
theorem a3i(ha:PT X a tA):PW X (.BoolOp .Or [a] pos) tA:=by
 intro wh zv s σ H Q I h;refine isTrue_or (thn (ha zv s σ H Q I h) fun c s1 e =>?_)
 cases c with
 | false=>exact isTrue_or_nil e
 | true=>exact e
theorem a8a(ha:PT X a tA)(hb:PW X (.BoolOp .Or (b::rest) pos) tB'):PW X (.BoolOp .Or (a::b::rest) pos) (tOr tA tB'):=by
 intro wh zv s σ H Q I h;refine isTrue_or (thn (ha zv s σ H _ I h) fun c s1 ⟨H1,I1,q1⟩ =>?_)
 cases c with
 | true=>exact⟨H1,I1,q1⟩
 | false=>exact hb wh zv s1 σ H1 Q I1 q1
theorem a3m(ha:PT X a tA):PT X (.UnaryOp .Not a pos) (tNot tA):=by
 intro zv s σ H Q I h;exact isTrue_not (ha zv s σ H (fun c H1=>Q (!c) H1) I h)
def a75(ta tb:TE):TE:=fun σ H Q=>ta σ H fun x H1=>∃c,x=.bl c/\if c=true then tb σ H1 Q else Q (.bl false) H1
def a70(ta:TE):TE:=fun σ H Q=>ta σ H fun x H1=>∃c,x=.bl c/\Q (.bl (!c)) H1
theorem a3y{op}{t:TE}(h:PE X a t):PE X (.BoolOp op [a] pos) t:=fun zv s σ H Q I hw=>BoolOp_one (h zv s σ H Q I hw)
theorem a4e(ha:PE X a ta)(hb:PE X (.BoolOp .And (b::rest) pos) tb):PE X (.BoolOp .And (a::b::rest) pos) (a75 ta tb):=by
 intro zv s σ H Q I h;refine BoolOp_and (thn (ha zv s σ H _ I h) fun v s1 ⟨x,H1,I1,r1,q1⟩ =>?_)
 obtain⟨c,rfl,q1⟩:=q1;cases r1;refine wpAny_truthy_bool ?_;cases c with
 | true=>exact hb zv s1 σ H1 Q I1 q1
 | false=>exact⟨.bl false,H1,I1,rfl,q1⟩
theorem a3z(ha:PE X a ta):PE X (.UnaryOp .Not a pos) (a70 ta):=by
 intro zv s σ H Q I h;refine UnaryOp_ (thn (ha zv s σ H _ I h) fun v s1 ⟨x,H1,I1,r1,q1⟩ =>?_)
 obtain⟨c,rfl,q1⟩:=q1;cases r1;exact not_of (wpAny_truthy_bool ⟨.bl (!c),H1,I1,rfl,q1⟩)
def tIf(t:TT)(ta tb:TE):TE:=fun σ H Q=>t σ H fun c H1=>if c=true then ta σ H1 Q else tb σ H1 Q
theorem awk{c:dW}(hc:PT X c tA)(ha:PE X a ta)(hb:PE X b tb):PE X (.IfExp c a b pos) (tIf tA ta tb):=by
 intro zv s σ H Q I h;refine wpAny_IfExp (thn (hc zv s σ H _ I h) fun d s1 ⟨H1,I1,q1⟩ =>?_)
 cases d with
 | true=>exact ha zv s1 σ H1 Q I1 q1
 | false=>exact hb zv s1 σ H1 Q I1 q1
end
def SqL(K:Fg9)(H:Hp)(a:aZ)(xs:List V):Prop :=
 Rd H a (.lst xs) ∨
  ∃(o:Obj) (its:Array aG) (n:Nat),K.lookup a=some o/\o.cls=.type "list" /\ o.dict=none/\o.data=.seq its n/\its.size<=cJ/\Vals xs its.toList
def SqT(K:Fg9)(H:Hp)(a:aZ)(xs:List V):Prop :=
 Rd H a (.tup xs) ∨
  ∃(o:Obj) (its:Array aG) (n:Nat),K.lookup a=some o/\o.cls=.type "tuple" /\ o.data=.seq its n/\its.size<=cJ/\Vals xs its.toList
def absV:aG->Option V
 | .none=>some .non
 | .bool b=>some (.bl b)
 | .int i _=>some (.int i)
 | .str x _=>some (.str x)
 | .bytes b _=>some (.byt b)
 | .float b _=>some (.flt b)
 | .ref a=>some (.ref a)
 | .type n=>some (.ty n)
 | _=>none
theorem RelV.abs{x:V}{u:aG}(r:RelV x u):absV u=some x:=by
 cases x with
 | non=>cases r;rfl
 | bl _=>cases r;rfl
 | int _=>obtain⟨t,rfl⟩:=r;rfl
 | str _=>obtain⟨t,rfl⟩:=r;rfl
 | byt _=>obtain⟨t,rfl⟩:=r;rfl
 | flt _=>obtain⟨t,rfl⟩:=r;rfl
 | ref _=>cases r;rfl
 | ty _=>cases r;rfl
theorem RelV.inj{x y:V}{u:aG}(r:RelV x u)(q:RelV y u):x=y:=bU (r.abs.symm.trans q.abs)
theorem Vals.inj:∀{xs ys:List V} {us:List aG},Vals xs us->Vals ys us->xs=ys
 | _,_,_,.nil,.nil=>rfl
 | _,_,_,.cons r t,.cons r' t'=>by rw[r.inj r',Vals.inj t t']
section
variable{X:Cx}{zv:List (aZ×Obj)}{σ:St}{H:Hp}{s:aJ}{a:aZ}{xs ys:List V}
theorem SqL.of{K:Fg9}(h:H a=some (.lst xs)):SqL K H a xs:=.inl (.inl h)
theorem SqT.of{K:Fg9}(h:H a=some (.tup xs)):SqT K H a xs:=.inl (.inl h)
theorem Inv.list(I:Inv X zv σ H s)(h:SqL X.K H a xs):∃its:List aG,Vals xs its/\PlainL s.heap a its.toArray/\xs.length<=cJ:=by
 rcases h with h | ⟨o,its,n,hk,hc,hd,hs,hz,r⟩
 ·obtain⟨z,its,n,r,e⟩:=h.ok I.hok;exact⟨its,r,⟨_,n,e,rfl,rfl,rfl⟩,z⟩
 ·refine⟨its.toList,r,⟨o,n,I.kIn a o hk,hc,hd,by simpa using hs⟩,?_⟩
  have e:=r.length;simp only[bM] at e;omega
theorem Inv.tuple(I:Inv X zv σ H s)(h:SqT X.K H a xs):∃its:List aG,Vals xs its/\xP s.heap a its.toArray/\xs.length<=cJ:=by
 rcases h with h | ⟨o,its,n,hk,hc,hs,hz,r⟩
 ·obtain⟨z,its,r,p⟩:=h.ok I.hok;exact⟨its,r,p.tup,z⟩
 ·refine⟨its.toList,r,⟨o,I.kIn a o hk,hc,n,by simpa using hs⟩,?_⟩
  have e:=r.length;simp only[bM] at e;omega
theorem Inv.list_inj(I:Inv X zv σ H s)(h:SqL X.K H a xs)(h':SqL X.K H a ys):xs=ys:=by
 obtain⟨its,r,⟨o,n,e,_,_,d⟩,_⟩:=I.list h;obtain⟨its',r',⟨o',n',e',_,_,d'⟩,_⟩:=I.list h';rw[e] at e';cases e';rw[d] at d'
 injection d' with d1 _
 have:its=its':=by simpa using congrArg Array.toList d1
 subst this;exact r.inj r'
theorem Inv.tuple_inj(I:Inv X zv σ H s)(h:SqT X.K H a xs)(h':SqT X.K H a ys):xs=ys:=by
 obtain⟨its,r,⟨o,e,_,n,d⟩,_⟩:=I.tuple h;obtain⟨its',r',⟨o',e',_,n',d'⟩,_⟩:=I.tuple h';rw[e] at e';cases e';rw[d] at d'
 injection d' with d1 _
 have:its=its':=by simpa using congrArg Array.toList d1
 subst this;exact r.inj r'
end
abbrev Cx.wish(X:Cx)(E:aG->aJ->Prop):Cx:={ X with xe:=E }
abbrev Cx.nox(X:Cx):Cx:=X.wish fun _ _=>False
theorem Cx.Ok.wish{X:Cx}(ok:X.Ok)(E:aG->aJ->Prop):(X.wish E).Ok :=
 ⟨ok.mod,ok.kind,ok.glob,ok.blt,ok.above,ok.inj,ok.has,ok.cab,ok.hd,ok.frames,ok.stk,ok.exf,ok.bs,ok.bsz,ok.noex,ok.exfs,ok.funs,ok.frf⟩
theorem Cx.Ok.unwish{X:Cx}{E:aG->aJ->Prop}(ok:(X.wish E).Ok):X.Ok :=
 ⟨ok.mod,ok.kind,ok.glob,ok.blt,ok.above,ok.inj,ok.has,ok.cab,ok.hd,ok.frames,ok.stk,ok.exf,ok.bs,ok.bsz,ok.noex,ok.exfs,ok.funs,ok.frf⟩
section
variable{X:Cx}{zv:List (aZ×Obj)}{σ:St}{H:Hp}{s:aJ}{E:aG->aJ->Prop}
theorem Inv.wish(I:Inv X zv σ H s)(E:aG->aJ->Prop):Inv (X.wish E) zv σ H s:=⟨I.ok.wish E,I.os,I.bare,I.base,I.loc,I.cell,I.free,I.freeC,I.pin,I.hok,I.len⟩
theorem Inv.unwish(I:Inv (X.wish E) zv σ H s):Inv X zv σ H s:=⟨I.ok.unwish,I.os,I.bare,I.base,I.loc,I.cell,I.free,I.freeC,I.pin,I.hok,I.len⟩
theorem SP.unwish{D:Ends}{f:Flow}{s':aJ}(h:SP (X.wish E) zv D f s'):SP X zv D f s':=by
 cases f with
 | next=>obtain⟨σ',H',I,q⟩:=h;exact⟨σ',H',I.unwish,q⟩
 | brk=>obtain⟨σ',H',I,q⟩:=h;exact⟨σ',H',I.unwish,q⟩
 | cont=>obtain⟨σ',H',I,q⟩:=h;exact⟨σ',H',I.unwish,q⟩
 | ret u=>obtain⟨v,σ',H',I,r,q⟩:=h;exact⟨v,σ',H',I.unwish,r,q⟩
theorem PSs.nox{st:List iM}{t:TS}(h:PSs X.nox st t):PSs X st t:=fun zv s σ H D I hw =>
 bC (h zv s σ H D (I.wish _) hw) (fun _ _ q=>q.unwish) fun _ _ z=>fK z
end
section
variable{X:Cx}{st:iM}{rest:List iM}{t u:TS}{e:dW}{te:TE}{pos:Pos}
def a71:TS:=fun D σ H=>D.nx σ H
def tSeq(t u:TS):TS:=fun D σ H=>t { D with nx:=u D } σ H
theorem az1:PSs X [] a71:=fun _ _ σ H _ I h=>wpAny_execs_nil ⟨σ,H,I,h⟩
theorem awf(h1:PS X st t)(h2:PSs X rest u):PSs X (st::rest) (tSeq t u):=by
 intro zv s σ H D I h;refine wpAny_execs_cons (thn (h1 zv s σ H { D with nx:=u D } I h) fun f s1 q =>?_)
 cases f with
 | next =>
  obtain⟨σ',H',I',q⟩:=q;exact h2 zv s1 σ' H' D I' q
 | ret v=>exact q
 | brk=>exact q
 | cont=>exact q
theorem asu(h1:PS X st t):PSs X [st] t:=by
 intro zv s σ H D I h;refine wpAny_execs_cons (thn (h1 zv s σ H D I h) fun f s1 q =>?_)
 cases f with
 | next=>exact wpAny_execs_nil q
 | ret v=>exact q
 | brk=>exact q
 | cont=>exact q
theorem Inv.quiet{zv:List (aZ×Obj)}{σ:St}{H:Hp}{s:aJ}(I:Inv X zv σ H s):interactive X.env=false:=by simp[interactive,I.ok.kind]
def a72(te:TE):TS:=fun D σ H=>te σ H fun _ H1=>D.nx σ H1
theorem az4(he:PE X e te)(hs:mD e none pos.line X.env=pure false:=by rfl):PS X (.Expr e pos) (a72 te):=by
 intro zv s σ H D I h;exact wpAny_Expr_any (thn (he zv s σ H _ I h) fun v s1 ⟨x,H1,I1,r1,q1⟩=>⟨σ,H1,I1,q1⟩) I.quiet hs
def tRet(te:TE):TS:=fun D σ H=>te σ H D.rt
theorem a3p(he:PE X e te):PS X (.Return (some e) pos) (tRet te):=by
 intro zv s σ H D I h;exact wpAny_Return_some (thn (he zv s σ H _ I h) fun v s1 ⟨x,H1,I1,r1,q1⟩=>⟨x,σ,H1,I1,r1,q1⟩)
def tIfS(c:TT)(t u:TS):TS:=fun D σ H=>c σ H fun b H1=>if b=true then t D σ H1 else u D σ H1
theorem a8d{c:dW}{a b:List iM}{tc:TT}(hc:PT X c tc)(ha:PSs X a t)(hb:PSs X b u):PS X (.If c a b pos) (tIfS tc t u):=by
 intro zv s σ H D I h;refine wpAny_If (thn (hc zv s σ H _ I h) fun d s1 ⟨H1,I1,q1⟩ =>?_)
 cases d with
 | true=>exact ha zv s1 σ H1 D I1 q1
 | false=>exact hb zv s1 σ H1 D I1 q1
def a2x:TS:=fun _ _ _=>False
theorem aoy:PS X st a2x:=fun _ _ _ _ _ _ h=>h.elim
end
abbrev TG:=V->St->Hp->(St->Hp->Prop)->Prop
abbrev TGs:=List V->St->Hp->(St->Hp->Prop)->Prop
def PG(X:Cx)(target:dW)(t:TG):Prop :=
 ∀(zv:List (aZ×Obj)) (s:aJ) (σ:St) (H:Hp) (v:V) (u:aG) (Q:St->Hp->Prop),Inv X zv σ H s->RelV v u->t v σ H Q ->
  bK (bR X.prog X.w) X.A (qI target X.env u) (fun _ s'=>∃σ' H',Inv X zv σ' H' s'/\Q σ' H') X.xe s
def PGs(X:Cx)(ts:List dW)(t:TGs):Prop :=
 ∀(zv:List (aZ×Obj)) (s:aJ) (σ:St) (H:Hp) (vs:List V) (us:List aG) (Q:St->Hp->Prop),Inv X zv σ H s->Vals vs us->t vs σ H Q ->
  bK (bR X.prog X.w) X.A (assignInOrder ((jJ ts X.env).map (·.2)) us) (fun _ s'=>∃σ' H',Inv X zv σ' H' s'/\Q σ' H') X.xe s
abbrev TSet:=V->V->V->Hp->(Hp->Prop)->Prop
def PSet(X:Cx)(t:TSet):Prop :=
 ∀(zv:List (aZ×Obj)) (s:aJ) (σ:St) (H:Hp) (o i v:V) (ov iv u:aG) (Q:Hp->Prop),Inv X zv σ H s->RelV o ov->RelV i iv->RelV v u->t o i v H Q ->
  bK (bR X.prog X.w) X.A (setItem ov iv u) (fun _ s'=>∃H',Inv X zv σ H' s'/\Q H') X.xe s
abbrev TIp:=V->V->Hp->VK->Prop
def PIp(X:Cx)(op:Operator)(t:TIp):Prop :=
 ∀(zv:List (aZ×Obj)) (s:aJ) (σ:St) (H:Hp) (x y:V) (v u:aG) (Q:VK),Inv X zv σ H s->RelV x v->RelV y u->t x y H Q ->
  bK (bR X.prog X.w) X.A (inplaceOp op v u) (EP X zv σ Q) X.xe s
section
variable{X:Cx}{pos:Pos}
def a1f(i:Nat):TG:=fun v σ H Q=>Q (σ.set i (some v)) H
theorem a0d{i:Nat}{x:Str}(hN:X.N.Nodup)(hi:X.N[i]? = some x)(hx:Loc X.env.scope x)(hf:X.fn x=true∨X.env.scope.names.lookup x=some .local:=by first | exact .inl rfl | exact .inr rfl | assumption):PG X (.Name x pos) (a1f i):=by
 intro zv s σ H v u Q I r h;exact wpAny_assign_Name (acp I hN hi hx r (fun s' I'=>⟨_,H,I',h⟩) hf)
def gNil:TGs:=fun vs σ H Q=>vs=[]/\Q σ H
def a9k(t:TG)(u:TGs):TGs:=fun vs σ H Q=>∃v r,vs=v::r/\t v σ H fun σ' H'=>u r σ' H' Q
theorem a0c:PGs X [] gNil:=by
 intro zv s σ H vs us Q I r h;obtain⟨e,h⟩:=h;subst e;cases r;exact assignInOrder_nil ⟨σ,H,I,h⟩
theorem awi{e:dW}{es:List dW}{t:TG}{u:TGs}(h1:PG X e t)(h2:PGs X es u)
  (hs:(jJ (e::es) X.env).map (·.2)=qI e X.env::(jJ es X.env).map (·.2):=by rfl):PGs X (e::es) (a9k t u):=by
 intro zv s σ H vs us Q I r h;obtain⟨v,vr,e1,h⟩:=h;subst e1;cases r with
 | cons r rr =>
  rw[hs];refine assignInOrder_cons (thn (h1 zv s σ H _ _ _ I r h) fun _ s1 ⟨σ1,H1,I1,q1⟩ =>?_)
  exact h2 zv s1 σ1 H1 _ _ Q I1 rr q1
def gTup(K:Fg9)(n:Nat)(t:TGs):TG:=fun v σ H Q=>∃a xs,v=.ref a/\SqT K H a xs/\xs.length=n/\t xs σ H Q
theorem a3t{es:List dW}{k:Nat}{t:TGs}{n:Nat}(hc:X.calm=true)(h:PGs X es t)
  (hn:(jJ es X.env).length=n:=by rfl) (hst:(jJ es X.env).findIdx? (·.1)=none:=by rfl):PG X (.Tuple es k pos) (gTup X.K n t):=by
 intro zv s σ H v u Q I r hw;obtain⟨a,xs,e1,hq,hl,hw⟩:=hw;subst e1;cases r;obtain⟨its,rv,ht,hz⟩:=I.tuple hq;refine assign_Tuple_tuple (I.ok.hd hc) ht (by simp[hn,<-hl,rv.length]) hst fun h' hx =>?_
 have I1:Inv X zv σ H { s with heap:=h' }:=I.kept (t':=s.toks) fun b o e=>hx b o (bI (aP e)) e
 exact h zv _ σ H xs _ Q I1 (by simpa using rv) hw
def gSub(to ti:TE)(t:TSet):TG:=fun v σ H Q=>to σ H fun o H1=>ti σ H1 fun i H2=>t o i v H2 fun H3=>Q σ H3
theorem a3u{o i:dW}{to ti:TE}{t:TSet}(ho:PE X o to)(hi:PE X i ti)(hs:PSet X t)
  (ha:∀v,qI (.Subscript o i pos) X.env v=(do
   let ov <-nJ [v] (eval o X.env)
   let iv <-nJ [v,ov] (eval i X.env)
   standAt pos
   nJ [v,ov,iv] (setItem ov iv v)
   release [v,ov,iv] []):=by intro _;rfl):PG X (.Subscript o i pos) (gSub to ti t):=by
 intro zv s σ H v u Q I r h;rw[ha];refine aA (eU (thn (ho zv s σ H _ I h) fun ov s1 ⟨x,H1,I1,r1,q1⟩ =>?_))
 refine aA (eU (thn (hi zv s1 σ H1 _ I1 q1) fun iv s2 ⟨y,H2,I2,r2,q2⟩ =>?_))
 refine aA (jE (aA (eU (thn (hs zv s2 σ H2 x y v ov iv u _ I2 r1 r2 r q2) fun _ s3 ⟨H3,I3,q3⟩ =>?_))))
 exact wpAny_release ⟨σ,H3,I3,q3⟩
def tAsg(te:TE)(g:TG):TS:=fun D σ H=>te σ H fun x H1=>g x σ H1 D.nx
theorem ayf{tg e:dW}{te:TE}{g:TG}(he:PE X e te)(hg:PG X tg g)(hs:swapsWithSole [tg] e pos.line X.env=pure false:=by rfl)(hw:swappedStores [tg] e X.env=pure none:=by rfl)
  (h1:(jJ [tg] X.env).map (·.2)=[qI tg X.env]:=by rfl):PS X (.Assign [tg] e pos) (tAsg te g):=by
 intro zv s σ H D I h;refine wpAny_Assign_stores (thn (he zv s σ H _ I h) fun v s1 ⟨x,H1,I1,r1,q1⟩ =>?_) hs hw
 rw[h1];exact thn (hg zv s1 σ H1 x v _ I1 r1 q1) fun _ s2 q=>q
theorem a3o{i:Nat}{x:Str}{e:dW}{te:TE}{pos':Pos}(hN:X.N.Nodup)(hi:X.N[i]? = some x)(hx:Loc X.env.scope x)(he:PE X e te)(hs:mD e (some (.Name x pos')) pos.line X.env=pure false:=by rfl)(hf:X.fn x=true∨X.env.scope.names.lookup x=some .local:=by first | exact .inl rfl | exact .inr rfl | assumption) :
  PS X (.Assign [.Name x pos'] e pos) (tAsg te (a1f i)):=by
 intro zv s σ H D I h;refine wpAny_Assign_Name (thn (he zv s σ H _ I h) fun v s1 ⟨y,H1,I1,r1,q1⟩ =>?_) hs
 exact acp I1 hN hi hx r1 (fun s2 I2=>⟨_,H1,I2,q1⟩) hf
def tPar(i j:Nat)(ta:TA):TS:=fun D σ H=>ta σ H fun vs H1=>∃v w,vs=[v,w]/\D.nx ((σ.set i (some v)).set j (some w)) H1
theorem a3q{i j:Nat}{x y:Str}{a b:dW}{ta:TA}{px py pt:Pos}{kt k2 pt2}(hc:X.calm=true)(hN:X.N.Nodup)(hi:X.N[i]? = some x)(hj:X.N[j]? = some y)(hij:i≠j)
  (hx:X.env.scope.names.lookup x=some .local) (hy:X.env.scope.names.lookup y=some .local) (ha:PA X [a,b] ta)
  (hw:swappedStores [.Tuple [.Name x px,.Name y py] kt pt] (.Tuple [a,b] k2 pt2) X.env=pure (some [x,y]))
  (hs:swapsWithSole [.Tuple [.Name x px,.Name y py] kt pt] (.Tuple [a,b] k2 pt2) pos.line X.env=pure false:=by rfl) :
  PS X (.Assign [.Tuple [.Name x px,.Name y py] kt pt] (.Tuple [a,b] k2 pt2) pos) (tPar i j ta):=by
 intro zv s σ H D I h;rw[exec_Assign_arm];refine aA (jE ?_);rw[hs];refine aA (aH ?_);rw[if_neg (by decide)]
 refine aA (Tuple_ (thn (ha _ zv s σ H _ I h) fun us s1 ⟨vs,H1,I1,r1,q1⟩ =>?_))
 obtain⟨v,w,e1,q1⟩:=q1;subst e1;obtain⟨u1,u2,rfl,rv,rw'⟩:∃u1 u2,us=[u1,u2]/\RelV v u1/\RelV w u2:=by
  cases r1 with
  | cons p q =>
   cases q with
   | cons p' q' =>
    cases q';exact⟨_,_,rfl,p,p'⟩
 refine bZ ?_ (by show 2<=cJ;decide)
 have I2:Inv X zv σ H1 { s1 with heap:=s1.heap.push { cls:=.type "tuple", data:=.seq [u1,u2].toArray } }:=I1.kept (t':=s1.toks) fun b o e=>aD _ e
 rw[hw];refine aA (aH ?_);show bK (bR X.prog X.w) X.A (do rule "assign.swapped-stores";let items <-unpackItems (.ref s1.heap.objs.size) 2 none;assignInOrder [fun v=>bindName X.env y v,fun v=>bindName X.env x v] items.reverse;pure vC) _ _ _
 refine aA (lB (aA (unpackItems_tuple (items := #[u1,u2]) (I.ok.hd hc) (IsTup.new s1.heap _) fun h' hx' =>?_)))
 have I3:=I2.kept (h':=h') (t':=s1.toks) fun b o e=>hx' b o (bI (aP e)) e
 show bK _ _ (assignInOrder [fun v=>bindName X.env y v,fun v=>bindName X.env x v] [u2,u1] >>= fun _=>pure vC) _ _ _
 refine aA (assignInOrder_cons (wpAny_bindName (acp I3 hN hj (.inl hy) rw' (fun s2 I4 =>?_) (.inr hy))))
 refine assignInOrder_cons (wpAny_bindName (acp I4 hN hi (.inl hx) rv (fun s3 I5=>assignInOrder_nil (aH ?_)) (.inr hx)))
 rw[List.set_comm _ _ (fU hij)] at I5;exact⟨_,H1,I5,q1⟩
def a74(to ti te:TE)(tget:V->V->Hp->VK->Prop)(tip:TIp)(tset:TSet):TS:=fun D σ H=>to σ H fun o H1=>ti σ H1 fun i H2=>tget o i H2 fun x H3=>te σ H3 fun y H4=>tip x y H4 fun z H5=>tset o i z H5 fun H6=>D.nx σ H6
def PGet(X:Cx)(t:V->V->Hp->VK->Prop):Prop :=
 ∀(zv:List (aZ×Obj)) (s:aJ) (σ:St) (H:Hp) (o i:V) (ov iv:aG) (Q:VK),Inv X zv σ H s->RelV o ov->RelV i iv->t o i H Q ->
  bK (bR X.prog X.w) X.A (rA ov iv) (EP X zv σ Q) X.xe s
theorem az5{o i e:dW}{to ti te:TE}{tget:V->V->Hp->VK->Prop}{tip:TIp}{tset:TSet}{op:Operator}{tpos:Pos}(ho:PE X o to)(hi:PE X i ti)(hg:PGet X tget)(he:PE X e te)(hp:PIp X op tip)(hs:PSet X tset)
  (ha:∀ov iv new,augStore i ov iv new=(do nJ [new,ov,iv] (setItem ov iv new);release [new,ov,iv] [];pure .next):=by intros;rfl):PS X (.AugAssign (.Subscript o i tpos) op e pos) (a74 to ti te tget tip tset):=by
 intro zv s σ H D I h;refine wpAny_AugAssign_SubscriptAny (thn (ho zv s σ H _ I h) fun ov s1 ⟨x1,H1,I1,r1,q1⟩ =>?_) ha
 refine thn (hi zv s1 σ H1 _ I1 q1) fun iv s2 ⟨x2,H2,I2,r2,q2⟩ =>?_
 refine thn (hg zv s2 σ H2 x1 x2 ov iv _ I2 r1 r2 q2) fun old s3 ⟨x3,H3,I3,r3,q3⟩ =>?_
 refine thn (he zv s3 σ H3 _ I3 q3) fun v s4 ⟨x4,H4,I4,r4,q4⟩ =>?_
 refine thn (hp zv s4 σ H4 x3 x4 old v _ I4 r3 r4 q4) fun new s5 ⟨x5,H5,I5,r5,q5⟩ =>?_
 exact thn (hs zv s5 σ H5 x1 x2 x5 ov iv new _ I5 r1 r2 r5 q5) fun _ s6 ⟨H6,I6,q6⟩=>⟨σ,H6,I6,q6⟩
def ipI(f:Int->Int->Int):TIp:=fun x y H Q=>∃i j,x=.int i/\y=.int j/\Q (.int (f i j)) H
theorem a5q:PIp X .Add (ipI fun i j=>i+j):=by
 intro zv s σ H x y v u Q I r1 r2 h;obtain⟨i,j,e1,e2,q⟩:=h;subst e1;subst e2;obtain⟨t,rfl⟩:=r1;obtain⟨t',rfl⟩:=r2;exact iadd_int ⟨.int _,H,I.tok _,⟨_,rfl⟩,q⟩
end
section
variable{X:Cx}{pos:Pos}
def a2w(c:TT)(tb:TS):TS:=fun D σ H=>∃W:Nat->St->Hp->Prop,(∃m,W m σ H)/\∀m σ H,W m σ H ->
 c σ H fun b H1=>if b=true then ∃N:St->Hp->Prop,(∀σ' H',N σ' H'->∃m',m' < m/\W m' σ' H')/\tb { D with nx:=N,ct:=N,bk:=D.nx } σ H1 else D.nx σ H1
theorem awg{c:dW}{body:List iM}{tc:TT}{tb:TS}(hp:uW (bR X.prog X.w) X.A X.env X.xe)(hc:PT X c tc)(hb:PSs X body tb):PS X (.While c body [] pos) (a2w tc tb):=by
 intro zv s σ H D I h;obtain⟨W,⟨m0,w0⟩,turn⟩:=h;refine wpAny_While (codeAny_whileLoop (fun n s'=>∃σ' H',Inv X zv σ' H' s'/\W n σ' H') ?_ m0 ⟨σ,H,I,w0⟩)
 rintro n s1 ⟨σ1,H1,I1,w1⟩
 refine wpAny_passesOwn hp (thn (hc zv s1 σ1 H1 _ I1 (turn n σ1 H1 w1)) fun b s2 ⟨H2,I2,q2⟩ =>?_)
 cases b with
 | true =>
  obtain⟨N,hN,q2⟩:=q2;rw[if_pos rfl];refine wpAny_passesOwn hp (thn (hb zv s2 σ1 H2 _ I2 q2) fun f s3 q3 =>?_)
  cases f with
  | next =>
   obtain⟨σ3,H3,I3,n3⟩:=q3;obtain⟨m',hm,w3⟩:=hN σ3 H3 n3;exact⟨m',hm,σ3,H3,I3,w3⟩
  | cont =>
   obtain⟨σ3,H3,I3,n3⟩:=q3;obtain⟨m',hm,w3⟩:=hN σ3 H3 n3;exact⟨m',hm,σ3,H3,I3,w3⟩
  | brk=>exact q3
  | ret v=>exact q3
 | false =>
  rw[if_neg dG];exact wpAny_execs_nil ⟨σ1,H2,I2,q2⟩
end
structure It where
 go:Nat->Hp->Prop
 yld:Nat->Hp->V->Hp->Prop
 stop:Nat->Hp->Prop
def FpOk(X:Cx)(zv:List (aZ×Obj))(H:Hp)(b:aZ):Prop :=
 H b=none/\b≠X.env.locals/\b∉X.fs/\(b∈X.ex∨X.s₀.heap.objs.size<=b)/\(∀x c,X.env.cells.lookup x=some c->c≠b)/\∀p∈X.pn++zv,p.1≠b
theorem Inv.fpOk{X:Cx}{zv:List (aZ×Obj)}{σ:St}{H H':Hp}{s:aJ}{b:aZ}(I:Inv X zv σ H s)(hb:s.heap.objs.size<=b)(hn:H' b=none):FpOk X zv H' b:=by
 refine⟨hn,gY (bW I.lt hb),I.nofs hb,.inr (cL I.sz hb),fun x c e z =>?_,fun p hp z =>?_⟩
 ·obtain⟨v,q⟩:=I.cell x c e;exact absurd (bW q.lt (by rw[z];exact hb)) (jW _)
 ·exact absurd (bW (aP (I.pin p hp).1) (by rw[z];exact hb)) (jW _)
structure Turn (P:cF) (w:dR) (K:Fg9) (tg:dW) (J:It) (fp:List aZ) (it:aZ) (tn:Nat->fH->Prop):Prop where
 mem:it∈fp
 obj:∀i h,tn i h->∀b∈fp,∃o,h.get? b=some o/\∀v,o.data≠.cell v
 keep:∀i h h',tn i h->(∀b∈fp,∀o,h.get? b=some o->h'.get? b=some o)->tn i h'
 item:∀(X:Cx),X.prog=P->X.w=w->X.K=K->X.calm=true->∀(i:Nat) (zv:List (aZ×Obj)) (s:aJ) (σ:St) (H:Hp) (E:aG->aJ->Prop),Inv X zv σ H s->(∀b∈fp,FpOk X zv H b)->tn i s.heap->J.go i H ->
  bK (bR P w) X.A (nW (.ref it)) (fun r s1=>∃u,r=some u /\
   bK (bR P w) X.A (letOwnedTupleGo tg (.ref it) u) (fun _ s2=>∃x H',Inv X zv σ H' s2/\RelV x u/\J.yld i H x H'/\tn (i+1) s2.heap/\∀b∈fp,H' b=none) E s1) E s
 done:∀(X:Cx),X.prog=P->X.w=w->X.K=K->X.calm=true->∀(i:Nat) (zv:List (aZ×Obj)) (s:aJ) (σ:St) (H:Hp) (E:aG->aJ->Prop),Inv X zv σ H s->(∀b∈fp,FpOk X zv H b)->tn i s.heap->J.stop i H ->
  bK (bR P w) X.A (nW (.ref it)) (fun r s1=>r=none/\Inv X zv σ H s1) E s
 self:∀(A:cQ) (i:Nat) (s:aJ) (Q:aG->aJ->Prop) (E:aG->aJ->Prop),tn i s.heap->Q (.ref it) s->bK (bR P w) A (pyIter (.ref it)) Q E s
abbrev TI:=St->Hp->(It->Hp->Prop)->Prop
def PIE(X:Cx)(zv:List (aZ×Obj))(σ:St)(tg:dW)(R:It->Hp->Prop)(itv:aG)(s2:aJ):Prop :=
 ∃(it:aZ) (fp:List aZ) (tn:Nat->fH->Prop) (J:It) (H':Hp),itv=.ref it/\Inv X zv σ H' s2/\Turn X.prog X.w X.K tg J fp it tn/\tn 0 s2.heap/\(∀b∈fp,FpOk X zv H' b)/\R J H'
def PI(X:Cx)(tg iter:dW)(wi:TI):Prop :=
 ∀(zv:List (aZ×Obj)) (s:aJ) (σ:St) (H:Hp) (R:It->Hp->Prop),Inv X zv σ H s->wi σ H R ->
  bK (bR X.prog X.w) X.A (eval iter X.env) (fun v s1=>bK (bR X.prog X.w) X.A (pyIter v) (PIE X zv σ tg R) X.xe s1) X.xe s
theorem a1d{M:uX}{A:cQ}{E:aG->aJ->Prop}{s:aJ}{tg:dW}{it:aZ}{u:aG}{o:Obj}{n:String}{vs:Array aG}{Q:Unit->aJ->Prop}(ho:s.heap.get? it=some o)(hc:o.cls=.type n)(hd:o.data=.fields vs)
  (hn:["enumerate","zip","dict_itemiterator","dict_reverseitemiterator","odict_iterator","itertools.zip_longest","itertools.pairwise"].contains n=false) (hQ:Q () s):bK M A (letOwnedTupleGo tg (.ref it) u) Q E s:=by
 unfold letOwnedTupleGo;cases tg <;> first
  | exact aH hQ
  | (cases u <;> first
    | exact aH hQ
    | (refine aA (wpAny_load ho ?_)
       rw[hc,hd];show bK M A (if (["enumerate","zip","dict_itemiterator","dict_reverseitemiterator","odict_iterator","itertools.zip_longest","itertools.pairwise"].contains n&&vs[0]? == some (jZ _))=true then _ else _) Q E s
       rw[if_neg (by intro h;rw[hn,uA] at h;cases h)]
       exact aH hQ))
def Itl(K:Fg9)(a:aZ):It :=
 ⟨fun i H=>∃xs x,SqL K H a xs/\xs[i]? = some x,fun i H x H'=>H'=H/\∀xs,SqL K H a xs->xs[i]? = some x,fun i H=>∃xs,SqL K H a xs/\xs.length<=i⟩
def Itt(K:Fg9)(a:aZ):It :=
 ⟨fun i H=>∃xs x,SqT K H a xs/\xs[i]? = some x,fun i H x H'=>H'=H/\∀xs,SqT K H a xs->xs[i]? = some x,fun i H=>∃xs,SqT K H a xs/\xs.length<=i⟩
def Itr(lo:Int)(n:Nat):It:=⟨fun i _=>i < n,fun i H x H'=>H'=H/\x=.int (lo+i),fun i _=>n<=i⟩
theorem aru{P:cF}{w:dR}{K:Fg9}{tg:dW}(a it:aZ):Turn P w K tg (Itl K a) [it] it (fun i h=>h.IsListIter it a i) where
 mem:=by simp
 obj:=fun i h st b hb=>by
  have e:b=it:=by simpa using hb
  subst e;obtain⟨o,e,c,d⟩:=st;exact⟨o,e,fun v z=>by rw[d] at z;cases z⟩
 keep:=fun i h h' st k=>st.at fun o e=>k it (by simp) o e
 item:=by
  intro X hP hw hK hc i zv s σ H E I hf st hg;subst hP hw hK;obtain⟨xs,x,hq,hx⟩:=hg;obtain⟨its,rv,p,hz⟩:=I.list hq;obtain⟨u,hu,ru⟩:=rv.get hx;obtain⟨f0,f1,f2,f3,f4,f5⟩:=hf it (by simp)
  refine wpAny_pyNext_list_item st p.isList (x:=u) (by simpa using hu) fun h' st' sb =>?_
  have I1:Inv X zv σ H { s with heap:=h' }:=I.turned (t':=s.toks) (fun b o hb e=>(sb.2 b hb).trans e) f0 f1 f3 f4 f5
  obtain⟨o,e,c,d⟩:=id st';exact⟨u,rfl,a1d (s:={ s with heap:=h' }) e c d (by decide) ⟨x,H,I1,ru,⟨rfl,fun ys hy=>by rw[I.list_inj hy hq];exact hx⟩,st',fun b hb=>(hf b hb).1⟩⟩
 done:=by
  intro X hP hw hK hc i zv s σ H E I hf st hg;subst hP hw hK;obtain⟨xs,hq,hx⟩:=hg;obtain⟨its,rv,p,hz⟩:=I.list hq;obtain⟨f0,f1,f2,f3,f4,f5⟩:=hf it (by simp)
  have hl:=rv.length;exact wpAny_pyNext_list_end (I.ok.hd hc) st p.isList (by simp;omega) fun h' eb=>⟨rfl,I.turned (t':=s.toks) (fun b o hb e=>eb b o hb e) f0 f1 f3 f4 f5⟩
 self:=fun _ _ _ _ _ st h=>wpAny_pyIter_listiter st h
theorem ap3{P:cF}{w:dR}{K:Fg9}{tg:dW}(a it:aZ):Turn P w K tg (Itt K a) [it] it (fun i h=>h.IsTupleIter it a i) where
 mem:=by simp
 obj:=fun i h st b hb=>by
  have e:b=it:=by simpa using hb
  subst e;obtain⟨o,e,c,d⟩:=st;exact⟨o,e,fun v z=>by rw[d] at z;cases z⟩
 keep:=fun i h h' st k=>st.at fun o e=>k it (by simp) o e
 item:=by
  intro X hP hw hK hc i zv s σ H E I hf st hg;subst hP hw hK;obtain⟨xs,x,hq,hx⟩:=hg;obtain⟨its,rv,p,hz⟩:=I.tuple hq;obtain⟨u,hu,ru⟩:=rv.get hx;obtain⟨f0,f1,f2,f3,f4,f5⟩:=hf it (by simp)
  refine wpAny_pyNext_tuple_item st (show s.heap.IsTuple a its.toArray from p) (x:=u) (by simpa using hu) fun h' st' sb =>?_
  have I1:Inv X zv σ H { s with heap:=h' }:=I.turned (t':=s.toks) (fun b o hb e=>(sb.2 b hb).trans e) f0 f1 f3 f4 f5
  obtain⟨o,e,c,d⟩:=id st';exact⟨u,rfl,a1d (s:={ s with heap:=h' }) e c d (by decide) ⟨x,H,I1,ru,⟨rfl,fun ys hy=>by rw[I.tuple_inj hy hq];exact hx⟩,st',fun b hb=>(hf b hb).1⟩⟩
 done:=by
  intro X hP hw hK hc i zv s σ H E I hf st hg;subst hP hw hK;obtain⟨xs,hq,hx⟩:=hg;obtain⟨its,rv,p,hz⟩:=I.tuple hq;obtain⟨f0,f1,f2,f3,f4,f5⟩:=hf it (by simp)
  have hl:=rv.length;exact wpAny_pyNext_tuple_end (I.ok.hd hc) st (show s.heap.IsTuple a its.toArray from p) (by simp;omega) fun h' eb=>⟨rfl,I.turned (t':=s.toks) (fun b o hb e=>eb b o hb e) f0 f1 f3 f4 f5⟩
 self:=fun _ _ _ _ _ st h=>wpAny_pyIter_tupleiter st h
theorem ap4{P:cF}{w:dR}{K:Fg9}{tg:dW}(it:aZ)(lo:Int)(n:Nat):Turn P w K tg (Itr lo n) [it] it (fun i h=>IsRangeIter h it (lo+(i:Nat)*1) ((n:Int) - (i:Nat)) 1) where
 mem:=by simp
 obj:=fun i h st b hb=>by
  have e:b=it:=by simpa using hb
  subst e;exact⟨_,st,fun v z=>by
   have z':Data.fields _=Data.cell v:=z;cases z'⟩
 keep:=fun i h h' st k=>k it (by simp) _ st
 item:=by
  intro X hP hw hK hc i zv s σ H E I hf st hg;subst hP hw hK;obtain⟨f0,f1,f2,f3,f4,f5⟩:=hf it (by simp)
  have W:=Walks.range (prog:=X.prog) (w:=X.w) (I.ok.hd hc) it lo 1 n;refine W.item i s _ _ hg st fun v h' tk hv st' kk =>?_
  obtain⟨t,rfl⟩:=hv;have I1:Inv X zv σ H { s with heap:=h',toks:=tk }:=I.turned (fun b o hb e=>kk b o (by simpa using hb) e) f0 f1 f3 f4 f5
  refine⟨_,rfl,a1d (s:={ s with heap:=h',toks:=tk }) (n := "range_iterator") st' rfl rfl (by decide) ⟨.int (lo+i),H,I1,⟨t,?_⟩,⟨rfl,rfl⟩,st',fun b hb=>(hf b hb).1⟩⟩
  rw[Int.mul_one]
 done:=by
  intro X hP hw hK hc i zv s σ H E I hf st hg;subst hP hw hK;obtain⟨f0,f1,f2,f3,f4,f5⟩:=hf it (by simp)
  exact wpAny_pyNext_range_end (I.ok.hd hc) st (by have:n<=i:=hg;omega) fun h' eb=>⟨rfl,I.turned (t':=s.toks) (fun b o hb e=>eb b o hb e) f0 f1 f3 f4 f5⟩
 self:=fun _ _ _ _ _ st h=>wpAny_pyIter_rangeiter st h
section
variable{X:Cx}{tg:dW}
def a9d(K:Fg9)(tl:TE):TI:=fun σ H R=>tl σ H fun x H1=>∃a,x=.ref a/\(∃xs,SqL K H1 a xs)/\R (Itl K a) H1
def iTup(K:Fg9)(tl:TE):TI:=fun σ H R=>tl σ H fun x H1=>∃a,x=.ref a/\(∃xs,SqT K H1 a xs)/\R (Itt K a) H1
theorem as3{l:dW}{tl:TE}(hl:PE X l tl):PI X tg l (a9d X.K tl):=by
 intro zv s σ H R I h;refine thn (hl zv s σ H _ I h) fun v s1 ⟨x,H1,I1,r1,q1⟩ =>?_
 obtain⟨a,e,⟨xs,hq⟩,q⟩:=q1;subst e;cases r1;obtain⟨its,rv,p,hz⟩:=I1.list hq;refine wpAny_pyIter_list p.isList ?_;refine⟨s1.heap.objs.size,[s1.heap.objs.size],_,_,H1,rfl,I1.kept (t':=s1.toks) fun b o e=>aD _ e,aru a _,⟨_,aO _ rfl,rfl,rfl⟩,fun b hb =>?_,q⟩
 have e:b=s1.heap.objs.size:=by simpa using hb
 subst e;exact I1.fpOk (aL _) (I1.hok.fresh (aL _))
theorem a3s{l:dW}{tl:TE}(hl:PE X l tl):PI X tg l (iTup X.K tl):=by
 intro zv s σ H R I h;refine thn (hl zv s σ H _ I h) fun v s1 ⟨x,H1,I1,r1,q1⟩ =>?_
 obtain⟨a,e,⟨xs,hq⟩,q⟩:=q1;subst e;cases r1;obtain⟨its,rv,p,hz⟩:=I1.tuple hq;refine wpAny_pyIter_tuple (show s1.heap.IsTuple a its.toArray from p) ?_
 refine⟨s1.heap.objs.size,[s1.heap.objs.size],_,_,H1,rfl,I1.kept (t':=s1.toks) fun b o e=>aD _ e,ap3 a _,⟨_,aO _ rfl,rfl,rfl⟩,fun b hb =>?_,q⟩
 have e:b=s1.heap.objs.size:=by simpa using hb
 subst e;exact I1.fpOk (aL _) (I1.hok.fresh (aL _))
theorem aox{zv:List (aZ×Obj)}{σ:St}{H:Hp}{s:aJ}{R:It->Hp->Prop}{E:aG->aJ->Prop}{lo hi:Int}{t u v:Tok}{tk:Nat}(I:Inv X zv σ H s)(h1 : -(2 ^ 62)<=lo)(h2:lo < 2 ^ 62)(h3 : -(2 ^ 62)<=hi)(h4:hi < 2 ^ 62)
  (q:R (Itr lo (hi - lo).toNat) H):bK (bR X.prog X.w) X.A (pyIter (.ref s.heap.objs.size)) (PIE X zv σ tg R) E { s with heap:=s.heap.push { cls:=.type "range", data:=.fields #[.int lo t,.int hi u,.int 1 v] },toks:=tk }:=by
 refine wpAny_pyIter_range (IsRange.new ..) (small_one h1 h2 h3 h4) ?_;have I1:Inv X zv σ H { s with heap:=s.heap.push { cls:=.type "range", data:=.fields #[.int lo t,.int hi u,.int 1 v] },toks:=tk }:=I.kept fun b o e=>aD _ e
 refine⟨(s.heap.push { cls:=.type "range", data:=.fields #[.int lo t,.int hi u,.int 1 v] }).objs.size,[(s.heap.push { cls:=.type "range", data:=.fields #[.int lo t,.int hi u,.int 1 v] }).objs.size],_,_,H,rfl,
  I1.kept (t':=tk) fun b o e=>aD _ e,ap4 _ lo (hi - lo).toNat,?_,fun b hb =>?_,q⟩
 ·have e1:lo+((0:Nat):Int)*1=lo:=by simp
  have e2:(((hi - lo).toNat:Nat):Int) - ((0:Nat):Int)=Builtin.Range.rangeSize lo hi 1:=by rw[rangeSize_one];split <;> omega
  show IsRangeIter _ _ (lo+((0:Nat):Int)*1) ((((hi - lo).toNat:Nat):Int) - ((0:Nat):Int)) 1;rw[e1,e2];exact aO _ rfl
 ·have e:b=(s.heap.push { cls:=.type "range", data:=.fields #[.int lo t,.int hi u,.int 1 v] }).objs.size:=by simpa using hb
  subst e;exact I1.fpOk (aL _) (I1.hok.fresh (aL _))
def a9c(ta:TA):TI:=fun σ H R=>ta σ H fun vs H1=>∃j:Int,vs=[.int j] /\ -(2 ^ 62)<=j/\j < 2 ^ 62/\R (Itr 0 j.toNat) H1
def a9b(ta:TA):TI:=fun σ H R=>ta σ H fun vs H1=>∃i j:Int,vs=[.int i,.int j]/\(-(2 ^ 62)<=i/\i < 2 ^ 62 /\ -(2 ^ 62)<=j/\j < 2 ^ 62)/\R (Itr i (j - i).toNat) H1
theorem asz{a:dW}{ta:TA}{p pos:Pos}(hg:Gl X "range")(hm:X.mg "range" = none)(ha:PA X [a] ta)(hs:aX [a] X.env=[(false,eval a X.env)]:=by rfl):PI X tg (.Call (.Name "range" p) [a] [] pos) (a9c ta):=by
 intro zv s σ H R I h;refine Call_ (ag8 I hg hm boot_range (iD (thn (ha pos zv s σ H _ I h) fun us s1 ⟨vs,H1,I1,r1,q1⟩ =>?_) hs rfl))
 obtain⟨j,e,q1,q2,q⟩:=q1;subst e;cases r1 with
 | cons r rr =>
  cases rr;obtain⟨t,rfl⟩:=r;exact call_range_1 (aox I1 (by omega) (by omega) q1 q2 (by simpa using q))
theorem asy{a b:dW}{ta:TA}{p pos:Pos}(hg:Gl X "range")(hm:X.mg "range" = none)(ha:PA X [a,b] ta)(hs:aX [a,b] X.env=[(false,eval a X.env),(false,eval b X.env)]:=by rfl)(hs2:aX [b] X.env=[(false,eval b X.env)]:=by rfl) :
  PI X tg (.Call (.Name "range" p) [a,b] [] pos) (a9b ta):=by
 intro zv s σ H R I h;refine Call_ (ag8 I hg hm boot_range (iD (thn (ha pos zv s σ H _ I h) fun us s1 ⟨vs,H1,I1,r1,q1⟩ =>?_) (by rw[hs,hs2]) (by rw[hs2];rfl)))
 obtain⟨i,j,e,⟨q1,q2,q3,q4⟩,q⟩:=q1;subst e;cases r1 with
 | cons r rr =>
  cases rr with
  | cons r' rr =>
   cases rr;obtain⟨t,rfl⟩:=r;obtain⟨t',rfl⟩:=r';exact call_range_2 (aox I1 q1 q2 q3 q4 q)
def tFor(wi:TI)(g:TG)(tb:TS):TS:=fun D σ H=>wi σ H fun J H1=>∃W:Nat->Nat->St->Hp->Prop,(∃m,W 0 m σ H1)/\∀i m σ H,W i m σ H ->
 (J.stop i H/\D.nx σ H)∨(J.go i H/\∃N:St->Hp->Prop,(∀σ' H',N σ' H'->∃m',m' < m/\W (i+1) m' σ' H')/\∀x H',J.yld i H x H'->g x σ H' fun σ2 H2=>tb { D with nx:=N,ct:=N,bk:=D.nx } σ2 H2)
def ak7(fp:List aZ)(h:fH):List (aZ×Obj):=fp.filterMap fun b=>(h.get? b).map fun o=>(b,o)
theorem acv{fp:List aZ}{h:fH}{b:aZ}{o:Obj}(hb:b∈fp)(e:h.get? b=some o):(b,o)∈ak7 fp h:=wJ.mpr ⟨b,hb,by rw[e];rfl⟩
theorem as9{fp:List aZ}{h:fH}{p:aZ×Obj}(hp:p∈ak7 fp h):p.1∈fp/\h.get? p.1=some p.2:=by
 obtain⟨b,hb,e⟩:=wJ.mp hp;cases q:h.get? b with
 | none=>rw[q] at e;cases e
 | some o =>
  rw[q] at e;have e':(b,o)=p:=bU e;subst e';exact⟨hb,q⟩
theorem Inv.pinned{zv:List (aZ×Obj)}{σ:St}{H:Hp}{s:aJ}{fp:List aZ}(I:Inv X zv σ H s)(hf:∀b∈fp,FpOk X zv H b)(ho:∀b∈fp,∃o,s.heap.get? b=some o/\∀v,o.data≠.cell v):Inv X (zv++ak7 fp s.heap) σ H s :=
 I.pins_of fun p hp=>(cX.mp hp).elim (fun z=>I.pin p (cU _ z)) fun z=>by
  obtain⟨hb,e⟩:=as9 z;obtain⟨f0,f1,f2,_⟩:=hf p.1 hb;obtain⟨o,e',d⟩:=ho p.1 hb;rw[e] at e';cases e';exact⟨e,f0,f1,f2,d⟩
theorem Inv.unpinned{zv pl:List (aZ×Obj)}{σ:St}{H:Hp}{s:aJ}(I:Inv X (zv++pl) σ H s):Inv X zv σ H s:=I.pins_of fun p hp=>I.pin p (cU _ (gB _ hp))
theorem a3r{iter:dW}{body:List iM}{wi:TI}{g:TG}{tb:TS}{pos:Pos}(hp:uW (bR X.prog X.w) X.A X.env X.xe)(hc:X.calm=true)(hi:PI X tg iter wi)(hg:PG X tg g)(hb:PSs X body tb)
  (hs:∀x,iB iter X.env x=pure x:=by intro _;rfl):PS X (.For tg iter body [] pos) (tFor wi g tb):=by
 intro zv s σ H D I h;refine wpAny_For (thn (hi zv s σ H _ I h) fun v s1 h1=>thn h1 fun itv s2 h2 =>?_) hs
 obtain⟨it,fp,tn,J,H2,e,I2,T,st2,f2,W,⟨m0,w0⟩,turn⟩:=h2;subst e;have stat:∀{H':Hp},(∀b∈fp,H' b=none)->∀b∈fp,FpOk X zv H' b:=fun hn b hb=>⟨hn b hb,(f2 b hb).2⟩
 refine codeAny_forLoop_any (fun n s'=>∃i σ' H',Inv X zv σ' H' s'/\tn i s'.heap/\(∀b∈fp,H' b=none)/\W i n σ' H') ?_ m0 ⟨0,σ,H2,I2,st2,fun b hb=>(f2 b hb).1,w0⟩
 rintro n s3 ⟨i,σ3,H3,I3,st3,fr3,w3⟩
 rcases turn i n σ3 H3 w3 with⟨stop,qn⟩ | ⟨go,N,hN,step⟩
 ·refine wpAny_passesOwn hp (thn (T.done X rfl rfl rfl hc i zv s3 σ3 H3 X.xe I3 (stat fr3) st3 stop) fun r s4 ⟨hr,I4⟩ =>?_)
  subst hr;exact wpAny_execs_nil ⟨σ3,H3,I4,qn⟩
 ·refine wpAny_passesOwn hp (thn (T.item X rfl rfl rfl hc i zv s3 σ3 H3 X.xe I3 (stat fr3) st3 go) fun r s4 ⟨u,hr,h4⟩ =>?_)
  subst hr;refine wpAny_passesOwn hp (thn h4 fun _ s5 ⟨x,H5,I5,r5,y5,st5,fr5⟩ =>?_)
  have I5':=I5.pinned (stat fr5) (T.obj _ _ st5);refine wpAny_passesOwn hp (thn (hg _ s5 σ3 H5 x u _ I5' r5 (step x H5 y5)) fun _ s6 ⟨σ6,H6,I6,q6⟩ =>?_)
  refine wpAny_passesOwn hp (thn (hb _ s6 σ6 H6 _ I6 q6) fun f s7 q7 =>?_)
  have again:∀{σ7:St} {H7:Hp},Inv X (zv++ak7 fp s5.heap) σ7 H7 s7->N σ7 H7->∃m,m < n/\∃i σ' H',Inv X zv σ' H' s7/\tn i s7.heap/\(∀b∈fp,H' b=none)/\W i m σ' H':=fun{σ7 H7} I7 n7=>by
   obtain⟨m',hm,w7⟩:=hN σ7 H7 n7;refine⟨m',hm,i+1,σ7,H7,I7.unpinned,T.keep _ _ _ st5 fun b hb o e=>(I7.pin (b,o) (cU _ (cU _ (acv hb e)))).1,fun b hb =>?_,w7⟩
   obtain⟨o,e,d⟩:=T.obj _ _ st5 b hb;exact(I7.pin (b,o) (cU _ (cU _ (acv hb e)))).2.1
  cases f with
  | next=>obtain⟨σ7,H7,I7,n7⟩:=q7;exact again I7 n7
  | cont=>obtain⟨σ7,H7,I7,n7⟩:=q7;exact again I7 n7
  | brk=>obtain⟨σ7,H7,I7,q7⟩:=q7;exact⟨σ7,H7,I7.unpinned,q7⟩
  | ret v=>obtain⟨x7,σ7,H7,I7,r7,q7⟩:=q7;exact⟨x7,σ7,H7,I7.unpinned,r7,q7⟩
end
abbrev R2:=V->V->Hp->VK->Prop
def OpR(X:Cx)(f:aG->aG->Sem aG)(r:R2):Prop :=
 ∀(zv:List (aZ×Obj)) (s:aJ) (σ:St) (H:Hp) (x y:V) (v u:aG) (Q:VK),Inv X zv σ H s->RelV x v->RelV y u->r x y H Q ->
  bK (bR X.prog X.w) X.A (f v u) (EP X zv σ Q) X.xe s
def UnR(X:Cx)(f:aG->Sem aG)(r:V->Hp->VK->Prop):Prop :=
 ∀(zv:List (aZ×Obj)) (s:aJ) (σ:St) (H:Hp) (x:V) (v:aG) (Q:VK),Inv X zv σ H s->RelV x v->r x H Q ->
  bK (bR X.prog X.w) X.A (f v) (EP X zv σ Q) X.xe s
def abv(X:Cx)(f:aG)(r:List V->Hp->VK->Prop):Prop :=
 ∀(zv:List (aZ×Obj)) (s:aJ) (σ:St) (H:Hp) (xs:List V) (us:List aG) (Q:VK),Inv X zv σ H s->Vals xs us->r xs H Q ->
  bK (bR X.prog X.w) X.A (call f us) (EP X zv σ Q) X.xe s
def tOp(r:R2)(ta tb:TE):TE:=fun σ H Q=>ta σ H fun x H1=>tb σ H1 fun y H2=>r x y H2 Q
def tUn(r:V->Hp->VK->Prop)(ta:TE):TE:=fun σ H Q=>ta σ H fun x H1=>r x H1 Q
def rI(C:Int->Int->Prop)(g:Int->Int->V):R2:=fun x y H Q=>∃i j,x=.int i/\y=.int j/\C i j/\Q (g i j) H
def rI0(g:Int->Int->V):R2:=fun x y H Q=>∃i j,x=.int i/\y=.int j/\Q (g i j) H
def rU(g:Int->V):V->Hp->VK->Prop:=fun x H Q=>∃i,x=.int i/\Q (g i) H
section
variable{X:Cx}{a b c:dW}{ta tb tc:TE}{pos:Pos}
theorem binT(ha:PE X a ta)(hb:PE X b tb){zv:List (aZ×Obj)}{s:aJ}{σ:St}{H:Hp}{R:V->V->Hp->Prop}(I:Inv X zv σ H s)
  (h:ta σ H fun x H1=>tb σ H1 fun y H2=>R x y H2) {Q:aG->aJ->Prop} {f:aG->aG->Sem aG}
  (hf:∀v u s2 x y H2,Inv X zv σ H2 s2->RelV x v->RelV y u->R x y H2->bK (bR X.prog X.w) X.A (f v u) Q X.xe s2) :
  bK (bR X.prog X.w) X.A (eval a X.env) (fun v s₁=>bK (bR X.prog X.w) X.A (eval b X.env) (fun u s₂=>bK (bR X.prog X.w) X.A (f v u) Q X.xe s₂) X.xe s₁) X.xe s:=by
 refine thn (ha zv s σ H _ I h) fun v s1 ⟨x,H1,I1,r1,q1⟩ =>?_
 refine thn (hb zv s1 σ H1 _ I1 q1) fun u s2 ⟨y,H2,I2,r2,q2⟩ =>?_
 exact hf v u s2 x y H2 I2 r1 r2 q2
theorem a8g{op:Operator}{r:R2}(ho:OpR X (gC op) r)(ha:PE X a ta)(hb:PE X b tb):PE X (.BinOp a op b pos) (tOp r ta tb):=by
 intro zv s σ H Q I h;exact wpAny_BinOp (binT ha hb I h fun v u s2 x y H2 I2 rx ry q=>ho zv s2 σ H2 x y v u Q I2 rx ry q)
theorem a8f{op:UnaryOp}{r:V->Hp->VK->Prop}(ho:UnR X (unaryOp op) r)(ha:PE X a ta):PE X (.UnaryOp op a pos) (tUn r ta):=by
 intro zv s σ H Q I h;exact UnaryOp_ (thn (ha zv s σ H _ I h) fun v s1 ⟨x,H1,I1,r1,q1⟩=>ho zv s1 σ H1 x v Q I1 r1 q1)
theorem opI{f:aG->aG->Sem aG}{C:Int->Int->Prop}{g:Int->Int->Int}
  (rule:∀(i j:Int) (t u:Tok) (s:aJ) (Q:aG->aJ->Prop) (E:aG->aJ->Prop),C i j->Q (.int (g i j) s.toks) { s with toks:=s.toks+1 }->bK (bR X.prog X.w) X.A (f (.int i t) (.int j u)) Q E s) :
  OpR X f (rI C fun i j=>.int (g i j)):=by
 intro zv s σ H x y v u Q I rx ry h;obtain⟨i,j,rfl,rfl,hc,q⟩:=h;obtain⟨t,rfl⟩:=rx;obtain⟨t',rfl⟩:=ry;exact rule i j t t' s _ _ hc ⟨.int (g i j),H,I.tok _,⟨_,rfl⟩,q⟩
theorem opI0{f:aG->aG->Sem aG}{g:Int->Int->Int}
  (rule:∀(i j:Int) (t u:Tok) (s:aJ) (Q:aG->aJ->Prop) (E:aG->aJ->Prop),Q (.int (g i j) s.toks) { s with toks:=s.toks+1 }->bK (bR X.prog X.w) X.A (f (.int i t) (.int j u)) Q E s) :
  OpR X f (rI0 fun i j=>.int (g i j)):=by
 intro zv s σ H x y v u Q I rx ry h;obtain⟨i,j,rfl,rfl,q⟩:=h;obtain⟨t,rfl⟩:=rx;obtain⟨t',rfl⟩:=ry;exact rule i j t t' s _ _ ⟨.int (g i j),H,I.tok _,⟨_,rfl⟩,q⟩
theorem opB0{f:aG->aG->Sem aG}{g:Int->Int->Bool}
  (rule:∀(i j:Int) (t u:Tok) (s:aJ) (Q:aG->aJ->Prop) (E:aG->aJ->Prop),Q (.bool (g i j)) s->bK (bR X.prog X.w) X.A (f (.int i t) (.int j u)) Q E s) :
  OpR X f (rI0 fun i j=>.bl (g i j)):=by
 intro zv s σ H x y v u Q I rx ry h;obtain⟨i,j,rfl,rfl,q⟩:=h;obtain⟨t,rfl⟩:=rx;obtain⟨t',rfl⟩:=ry;exact rule i j t t' s _ _ ⟨.bl (g i j),H,I,rfl,q⟩
def CPow(i j:Int):Prop:=0<=j/\j<=1000000/\i.natAbs < 2 ^ 64
def CMul(i j:Int):Prop:=(-(2 ^ 64) < i/\i < 2 ^ 64)∨(-(2 ^ 64) < j/\j < 2 ^ 64)
theorem CMul.ok{i j:Int}(h:CMul i j):IntMulOk i j:=by
 rcases h with⟨h1,h2⟩ | ⟨h1,h2⟩
 ·exact .of_left (intBits_le_64 h1 h2)
 ·exact .of_right (intBits_le_64 h1 h2)
theorem a4n:OpR X (gC .Add) (rI0 fun i j=>.int (i+j)):=opI0 fun _ _ _ _ _ _ _ q=>add_int q
theorem a4h:OpR X (gC .Sub) (rI0 fun i j=>.int (i - j)):=opI0 fun _ _ _ _ _ _ _ q=>sub_int q
theorem a4k:OpR X (gC .Mult) (rI CMul fun i j=>.int (i*j)):=opI fun _ _ _ _ _ _ _ hc q=>mul_int q hc.ok
theorem a4l:OpR X (gC .Mod) (rI (fun _ j=>0 < j) fun i j=>.int (i % j)):=opI fun i j _ _ _ _ _ hc q=>by
 have h1:(0:Int) < j:=hc;exact mod_int' (by omega) (by rw[tK i (by omega)];exact q)
theorem a4j:OpR X (gC .Pow) (rI CPow fun i j=>.int (i ^ j.toNat)):=opI fun _ _ _ _ _ _ _ hc q=>pow_int_small hc.1 hc.2.1 hc.2.2 q
theorem unI{f:aG->Sem aG}{g:Int->Int}
  (rule:∀(i:Int) (t:Tok) (s:aJ) (Q:aG->aJ->Prop) (E:aG->aJ->Prop),Q (.int (g i) s.toks) { s with toks:=s.toks+1 }->bK (bR X.prog X.w) X.A (f (.int i t)) Q E s) :
  UnR X f (rU fun i=>.int (g i)):=by
 intro zv s σ H x v Q I rx h;obtain⟨i,rfl,q⟩:=h;obtain⟨t,rfl⟩:=rx;exact rule i t s _ _ ⟨.int (g i),H,I.tok _,⟨_,rfl⟩,q⟩
theorem a2r:UnR X (unaryOp .USub) (rU fun i=>.int (-i)):=unI fun _ _ _ _ _ q=>neg_int q
end
section
variable{X:Cx}{a b c:dW}{ta tb tc:TE}{pos:Pos}
theorem a8l:OpR X (fY .Lt) (rI0 fun i j=>.bl (decide (i < j))):=opB0 fun _ _ _ _ _ _ _ q=>lt_int q
theorem as7:OpR X (fY .LtE) (rI0 fun i j=>.bl (decide (i<=j))):=opB0 fun _ _ _ _ _ _ _ q=>le_int q
theorem a8m:OpR X (fY .GtE) (rI0 fun i j=>.bl (decide (j<=i))):=opB0 fun _ _ _ _ _ _ _ q=>ge_int q
theorem jy(b:dW){op:uP}(h:op≠.In:=by decide)(h2:op≠.NotIn:=by decide):jF op b=false:=by
 have e1:(op==CmpOp.In)=false:=by cases op <;> first | rfl | exact absurd rfl h
 have e2:(op==CmpOp.NotIn)=false:=by cases op <;> first | rfl | exact absurd rfl h2
 cases b <;> simp[jF,e1,e2]
theorem a0g{op:uP}{r:R2}(ho:OpR X (fY op) r)(ha:PE X a ta)(hb:PE X b tb)(hm:jF op b=false):PE X (.Compare a [op] [b] pos) (tOp r ta tb):=by
 intro zv s σ H Q I h;exact wpAny_Compare1 (binT ha hb I h fun v u s2 x y H2 I2 rx ry q=>ho zv s2 σ H2 x y v u Q I2 rx ry q) hm
def a7y(t:TE):TT:=fun σ H Q=>t σ H fun x H'=>∃k,x=.bl k/\Q k H'
theorem az0{op:uP}{r:R2}(ho:OpR X (fY op) r)(ha:PE X a ta)(hb:PE X b tb)(hm:jF op b=false):PT X (.Compare a [op] [b] pos) (a7y (tOp r ta tb)):=by
 intro zv s σ H Q I h;refine wpAny_isTrue_Compare1 (thn (ha zv s σ H _ I h) fun v s1 ⟨x,H1,I1,r1,q1⟩=>thn (hb zv s1 σ H1 _ I1 q1) fun u s2 ⟨y,H2,I2,r2,q2⟩ =>
  thn (ho zv s2 σ H2 x y v u _ I2 r1 r2 q2) fun c s3 ⟨z,H3,I3,r3,k,e,q3⟩ =>?_) hm
 subst e;cases r3;exact wpAny_truthy_bool ⟨H3,I3,q3⟩
def ayc(r r':R2)(ta tb tc:TE):TE:=fun σ H Q=>ta σ H fun x H1=>tb σ H1 fun y H2=>r x y H2 fun z H3=>∃k,z=.bl k /\
 (if k=true then tc σ H3 fun w' H4=>r' y w' H4 Q else Q (.bl false) H3)
theorem awn{op op':uP}{r r':R2}(ho:OpR X (fY op) r)(ho':OpR X (fY op') r')(ha:PE X a ta)(hb:PE X b tb)(hc:PE X c tc)
  (hm:lastMarks [op,op'] [b,c]=false:=by with_unfolding_all rfl):PE X (.Compare a [op,op'] [b,c] pos) (ayc r r' ta tb tc):=by
 intro zv s σ H Q I h;refine Compare_chain (thn (ha zv s σ H _ I h) fun v s1 ⟨x,H1,I1,r1,q1⟩=>chain_link (thn (hb zv s1 σ H1 _ I1 q1) fun u s2 ⟨y,H2,I2,r2,q2⟩ =>
  thn (ho zv s2 σ H2 x y v u _ I2 r1 r2 q2) fun d s3 ⟨z,H3,I3,r3,k,e,q3⟩ =>?_)) hm
 subst e;cases r3;refine wpAny_truthy_bool ?_;cases k with
 | false=>exact ite_ff ⟨.bl false,H3,I3,rfl,q3⟩
 | true=>exact ite_tt (chain_last (thn (hc zv s3 σ H3 _ I3 q3) fun w' s4 ⟨z',H4,I4,r4,q4⟩=>ho' zv s4 σ H4 y z' u w' Q I4 r2 r4 q4))
theorem als:(cJ:Nat) < 2 ^ 63:=by rw[iV];decide
theorem aql:OpR X (gC .Add) (fun x y H Q=>∃i j,x=.str i/\y=.str j/\i.length+j.length<=cJ/\Q (.str (i++j)) H):=by
 intro zv s σ H x y v u Q I rx ry h;obtain⟨i,j,rfl,rfl,hz,q⟩:=h;obtain⟨t,rfl⟩:=rx;obtain⟨t',rfl⟩:=ry;exact add_str (fun t' tk=>⟨.str (i++j),H,I.tok _,⟨_,rfl⟩,q⟩) hz
theorem vals1{x:V}{us:List aG}(r:Vals [x] us):∃u,us=[u]/\RelV x u:=by
 cases r with
 | cons r1 r2=>cases r2;exact⟨_,rfl,r1⟩
theorem vals2{x y:V}{us:List aG}(r:Vals [x,y] us):∃u w',us=[u,w']/\RelV x u/\RelV y w':=by
 cases r with
 | cons r1 r2 =>
  cases r2 with
  | cons r3 r4=>cases r4;exact⟨_,_,rfl,r1,r3⟩
theorem ax1:abv X (.builtin "abs") (fun xs H Q=>∃i,xs=[.int i]/\Q (.int (if i < 0 then -i else i)) H):=by
 intro zv s σ H xs us Q I r h;obtain⟨i,rfl,q⟩:=h;obtain⟨u,rfl,t,rfl⟩:=vals1 r;exact call_abs_int fun u tk=>⟨.int (if i < 0 then -i else i),H,I.tok _,⟨_,rfl⟩,q⟩
theorem avj(hc:X.calm=true):abv X (.builtin "max") (fun xs H Q=>∃i j,xs=[.int i,.int j]/\Q (.int (if j > i then j else i)) H):=by
 intro zv s σ H xs us Q I r h;obtain⟨i,j,rfl,q⟩:=h;obtain⟨u,w',rfl,⟨t,rfl⟩,⟨t',rfl⟩⟩:=vals2 r;refine max_two_ints (I.ok.hd hc) fun h' tk k=>⟨_,H,I.kept k,?_,q⟩
 by_cases hj:j > i
 ·rw[if_pos hj,if_pos hj];exact⟨_,rfl⟩
 ·rw[if_neg hj,if_neg hj];exact⟨_,rfl⟩
theorem amg:abv X (.type "int") (fun xs H Q=>(∃i,xs=[.int i]/\Q (.int i) H)∨∃k,xs=[.bl k]/\Q (.int (if k then 1 else 0)) H):=by
 intro zv s σ H xs us Q I r h;rcases h with⟨i,rfl,q⟩ | ⟨k,rfl,q⟩
 ·obtain⟨u,rfl,t,rfl⟩:=vals1 r;exact call_int_int ⟨.int i,H,I,⟨_,rfl⟩,q⟩
 ·obtain⟨u,rfl,r1⟩:=vals1 r;cases r1;exact call_int_bool ⟨.int (if k then 1 else 0),H,I.tok _,⟨_,rfl⟩,q⟩
end
structure ObjM (h:fH) (x dx C:aZ) (mA:Str->Option aG):Prop where
 obj:h.get? x=some (jP C dx)
 ns:h.Ns1 dx mA
 ne:dx≠x
theorem ati{h:fH}{dx:aZ}{mA:Str->Option aG}(n:h.Ns1 dx mA):∃od,h.get? dx=some od/\∀name,tU name od=some (mA name):=by
 obtain⟨o,es,ep,ho,hd,hk,_,hm⟩:=n;refine⟨o,ho,fun name =>?_⟩
 have e:=hm name;unfold nsFind findBy at e;rw[<-wQ] at e;unfold tU;rw[hd];dsimp only;split
 ·rename_i y q;rw[q] at e;exact congrArg some e
 ·rename_i q;rw[q] at e;have a:es.toList.any (·.refKey)=false:=by
   rw[List.any_eq_false];intro y hy;obtain⟨z,t,hkey⟩:=hk y (Array.mem_toList_iff.mp hy);simp[DictEntry.refKey,hkey]
  have a':¬es.toList.any (·.refKey)=true:=by rw[a];exact dG
  rw[if_neg a'];exact congrArg some e
theorem ObjM.look{h:fH}{x dx C:aZ}{mA:Str->Option aG}(I:ObjM h x dx C mA):∃od,jK h x (jP C dx) C (some od)/\∀name,tU name od=some (mA name) :=
 let ⟨od,ho,hl⟩:=ati I.ns
 ⟨od,⟨I.obj,rfl,rfl,ho⟩,hl⟩
section
variable{prog:cF}{w:dR}{A:cQ}{E:aG->aJ->Prop}{s:aJ}{K:Fg9}{x dx C f:aZ}{mA:Str->Option aG}{name:Str}{v:aG}
end
section
variable{P:cF}{w:dR}{H H':Hp}{h h':fH}{a C dx:aZ}{fs fs':List (Str×V)}
theorem a09(hok:HOk P w H h)(e:H a=some (.ins C dx fs)):∃mA,ObjM h a dx C mA/\(∀f,RelO (fs.lookup f) (mA f))/\PySem.Within mA (fs.map (·.1))/\fs.length<=1000/\H dx=some (.own a):=by
 obtain⟨d,z,ne,ob,mA,n,r,q⟩:=(show xm P w H h a (.ins C dx fs) from hok a _ e)
 exact⟨mA,⟨ob,n,ne⟩,r,q,z,d⟩
end
structure Cls (K:Fg9) (C:aZ):Prop where
 pg:yD K C Str.empty=true
 hd:lZ K C=true
 po:PySem.W.plainOver K C=true
 sa:mR K (.ref C) "__setattr__" = some (some (.builtin "object.__setattr__"))
theorem Cls.get{K:Fg9}{C:aZ}(c:Cls K C)(f:Str):yD K C f=true:=c.pg
structure Con (K:Fg9) (C:aZ) (f:Str) (v:V) (u:aG):Prop where
 at_:mR K (.ref C) f=some (some u)
 rel:RelV v u
 get:lY K u "__get__" = some none
 cp:PySem.W.copiedNames.contains f=false
structure Meth (K:Fg9) (C:aZ) (m:Str) (f:aZ):Prop where
 at_:mR K (.ref C) m=some (some (.ref f))
 fn:PySem.W.isFn K (.ref f)=true
 kp:nY K (.ref f)=true
section
variable{X:Cx}{zv:List (aZ×Obj)}{σ:St}{H:Hp}{s:aJ}{a C dx:aZ}{fs:List (Str×V)}{f:Str}{v:V}{A:cQ}{E:aG->aJ->Prop}
theorem Inv.made(I:Inv X zv σ H s):Inv X zv σ (upd (upd H s.heap.objs.size (.own (s.heap.objs.size+1))) (s.heap.objs.size+1) (.ins C s.heap.objs.size []))
  { s with heap:=(s.heap.push iY).push (jP C s.heap.objs.size) }:=by
 have e1:(s.heap.push iY).get? s.heap.objs.size=some iY:=aO s.heap rfl;have e2:((s.heap.push iY).push (jP C s.heap.objs.size)).get? (s.heap.objs.size+1)=some (jP C s.heap.objs.size):=by
  have:=aO (s.heap.push iY) (o:=jP C s.heap.objs.size) rfl;rwa[cH] at this
 have e3:(s.heap.push iY).Ns s.heap.objs.size (fun _=>none):=⟨PySem.W.emptyDict,#[],_,e1,rfl,(fun e he=>absurd he (by simp)),fun _=>rfl⟩
 have I1:=I.laid (a:=s.heap.objs.size) (o:=.own (s.heap.objs.size+1)) (h':=s.heap.push iY) (t':=s.toks) (fun b u q=>aD _ q) (aL _) ⟨_,e1⟩
 refine I1.laid (a:=s.heap.objs.size+1) (o:=.ins C s.heap.objs.size []) (t':=s.toks) (fun b u q=>aD _ q) (pM (cH _ _)) ?_
 have ne:s.heap.objs.size≠s.heap.objs.size+1:=bI (kZ _);refine⟨by rw[cu ne,gw],eF _,ne,e2,fun _=>none,(xT e3).at fun o q=>aD _ q,fun _=>oA,fun y hy=>absurd rfl hy⟩
end
section
variable{X:Cx}{o e value:dW}{f:Str}{pos pos' tpos:Pos}{ta tv:TE}
end
section
variable{X:Cx}{zv:List (aZ×Obj)}{σ:St}{H:Hp}{s:aJ}{A:cQ}{E:aG->aJ->Prop}{Q:aG->aJ->Prop}{c:aG}{b:Bool}
inductive TyOf (K:Fg9) (H:Hp):V->aG->Prop where
 | non:TyOf K H .non (.type "NoneType")
 | bl (x:Bool):TyOf K H (.bl x) (.type "bool")
 | int (i:Int):TyOf K H (.int i) (.type "int")
 | str (x:Str):TyOf K H (.str x) (.type "str")
 | flt (x:UInt64):TyOf K H (.flt x) (.type "float")
 | lst {a:aZ} {xs:List V} (e:H a=some (.lst xs)):TyOf K H (.ref a) (.type "list")
 | frz {a:aZ} {o:Obj} {xs:List V} (e:H a=some (.frz o (.lst xs))):TyOf K H (.ref a) (.type "list")
 | tup {a:aZ} {xs:List V} (e:H a=some (.tup xs)):TyOf K H (.ref a) (.type "tuple")
 | dK {a:aZ} {kvs:List (Key×V)} (e:H a=some (.dK kvs)):TyOf K H (.ref a) (.type "dict")
 | dT {a:aZ} {kvs:List (List Key×V)} (e:H a=some (.dT kvs)):TyOf K H (.ref a) (.type "dict")
 | ins {a C dx:aZ} {fs:List (Str×V)} (e:H a=some (.ins C dx fs)) (cl:Cls K C) (ha:mR K (.ref C) "__class__" = some (some (.builtin "object.__class__")))
   (hn:lY K (.builtin "object.__class__") "__get__" = some (some (.builtin "getset_descriptor.__get__"))) (htk:pI K (.builtin "object.__class__")=some true)
   (hm:lL K C (.type "object")=some true):TyOf K H (.ref a) (.ref C)
theorem at4{x:V}{u t:aG}(I:Inv X zv σ H s)(rx:RelV x u)(ty:TyOf X.K H x t)(e:gW X.K t c=some b)(h:∀tk,Q (.bool b) { s with toks:=tk }) :
  bK (bR X.prog X.w) A (call (.builtin "isinstance") [u,c]) Q E s:=by
 cases ty with
 | non=>cases(show u=cT from rx);exact eH PySem.W.kitx_none I.kIn oA e (fun z=>nomatch z) h
 | bl y=>cases(show u=rC y from rx);exact eH PySem.W.kitx_bool I.kIn oA e (fun z=>nomatch z) h
 | int i=>obtain⟨t,q⟩:=(show ∃t,u=nZ i t from rx);cases q;exact eH PySem.W.kitx_int I.kIn oA e (fun z=>nomatch z) h
 | str y=>obtain⟨t,q⟩:=(show ∃t,u=uU y t from rx);cases q;exact eH PySem.W.kitx_str I.kIn oA e (fun z=>nomatch z) h
 | flt y=>obtain⟨t,q⟩:=(show ∃t,u=vP y t from rx);cases q;exact eH PySem.W.kitx_float I.kIn oA e (fun z=>nomatch z) h
 | @lst a xs ea =>
  cases(show u=dJ a from rx)
  obtain⟨_,_,n,_,h1⟩:=(show xm X.prog X.w H s.heap a (.lst xs) from I.hok a _ ea)
  exact eH rE I.kIn ⟨_,h1,rfl⟩ e (fun z=>nomatch z) h
 | @frz a ob xs ea =>
  cases(show u=dJ a from rx)
  obtain⟨_,_,_,n,_,h1⟩:=(show xm X.prog X.w H s.heap a (.frz ob (.lst xs)) from I.hok a _ ea)
  exact eH rE I.kIn ⟨_,h1,rfl⟩ e (fun z=>nomatch z) h
 | @tup a xs ea =>
  cases(show u=dJ a from rx)
  obtain⟨_,_,_,p⟩:=(show xm X.prog X.w H s.heap a (.tup xs) from I.hok a _ ea)
  obtain⟨o,h1,h2,_⟩:=p;exact eH PySem.W.kitx_tuple I.kIn ⟨o,h1,h2⟩ e (fun z=>nomatch z) h
 | @dK a kvs ea =>
  cases(show u=dJ a from rx)
  obtain⟨_,_,vs,_,p⟩:=(show xm X.prog X.w H s.heap a (.dK kvs) from I.hok a _ ea)
  obtain⟨o,es,ep,h1,h2,_⟩:=p;exact eH wW I.kIn ⟨o,h1,h2.1⟩ e (fun z=>nomatch z) h
 | @dT a kvs ea =>
  cases(show u=dJ a from rx)
  obtain⟨_,_,xs,_,o,es,ep,h1,h2,_⟩:=(show xm X.prog X.w H s.heap a (.dT kvs) from I.hok a _ ea)
  exact eH wW I.kIn ⟨o,h1,h2.1⟩ e (fun z=>nomatch z) h
 | @ins a C dx fs ea cl ha hn htk hm =>
  cases(show u=dJ a from rx)
  obtain⟨mA,O,_⟩:=a09 I.hok ea;obtain⟨od,J,_⟩:=O.look;exact eH (PySem.W.kitx_own (cl.get _) cl.hd ha hn htk hm) I.kIn J e (fun z=>nomatch z) h
end
structure Room (k:Nat) (A:cQ):Prop where
 hd:A.handled=none
 dp:A.depth+3*k+5 < recursionLimit
 un:A.units+16*k+200 < cLine
 gd:A.guards=some []
theorem Room.mono{j k:Nat}{A:cQ}(r:Room k A)(h:j<=k):Room j A:=⟨r.hd,by have:=r.dp;omega,by have:=r.un;omega,r.gd⟩
theorem Room.deeper{k:Nat}{A:cQ}(r:Room (k+1) A)(env:Env):Room k (A.deeper env) :=
 ⟨r.hd,by have:=r.dp;show A.depth+1+3*k+5 < _;omega,by have:=r.un;show A.units+3+16*k+200 < _;omega,r.gd⟩
theorem aqt{A:cQ}{C:aZ}{us:List aG}{kw:List (Str×Value)}:(A.under (.builtin "type.__call__" ⟨.ref C::us,kw⟩)).depth=A.depth+1:=by
 first | rfl | simp[rQ,Code.weight,yV,Code.isGuard,zP,wA,rO,guardIds]
theorem aqs{A:cQ}{C:aZ}{us:List aG}{kw:List (Str×Value)}:(A.under (.builtin "type.__call__" ⟨.ref C::us,kw⟩)).units=A.units+1:=by
 first | rfl | simp[rQ,Code.cUnits,wA,rO]
theorem ant{A:cQ}{C:aZ}{us:List aG}{kw:List (Str×Value)}:(A.under (.builtin "type.__call__" ⟨.ref C::us,kw⟩)).guards=A.guards:=by first | rfl | simp[rQ,Code.weight,yV,Code.isGuard,zP,wA,rO,guardIds]
theorem Room.make{k:Nat}{A:cQ}(r:Room (k+1) A)(C:aZ)(us:List aG)(kw:List (Str×Value)):Room k (A.under (.builtin "type.__call__" ⟨.ref C::us,kw⟩)) :=
 ⟨r.hd,by have:=r.dp;rw[aqt];omega,by have:=r.un;rw[aqs];omega,by rw[ant];exact r.gd⟩
theorem Room.depth{k:Nat}{A:cQ}(r:Room k A):A.depth < recursionLimit:=by have:=r.dp;omega
theorem Room.units{k:Nat}{A:cQ}(r:Room k A):A.units+64 < cLine:=by have:=r.un;omega
def tNil:TA:=fun _ H Q=>Q [] H
def a73(ta:TE)(tr:TA):TA:=fun σ H Q=>ta σ H fun x H1=>tr σ H1 fun xs H2=>Q (x::xs) H2
section
variable{X:Cx}{e:dW}{es:List dW}{te:TE}{t:TA}{pos:Pos}
theorem aeh:PA X [] tNil:=fun _ _ _ _ H Q I h=>Calls.spliced_nil ⟨[],H,I,.nil,h⟩
theorem tu(ha:PE X e te)(hr:PA X es t)(hs:aX (e::es) X.env=(false,eval e X.env)::aX es X.env:=by rfl):PA X (e::es) (a73 te t):=by
 intro pos zv s σ H Q I h;rw[hs];show bK _ _ (spliced ((false,eval e X.env)::jB pos (aX es X.env))) _ _ s;refine nH (thn (ha zv s σ H _ I h) fun u s1 ⟨x,H1,I1,r1,q1⟩ =>?_)
 exact thn (hr pos zv s1 σ H1 _ I1 q1) fun us s2 ⟨xs,H2,I2,r2,q2⟩=>⟨x::xs,H2,I2,.cons r1 r2,q2⟩
def tTup(t:TA):TE:=fun σ H Q=>t σ H fun xs H1=>xs.length<=cJ/\∀p,H1 p=none->Q (.ref p) (upd H1 p (.tup xs))
def tLst(t:TA):TE:=fun σ H Q=>t σ H fun xs H1=>xs.length<=cJ/\∀p,H1 p=none->Q (.ref p) (upd H1 p (.lst xs))
theorem a3w{x1}(h:PA X es t):PE X (.Tuple es x1 pos) (tTup t):=by
 intro zv s σ H Q I hq;refine wpAny_Tuple_spliced (thn (h pos zv s σ H _ I hq) fun us s1 ⟨xs,H1,I1,r,z,q⟩=>⟨by rw[<-r.length];exact z,?_⟩)
 have hf:H1 s1.heap.objs.size=none:=I1.hok.fresh (aL _);refine⟨.ref s1.heap.objs.size,upd H1 s1.heap.objs.size (.tup xs),I1.laid (t':=s1.toks) (fun b u e=>aD _ e) (aL _) ?_,rfl,q _ hf⟩
 exact⟨z,us,r,⟨_,aO _ rfl,rfl,rfl,_,rfl⟩⟩
theorem a4b(h:PA X es t):PE X (.List es pos) (tLst t):=by
 intro zv s σ H Q I hq;refine wpAny_List_spliced (thn (h pos zv s σ H _ I hq) fun us s1 ⟨xs,H1,I1,r,z,q⟩=>⟨by rw[<-r.length];exact z,?_⟩)
 have hf:H1 s1.heap.objs.size=none:=I1.hok.fresh (aL _);refine⟨.ref s1.heap.objs.size,upd H1 s1.heap.objs.size (.lst xs),I1.laid (t':=s1.toks) (fun b u e=>aD _ e) (aL _) ?_,rfl,q _ hf⟩
 exact⟨z,us,0,r,aO _ rfl⟩
end
abbrev Sp:=List V->Hp->VK->XK->Prop
abbrev CXT:=List Env->Hp->aJ->XK->aG->aJ->Prop
structure Env0 (P:cF) (w:dR) (K:Fg9) (mg:Str->Option aG) (base:fH) (A:cQ) (outer:List Env) (s:aJ) (H:Hp):Prop where
 frames:A.frames=some outer
 mod:Mod K mg base
 bs:∀b o,base.get? b=some o->s.heap.get? b=some o/\H b=none
 bsz:base.objs.size<=s.heap.objs.size
 funs:s.heap.FunFrames base outer
 frf:∀b∈frs outer,H b=none
 hok:HOk P w H s.heap
 bare:qC s.gens
def CE(outer:List Env)(P:cF)(w:dR)(H:Hp)(s:aJ)(Q:VK)(u:aG)(s':aJ):Prop :=
 ∃v H',s'.os=s.os/\qC s'.gens/\Un (frs outer) [] H H' s.heap s'.heap/\HOk P w H' s'.heap/\RelV v u/\Q v H'
def CR(CX:CXT)(outer:List Env)(P:cF)(w:dR)(H:Hp)(s:aJ)(Q:VK)(E:XK)(r:Result)(s':aJ):Prop :=
 match r with
 | .ok (.ret u)=>CE outer P w H s Q u s'
 | .ok _=>False
 | .error e=>CX outer H s E e s'
structure FnOk (P:cF) (w:dR) (K:Fg9) (mg:Str->Option aG) (base:fH) (CX:CXT) (k:Nat) (f:aZ) (fd:fX) (ps:List Str) (sp:Sp):Prop where
 len:∀vs H Q E,sp vs H Q E->vs.length=ps.length
 run:∀(A:cQ) (outer:List Env) (s:aJ) (H:Hp) (args:Args) (us:List aG) (vs:List V) (Q:VK) (E:XK),Room k A->Env0 P w K mg base A outer s H->pA s fd args (ps.zip us)->Vals vs us->sp vs H Q E ->
  oK (bR P w) A (.call (.ref f) args) (CR CX outer P w H s Q E) s
theorem Env0.make{P:cF}{w:dR}{K:Fg9}{mg:Str->Option aG}{base:fH}{A:cQ}{outer:List Env}{s:aJ}{H:Hp}(e:Env0 P w K mg base A outer s H)(C:aZ)(us:List aG)(kw:List (Str×Value)) :
  Env0 P w K mg base (A.under (.builtin "type.__call__" ⟨.ref C::us,kw⟩)) outer s H:=⟨by first | exact e.frames | (simpa[rQ,Code.envs,rO,pushEnvs] using e.frames),e.mod,e.bs,e.bsz,e.funs,e.frf,e.hok,e.bare⟩
section
variable{X:Cx}{zv:List (aZ×Obj)}{σ:St}{H:Hp}{s s':aJ}
theorem Inv.env0(I:Inv X zv σ H s):Env0 X.prog X.w X.K X.mg X.base X.A X.stack s H :=
 ⟨I.ok.frames,I.ok.mod,I.bs,cL I.ok.bsz I.sz,I.stack,I.stkFree,I.hok,I.bare⟩
theorem Inv.after{Q:VK}{u:aG}(I:Inv X zv σ H s)(h:CE X.stack X.prog X.w H s Q u s'):EP X zv σ Q u s':=by
 obtain⟨v,H',os,bare,un,hok,r,q⟩:=h;obtain⟨hh,g,d,t,os'⟩:=s';obtain rfl:os'=s.os:=os;exact⟨v,H',I.call (h':=hh) (g':=g) (d':=d) (t':=t) (ch:=[]) un hok bare (fun b z=>absurd z (by simp)),r,q⟩
end
def azn(sp:Sp)(dvs:List V)(E:XK)(t:TA):TE:=fun σ H Q=>t σ H fun vs H1=>sp (vs++dvs) H1 Q E
def Binds(K:Fg9)(fd:fX)(ps:List Str)(ds:List aG):Prop :=
 ∀(s:aJ) (us:List aG),K.In s.heap->(us++ds).length=ps.length->pA s fd ⟨us,[]⟩ (ps.zip (us++ds))
theorem Binds.all{K:Fg9}{fd:fX}{ps:List Str}(h:∀us:List aG,us.length=ps.length->bindArgs fd ⟨us,[]⟩=pure (ps.zip us)):Binds K fd ps []:=fun s us _ hl=>by
 rw[fO] at hl ⊢
 exact .of_eq (h us hl)
def avy(CX:CXT)(X:Cx)(E:XK):Prop:=∀(zv:List (aZ×Obj)) (σ:St) (H:Hp) (s:aJ) (e:aG) (s':aJ),Inv X zv σ H s->CX X.stack H s E e s'->X.xe e s'
section
variable{X:Cx}{CX:CXT}{k:Nat}{f C:aZ}{fd:fX}{ps:List Str}{sp:Sp}{dvs:List V}{ds:List aG}{E:XK}{x m:Str}{p pos apos:Pos}{e o:dW}{es:List dW}{ta:TE}{t:TA}
theorem a3g{zv:List (aZ×Obj)}{σ:St}{H:Hp}{s:aJ}{Q:VK}{us:List aG}{vs:List V}(F:FnOk X.prog X.w X.K X.mg X.base CX k f fd ps sp)(hr:Room k X.A)(hb:Binds X.K fd ps ds)(hd:Vals dvs ds)(hx:avy CX X E)
  (I:Inv X zv σ H s) (r:Vals vs us) (h:sp (vs++dvs) H Q E):bK (bR X.prog X.w) X.A (call (.ref f) us) (EP X zv σ Q) X.xe s:=by
 have r2:Vals (vs++dvs) (us++ds):=r.append hd;have hl:(us++ds).length=ps.length:=by rw[<-r2.length];exact F.len _ _ _ _ h
 refine mO (lC (F.run X.A X.stack s H ⟨us,[]⟩ (us++ds) (vs++dvs) Q E hr I.env0 (hb s us I.kIn hl) r2 h) fun r s' hq =>?_)
 cases r with
 | error e=>exact hx zv σ H s e s' I hq
 | ok fl =>
  cases fl with
  | ret u=>exact I.after hq
  | next=>exact fK hq
  | brk=>exact fK hq
  | cont=>exact fK hq
theorem a0h(F:FnOk X.prog X.w X.K X.mg X.base CX k f fd ps sp)(hr:Room k X.A)(hg:Gl X x)(hm:X.mg x=some (.ref f))(hk:nY X.K (.ref f)=true)(hb:Binds X.K fd ps ds)(hd:Vals dvs ds)(hx:avy CX X E)
  (ha:PA X (e::es) t) (hdb:(x==("__debug__" : Str))=false:=by decide) (he:aX (e::es) X.env=(false,eval e X.env)::aX es X.env:=by rfl) (hpl:(jB pos (aX es X.env)).any (·.1)=false:=by rfl) :
  PE X (.Call (.Name x p) (e::es) [] pos) (azn sp dvs E t):=by
 intro zv s σ H Q I h;refine wpAny_Call_Name_kw (adu I hg hm ?_ hdb);refine nA (h₀:=X.base) I.ok.mod.kin hk (thn (ha pos zv s σ H _ I h) fun us s1 ⟨vs,H1,I1,r,q⟩=>⟨I1.kIn,?_⟩) he hpl
 exact a3g F hr hb hd hx I1 r q
structure Mk (K:Fg9) (C f:aZ):Prop where
 makes:PySem.W.makesIn K C=true
 init:mR K (.ref C) "__init__" = some (some (.ref f))
 fn:PySem.W.isFn K (.ref f)=true
 kp:nY K (.ref C)=true
end
section
variable{X:Cx}{CX:CXT}{k:Nat}{f C:aZ}{fd:fX}{ps ks:List Str}{sp:Sp}{E:XK}{x m:Str}{p pos apos kpos:Pos}{e o:dW}{es:List dW}{kws:List qO}{te ta:TE}{t tk:TA}{nm:Option Str}
structure KBinds (K:Fg9) (fd:fX) (ps ks:List Str) (g:List aG->List aG->List aG) (gV:List V->List V->List V):Prop where
 to:∀(s:aJ) (us ws:List aG),K.In s.heap->(g us ws).length=ps.length->pA s fd ⟨us,ks.zip ws⟩ (ps.zip (g us ws))
 rel:∀{vs:List V} {us:List aG} {zs:List V} {ws:List aG},Vals vs us->Vals zs ws->Vals (gV vs zs) (g us ws)
variable{g:List aG->List aG->List aG}{gV:List V->List V->List V}
end
structure FnScope (N P:List Str) (sc:lX):Prop where
 kind:sc.kind=.function
 co:sc.isCoroutine=false
 gen:sc.isGenerator=false
 nd:N.Nodup
 pre:N.take P.length=P
 par:∀x∈P,sc.names.lookup x=some .local∨sc.names.lookup x=some .cell
 nofree:∀y∈sc.names,y.2≠.free
theorem amk{kindOf:Str->Option uJ}{x:Str}:∀{binds:List (Str×Value)} {m:Str->Option aG},(∀v,(x,v)∉binds)->bindL kindOf binds m x=m x
 | [],_,_=>rfl
 | (n,v)::r,m,h=>by
  unfold bindL;rw[amk fun w hw=>h w (aN _ hw)]
  split
  ·have:x≠n:=by rintro rfl;exact h v aR
   simp[this]
  ·rfl
theorem amm{kindOf:Str->Option uJ}{x:Str}:∀{binds:List (Str×Value)} {m:Str->Option aG},(∀v,(x,v)∉binds)->bindC kindOf binds m x=m x
 | [],_,_=>rfl
 | (n,v)::r,m,h=>by
  unfold bindC;rw[amm fun w hw=>h w (aN _ hw)]
  split
  ·rfl
  ·have:x≠n:=by rintro rfl;exact h v aR
   simp[this]
theorem aml{kindOf:Str->Option uJ}{x:Str}{v:aG}:∀{P:List Str} {vs:List aG} {i:Nat} {m:Str->Option aG},P.Nodup->P[i]? = some x->vs[i]? = some v->kindOf x=some .local ->
  bindL kindOf (P.zip vs) m x=some v
 | [],_,_,_,_,h,_,_=>by simp at h
 | _::_,[],_,_,_,_,h,_=>by simp at h
 | p::P,w::vs,0,m,nd,h1,h2,hk=>by
  simp at h1 h2;subst h1;subst h2;show bindL kindOf ((p,w)::P.zip vs) m p=_;unfold bindL;rw[amk fun v hv=>(pO.mp nd).1 (pN hv).1,if_pos hk]
  simp
 | p::P,w::vs,i+1,m,nd,h1,h2,hk=>by
  show bindL kindOf ((p,w)::P.zip vs) m x=_;unfold bindL;exact aml (i:=i) (pO.mp nd).2 (by simpa using h1) (by simpa using h2) hk
theorem amn{kindOf:Str->Option uJ}{x:Str}{v:aG}:∀{P:List Str} {vs:List aG} {i:Nat} {m:Str->Option aG},P.Nodup->P[i]? = some x->vs[i]? = some v->kindOf x≠some .local ->
  bindC kindOf (P.zip vs) m x=some v
 | [],_,_,_,_,h,_,_=>by simp at h
 | _::_,[],_,_,_,_,h,_=>by simp at h
 | p::P,w::vs,0,m,nd,h1,h2,hk=>by
  simp at h1 h2;subst h1;subst h2;show bindC kindOf ((p,w)::P.zip vs) m p=_;unfold bindC;rw[amm fun v hv=>(pO.mp nd).1 (pN hv).1,if_neg hk]
  simp
 | p::P,w::vs,i+1,m,nd,h1,h2,hk=>by
  show bindC kindOf ((p,w)::P.zip vs) m x=_;unfold bindC;exact amn (i:=i) (pO.mp nd).2 (by simpa using h1) (by simpa using h2) hk
def start(N:List Str)(vs:List V):St:=vs.map some++aU (N.length - vs.length) none
def cxOf(CX:CXT)(P:cF)(w:dR)(K:Fg9)(mg:Str->Option aG)(base:fH)(N:List Str)(qual:Str)(scope:lX)(f:aZ)(cd:aG)(A:cQ)(outer:List Env)(s:aJ)(H:Hp)(E:XK):Cx where
 prog:=P
 w:=w
 K:=K
 mg:=mg
 base:=base
 A:=A.deeper (pB qual scope s.heap.objs.size f cd)
 N:=N
 s₀:=s
 H₀:=H
 env:=pB qual scope s.heap.objs.size f cd
 outer:=outer
 stack:=pB qual scope s.heap.objs.size f cd::outer
 ex:=[]
 calm:=true
 fn:=fun _=>true
 pn:=[]
 xe:=fun e s'=>bK (bR P w) (A.deeper (pB qual scope s.heap.objs.size f cd)) (leaving (pB qual scope s.heap.objs.size f cd) e) (fun _ s''=>CX outer H s E e s'') (fun e' s''=>CX outer H s E e' s'') s'
theorem apu{sc:lX}{n:Nat}{x:Str}(h:sc.names.lookup x=some .cell):∃c,(cellsFrom n sc.names []).lookup x=some c:=by
 have q:=pF sc.names n [] (.inl h);exact uC.mp q
theorem alz{CX:CXT}{P:cF}{w:dR}{K:Fg9}{mg:Str->Option aG}{base:fH}{N ps:List Str}{qual:Str}{scope:lX}{f:aZ}{cd:aG}{A:cQ}{outer:List Env}{s s1:aJ}{H:Hp}{E:XK}{us:List aG}{vs:List V}
  (S:FnScope N ps scope) (hd:A.handled=none) (e0:Env0 P w K mg base A outer s H) (hl:vs.length=ps.length) (r:Vals vs us)
  (x:InCallC s s.heap.objs.size (bindL (pB qual scope s.heap.objs.size f cd).kindOf (ps.zip us) fun _=>none) (cellsFrom (s.heap.objs.size+1) scope.names []) (bindC (pB qual scope s.heap.objs.size f cd).kindOf (ps.zip us) fun _=>none) s1) :
  Inv (cxOf CX P w K mg base N qual scope f cd A outer s H E) [] (start N vs) H s1:=by
 have hpl:ps.length<=N.length:=by have:=congrArg List.length S.pre;rw[gM] at this;omega
 obtain⟨h1,tk,rfl,hk⟩:=x.done;have noA:∀b:aZ,b∉(cxOf CX P w K mg base N qual scope f cd A outer s H E).ex:=fun b z=>absurd (show b∈([]:List aZ) from z) (by simp)
 refine⟨⟨e0.mod,S.kind,rfl,rfl,aL _,fun y z c h1 h2 =>?_,fun y hy =>?_,fun y c _ h =>?_,fun _=>hd,vN e0.frames,.inr ⟨rfl,rfl⟩,fun b z=>absurd z (noA b),e0.bs,e0.bsz,fun b _ _=>noA b,fun b z=>absurd z (noA b),e0.funs,e0.frf⟩,
  rfl,e0.bare,Un.kept hk,⟨_,x.toInCall.ns,fun i y v h1 h2 h3 =>?_⟩,fun y c h=>⟨_,x.cell y c h⟩,e0.hok.fresh (aL _),fun y c h =>?_,fun p hp=>absurd (show p∈([]:List (aZ×Obj)) from hp) (by simp),e0.hok.kept hk,?_⟩
 ·exact name_of_addr x.apart (iC h1) (iC h2)
 ·have hy:scope.names.lookup y=some .cell∨scope.names.lookup y=some .free:=hy;rcases hy with hy | hy
  ·exact apu hy
  ·exact absurd rfl (S.nofree _ (iC hy))
 ·exact nF (x.above y c (iC h))
 ·have hi:i < vs.length:=by
   unfold start at h2
   by_cases hi:i < vs.length
   ·exact hi
   ·rw[iQ (by simpa using hi)] at h2
    rw[lO] at h2;split at h2 <;> cases h2
  have ha:vs[i]? = some v:=by
   unfold start at h2;rw[cW (by simpa using hi),bA] at h2
   cases e:vs[i]? with
   | none=>rw[e] at h2;cases h2
   | some a=>rw[e] at h2;cases h2;rfl
  obtain⟨u,hu,rv⟩:=r.get ha;have hp:ps[i]? = some y:=by
   rw[<-S.pre,lH (by omega)];exact h1
  have ndP:ps.Nodup:=by rw[<-S.pre];exact S.nd.sublist (xF _ _)
  refine⟨u,rv,?_⟩;rcases S.par y (gQ hp) with k | k
  ·exact .inl ⟨k,aml ndP hp hu k⟩
  ·obtain⟨c,e⟩:=apu (n:=s.heap.objs.size+1) k;refine .inr ⟨.inl k,c,e,?_⟩;have q:=x.cell y c e;rw[amn ndP hp hu (by show scope.names.lookup y≠_;rw[k];decide)] at q
   exact q
 ·exact e0.hok.fresh (nF (x.above y c (iC h)))
 ·unfold start;show _=N.length;rw[dF,aW,mF];omega
theorem a5z{CX:CXT}{P:cF}{w:dR}{K:Fg9}{mg:Str->Option aG}{base:fH}{k:Nat}{f:aZ}{name qual:Str}{params:Arguments}{body:List iM}{scope:lX}{dV kV doc pm cdv ct oc:aG}{an od:Option aZ}
  {osl:Array (Option aG)} {N ps:List Str} {sp:Sp} (lk:K.lookup f=some ⟨oc,od,.func (fnOf name qual params body scope dV kV doc pm an cdv ct),osl⟩) (hcd:codeIn K cdv qual=true) (S:FnScope N ps scope)
  (len:∀vs H Q E,sp vs H Q E->vs.length=ps.length)
  (hbody:∀(A:cQ) (outer:List Env) (s:aJ) (H:Hp) (vs:List V) (Q:VK) (E:XK),Room k (A.deeper (pB qual scope s.heap.objs.size f cdv))->sp vs H Q E ->
   ∃t,PSs (cxOf CX P w K mg base N qual scope f cdv A outer s H E) body t/\t { nx:=fun _ H'=>Q .non H',rt:=Q } (start N vs) H) :
  FnOk P w K mg base CX (k+1) f (fnOf name qual params body scope dV kV doc pm an cdv ct) ps sp:=by
 refine⟨len,fun A outer s H args us vs Q E hr e0 hb r hsp =>?_⟩
 have hl:=len _ _ _ _ hsp;have KX:K.In s.heap:=e0.mod.kin.keeps fun b o e=>(e0.bs b o e).1
 have lim:s.heap.NoLimit:=e0.mod.nolimit.keeps fun b o e=>(e0.bs b o e).1
 have hkind:∀y∈ps.zip us,scope.names.lookup y.1=some .local∨(scope.names.lookup y.1=some .cell/\((cellsFrom (s.heap.objs.size+1) scope.names []).lookup y.1).isSome=true):=fun⟨n,v⟩ hy=>by
  rcases S.par n (pN hy).1 with q | q
  ·exact .inl q
  ·exact .inr ⟨q,pF _ _ _ (.inl q)⟩
 refine codeAny_call_function hr.depth (KX _ _ lk) rfl S.co S.gen rfl (wD KX hcd) (hb _ _ _ _ ?_);refine wpAny_newFunctionEnv_cells S.kind hkind fun env he s1 x =>?_
 subst he;refine⟨lim.keeps x.toInCall.keep,codeAny_func ?_⟩;obtain⟨t,ht,hq⟩:=hbody A outer s H vs Q E (hr.deeper _) hsp;have I:Inv (cxOf CX P w K mg base N qual scope f cdv A outer s H E) [] (start N vs) H s1:=alz S hr.hd e0 hl r x;refine bC (ht [] s1 (start N vs) H _ I hq) (fun fl s' hs =>?_) fun e s' hs=>hs
 have fin:∀{σ':St} {H':Hp} {v:V} {u:aG},Inv (cxOf CX P w K mg base N qual scope f cdv A outer s H E) [] σ' H' s'->RelV v u->Q v H'->CE outer P w H s Q u s' :=
  fun{σ' H' v u} J rv q=>⟨v,H',J.os,J.bare,J.base,J.hok,rv,q⟩
 cases fl with
 | ret u =>
  obtain⟨v,σ',H',J,rv,q⟩:=hs;exact fin J rv q
 | next =>
  obtain⟨σ',H',J,q⟩:=hs;exact fin (v:=V.non) (u:=cT) J rfl q
 | brk =>
  obtain⟨_,_,_,q⟩:=hs;exact fK q
 | cont =>
  obtain⟨_,_,_,q⟩:=hs;exact fK q
section
variable{X:Cx}{x:Str}{p pos:Pos}{e:dW}{es:List dW}{t:TA}{id T:String}{r:List V->Hp->VK->Prop}
def tCB(r:List V->Hp->VK->Prop)(t:TA):TE:=fun σ H Q=>t σ H fun vs H1=>r vs H1 Q
theorem aeg(hc:abv X (.builtin id) r)(hg:Gl X x)(hm:X.mg x=none)(hv:bT x=some (.builtin id))(ha:PA X (e::es) t)(hn:x ≠ "__name__" := by decide)(hdb:(x==("__debug__" : Str))=false:=by decide)
  (he:aX (e::es) X.env=(false,eval e X.env)::aX es X.env:=by rfl) (hpl:(jB pos (aX es X.env)).any (·.1)=false:=by rfl):PE X (.Call (.Name x p) (e::es) [] pos) (tCB r t):=by
 intro zv s σ H Q I h;refine wpAny_Call_Name_kw (ag8 I hg hm hv ?_ hn hdb);exact PyProof.Rows.callWith_builtin1 (thn (ha pos zv s σ H _ I h) fun us s1 ⟨vs,H1,I1,r1,q1⟩=>hc zv s1 σ H1 vs us Q I1 r1 q1) he hpl
theorem aef(hc:abv X (.type T) r)(hg:Gl X x)(hm:X.mg x=none)(hv:bT x=some (.type T))(ha:PA X (e::es) t)(hn:x ≠ "__name__" := by decide)(hdb:(x==("__debug__" : Str))=false:=by decide)
  (he:aX (e::es) X.env=(false,eval e X.env)::aX es X.env:=by rfl) (hpl:(jB pos (aX es X.env)).any (·.1)=false:=by rfl):PE X (.Call (.Name x p) (e::es) [] pos) (tCB r t):=by
 intro zv s σ H Q I h;refine wpAny_Call_Name_kw (ag8 I hg hm hv ?_ hn hdb);exact iD (thn (ha pos zv s σ H _ I h) fun us s1 ⟨vs,H1,I1,r1,q1⟩=>hc zv s1 σ H1 vs us Q I1 r1 q1) he hpl
end
end L2
namespace HT
open PySem PyProof.Rows
section
open PySem.SeqAt
open PySem.AutoSeq1 (wpAny_loadPart')
open PySem.MeetsSeq PySem.MeetsSeq2 PySem.MeetsSeq3
end
section
variable{prog:cF}{w:dR}{A:cQ}{E:aG->aJ->Prop}{s:aJ}
theorem a1y{t b:aZ}{vs ws:List aG}{Q:aG->aJ->Prop}(ht:xP s.heap t vs.toArray)(hb:xP s.heap b ws.toArray)(hv:vs≠[])
  (h1:ws=[]->Q (.ref t) s) (h2:ws≠[]->Q (.ref s.heap.objs.size) { s with heap:=s.heap.push { cls:=.type "tuple", data:=.seq (vs++ws).toArray } })
  (hsz:vs.length+ws.length<=cJ):bK (bR prog w) A (gC .Add (.ref t) (.ref b)) Q E s:=by
 obtain⟨⟨cls,dd,data,sl⟩,ho,hc,n,hd⟩:=id ht;obtain⟨⟨cls2,dd2,data2,sl2⟩,ho2,hc2,n2,hd2⟩:=id hb;simp only at hc hd hc2 hd2;subst hc hd hc2 hd2;have e:vs.toArray++ws.toArray=(vs++ws).toArray:=by simp
 by_cases hw:ws=[]
 ·exact concat_meets ⟨_,ho,rfl⟩ ⟨_,ho2,rfl⟩ noFill_tuple_add seq_tuple_add pG oR (oE _ _)
   (tuple_addW1 t b vs.toArray ws.toArray n n2 dd dd2 sl sl2 (by simpa using hv) (by simp[hw])) ⟨ho,ho2,h1 hw⟩
 ·refine concat_meets ⟨_,ho,rfl⟩ ⟨_,ho2,rfl⟩ noFill_tuple_add seq_tuple_add pG oR (oE _ _)
   (tuple_addW2 t b vs.toArray ws.toArray n n2 dd dd2 sl sl2 (by simpa using hv) (by simpa using hw) (by rw[aY,aY];exact hsz)) ⟨ho,ho2,?_⟩
  rw[e];exact h2 hw
def sIx(n d:Nat):Option Int->Nat
 | none=>d
 | some v=>if v < 0 then (v+(n:Int)).toNat else min v.toNat n
theorem a3e(n d:Nat)(hd:d<=n)(o:Option Int):sIx n d o<=n:=by
 cases o with
 | none=>exact hd
 | some v =>
  show(if v < 0 then (v+(n:Int)).toNat else min v.toNat n)<=n
  by_cases hv:v < 0
  ·rw[if_pos hv];omega
  ·rw[if_neg hv];exact Nat.min_le_right _ _
theorem avb(v:Int)(n d:Nat):(if v < 0 then max (v+(n:Int)) 0 else min v (n:Int))=((sIx n d (some v):Nat):Int):=by
 show(if v < 0 then max (v+(n:Int)) 0 else min v (n:Int))=(((if v < 0 then (v+(n:Int)).toNat else min v.toNat n):Nat):Int)
 by_cases hv:v < 0
 ·simp only[if_pos hv];omega
 ·simp only[if_neg hv];omega
theorem arc(lo hi:Option Int)(n:Nat):nT lo hi 1 (n:Int)=(((sIx n 0 lo:Nat):Int),((sIx n n hi:Nat):Int)):=by
 have h1:¬((1:Int) < 0):=by omega
 unfold nT;simp only[h1,if_false];refine Prod.ext ?_ ?_
 ·cases lo with
  | none=>rfl
  | some v=>exact avb v n 0
 ·cases hi with
  | none=>rfl
  | some v=>exact avb v n n
theorem aqi(i j:Nat):kW (i:Int) (j:Int) 1=j - i:=by
 unfold kW;have h1:(1:Int) > 0:=by omega
 simp only[h1,if_true,Int.ediv_one];split <;> omega
theorem aih{v:aG}{o:Option Int}{Q:Option Int->aJ->Prop}(p:rK v o)(h:Q o s):bK (bR prog w) A (Builtin.Slice.slicePartIndex v) Q E s:=by
 cases p with
 | none=>exact slicePart_none h
 | int i t=>exact slicePart_int h
theorem abo{sl:aZ}{vl vu:aG}{lo hi:Option Int}{n:Nat}{Q:Int×Int×Nat->aJ->Prop}(hs:s.heap.IsSliceOf sl vl vu .none)(pl:rK vl lo)(pu:rK vu hi)
  (h:Q (((sIx n 0 lo:Nat):Int),1,sIx n n hi - sIx n 0 lo) s):bK (bR prog w) A (tR (.ref sl) (pure (n:Int))) Q E s:=by
 obtain⟨os,hos,hcs,hds⟩:=id hs;unfold tR Builtin.Slice.sliceFields;refine aA (aA (dZ hos hds (x:=vl) rfl (aA (dZ hos hds (x:=vu) rfl (aA (dZ hos hds (x:=.none) rfl (aH ?_)))))));refine aA (slicePart_none ?_);show bK _ _ (if ((1:Int)==0)=true then _ else _) _ _ s
 rw[if_neg (by decide)]
 refine aA (aih pl (aA (aih pu (aA (aH ?_)))));show bK _ _ (match nT lo hi 1 (n:Int) with | (lo,hi)=>pure (lo,(1:Int),kW lo hi 1)) _ _ s
 rw[arc lo hi n];show bK _ _ (pure (((sIx n 0 lo:Nat):Int),(1:Int),kW ((sIx n 0 lo:Nat):Int) ((sIx n n hi:Nat):Int) 1)) _ _ s;rw[aqi];exact aH h
theorem awh(xs:Array aG)(i k:Nat):((aK k).filterMap fun(m:Nat)=>xs[((i:Int)+(m:Int)*1).toNat]?).toArray=((xs.toList.drop i).take k).toArray:=by
 have e:(fun(m:Nat)=>xs[((i:Int)+(m:Int)*1).toNat]?)=fun m=>xs[i+m]? := by
  funext m
  have:((i:Int)+(m:Int)*1).toNat=i+m:=by omega
  rw[this]
 rw[e];have:=pick_run xs i k;rw[List.filterMap_map] at this;have e2:((fun x=>xs[x]?)∘fun x=>i+x)=fun m=>xs[i+m]? := rfl
 rw[e2] at this;rw[this]
theorem afp{t sl:aZ}{items:Array aG}{vl vu:aG}{lo hi:Option Int}{Q:aG->aJ->Prop}(ht:xP s.heap t items)(hs:s.heap.IsSliceOf sl vl vu .none)(pl:rK vl lo)(pu:rK vu hi)
  (hw:¬(sIx items.size 0 lo=0/\sIx items.size items.size hi=items.size))
  (h:Q (.ref s.heap.objs.size) { s with heap:=s.heap.push { cls:=.type "tuple", data:=.seq ((items.toList.drop (sIx items.size 0 lo)).take (sIx items.size items.size hi - sIx items.size 0 lo)).toArray } })
  (hsz:items.size<=cJ):bK (bR prog w) A (rA (.ref t) (.ref sl)) Q E s:=by
 have htake:sizeOk (.seq ((items.toList.drop (sIx items.size 0 lo)).take (sIx items.size items.size hi - sIx items.size 0 lo)).toArray):=by
  show((items.toList.drop (sIx items.size 0 lo)).take (sIx items.size items.size hi - sIx items.size 0 lo)).toArray.size<=cJ;rw[aY,gM,lA,bM];omega
 have hj:sIx items.size items.size hi<=items.size:=a3e _ _ (aL _) hi;obtain⟨os,hos,hcs,hds⟩:=id hs;have hTs:s.TypeIs (.ref sl) "slice" := ⟨os,hos,hcs⟩;unfold rA
 try with_reducible refine eU ?_
 first | refine aA (aH ?_) | skip
 refine aA (wpAny_sequenceKey ht.typeIs (by decide) ?_)
 refine aA (eE (name:=jO "__getitem__") ht.typeIs fB
  (eY fB ht.typeIs entry_tuple_getitem ?_ (args_tuple_getitem _ _)))
 show bK _ _ (tQ (.ref t) >>= _) _ _ s;refine aA (tupleItemsOf_ ht ?_);refine aA (wpAny_typeOf hTs ?_);rw[if_pos (by decide)]
 refine aA (abo hs pl pu ?_);have hno:¬((((sIx items.size 0 lo:Nat):Int)==0&&(1:Int)==1&&(sIx items.size items.size hi - sIx items.size 0 lo)==items.size)=true):=by
  intro q;rw[bH,bH] at q;have q1:((sIx items.size 0 lo:Nat):Int)=0:=eq_of_beq q.1.1;have q2:sIx items.size items.size hi - sIx items.size 0 lo=items.size:=eq_of_beq q.2;exact hw ⟨by omega,by omega⟩
 show bK _ _ (if (((sIx items.size 0 lo:Nat):Int)==0&&(1:Int)==1&&(sIx items.size items.size hi - sIx items.size 0 lo)==items.size)=true then _ else _) _ _ s
 rw[if_neg hno,awh]
 first
  | exact aA (m:=jA _) (bZ (aH ⟨_,rfl,aH h⟩) htake)
  | exact aA (m:=jA _) (bZ (aA (aH (aH ⟨_,rfl,aH h⟩))) htake)
  | exact aA (aA (m:=jA _) (bZ (aH (aH ⟨_,rfl,aH h⟩)) htake))
  | exact aA (aA (m:=jA _) (bZ (aH ⟨_,rfl,aH h⟩) htake))
end
end HT
namespace L2
abbrev TO:=St->Hp->(Option Int->Hp->Prop)->Prop
def PO(X:Cx)(e:Option dW)(t:TO):Prop :=
 ∀(zv:List (aZ×Obj)) (s:aJ) (σ:St) (H:Hp) (Q:Option Int->Hp->Prop),Inv X zv σ H s->t σ H Q ->
  bK (bR X.prog X.w) X.A (evalPart e X.env) (fun u s'=>∃o H',Inv X zv σ H' s'/\rK u o/\Q o H') X.xe s
def azm:TO:=fun _ H Q=>Q none H
def a7z(t:TE):TO:=fun σ H Q=>t σ H fun x H1=>∃i,x=.int i/\Q (some i) H1
theorem intsAre_of{ns:List Int}:∀{us:List aG},Vals (ns.map V.int) us->oV us ns:=by
 induction ns with
 | nil=>intro us r;rw[uZ] at r;cases r;exact .nil
 | cons n ns ih =>
  intro us r;rw[aV] at r;cases r with
  | cons r1 r2 =>
   obtain⟨t,e⟩:=r1;subst e;exact .cons n t (ih r2)
section
variable{X:Cx}{e:dW}{te:TE}{lo hi:Option dW}{tl th:TO}{pos p2:Pos}
theorem az7:PO X none azm:=by
 intro zv s σ H Q I h;rw[evalPart_none];exact aH ⟨none,H,I,.none,h⟩
theorem az6(h:PE X e te):PO X (some e) (a7z te):=by
 intro zv s σ H Q I hw;rw[evalPart_some];refine thn (h zv s σ H _ I hw) fun u s1 ⟨x,H1,I1,r1,q1⟩ =>?_
 obtain⟨i,rfl,q⟩:=q1;obtain⟨t,rfl⟩:=r1;exact⟨some i,H1,I1,.int i t,q⟩
def SlR(X:Cx)(r:V->Option Int->Option Int->Hp->VK->Prop):Prop :=
 ∀(zv:List (aZ×Obj)) (s:aJ) (σ:St) (H:Hp) (x:V) (v vl vu:aG) (lo hi:Option Int) (sl:aZ) (Q:VK),Inv X zv σ H s->RelV x v->s.heap.IsSliceOf sl vl vu .none->rK vl lo->rK vu hi->r x lo hi H Q ->
  ∃T id,typeLookup (.type T) "__getitem__" = pure (some (.builtin id))/\s.TypeIs v T/\bK (bR X.prog X.w) X.A (rA v (.ref sl)) (EP X zv σ Q) X.xe s
def tSl(r:V->Option Int->Option Int->Hp->VK->Prop)(te:TE)(tl th:TO):TE:=fun σ H Q=>te σ H fun x H1=>tl σ H1 fun l H2=>th σ H2 fun u H3=>r x l u H3 Q
theorem ao0{r:V->Option Int->Option Int->Hp->VK->Prop}(hr:SlR X r)(he:PE X e te)(hl:PO X lo tl)(hu:PO X hi th):PE X (.Subscript e (.Slice lo hi none p2) pos) (tSl r te tl th):=by
 intro zv s σ H Q I h;refine Subscript_ (thn (he zv s σ H _ I h) fun v s1 ⟨x,H1,I1,r1,q1⟩ =>?_)
 refine wpAny_Slice (thn (hl zv s1 σ H1 _ I1 q1) fun vl s2 ⟨l,H2,I2,pl,q2⟩=>thn (hu zv s2 σ H2 _ I2 q2) fun vu s3 ⟨u,H3,I3,pu,q3⟩ =>?_)
 rw[evalPart_none];refine aH ?_;have I4:Inv X zv σ H3 { s3 with heap:=s3.heap.push { cls:=.type "slice", data:=.fields #[vl,vu,.none] } }:=I3.kept (t':=s3.toks) fun b ob q=>aD _ q
 obtain⟨T,id,hT,ht,hg⟩:=hr zv { s3 with heap:=s3.heap.push { cls:=.type "slice", data:=.fields #[vl,vu,.none] } } σ H3 x v vl vu l u s3.heap.objs.size Q I4 r1 (Heap.IsSliceOf.new ..) pl pu q3
 show bK (bR X.prog X.w) X.A (subscriptTail e (.Slice lo hi none p2) v (.ref s3.heap.objs.size)) (EP X zv σ Q) X.xe { s3 with heap:=s3.heap.push { cls:=.type "slice", data:=.fields #[vl,vu,.none] } }
 exact tail_any (ops:=[.ref s3.heap.objs.size,v]) ht hT hg (by with_unfolding_all rfl)
def cutV(xs:List V)(lo hi:Option Int):List V:=(xs.drop (HT.sIx xs.length 0 lo)).take (HT.sIx xs.length xs.length hi - HT.sIx xs.length 0 lo)
theorem ahq(xs:List V)(lo hi:Option Int):(cutV xs lo hi).length<=xs.length:=by
 unfold cutV;rw[gM,lA];omega
def rSlT(K:Fg9):V->Option Int->Option Int->Hp->VK->Prop:=fun x lo hi H Q=>∃a xs,x=.ref a/\SqT K H a xs /\
 ¬(HT.sIx xs.length 0 lo=0/\HT.sIx xs.length xs.length hi=xs.length)/\∀p,H p=none->Q (.ref p) (upd H p (.tup (cutV xs lo hi)))
theorem a3c:SlR X (rSlT X.K):=by
 intro zv s σ H x v vl vu lo hi sl Q I rx hs pl pu h;obtain⟨a,xs,rfl,hx,hw,q⟩:=h;cases rx;obtain⟨its,r,ht,hz⟩:=I.tuple hx;have hlen:its.toArray.size=xs.length:=by rw[aY];exact r.length.symm
 refine⟨"tuple", _,fB.lookup,ht.typeIs,?_⟩;refine HT.afp ht hs pl pu (by rw[hlen];exact hw) ?_ (by rw[hlen];exact hz)
 rw[hlen];refine⟨.ref s.heap.objs.size,_,I.laid (t':=s.toks) (o:=.tup (cutV xs lo hi)) (fun b ob q=>aD _ q) (aL _) ?_,rfl,q _ (I.hok.fresh (aL _))⟩
 exact⟨Nat.le_trans (ahq xs lo hi) hz,_,(r.drop (HT.sIx xs.length 0 lo)).take (HT.sIx xs.length xs.length hi - HT.sIx xs.length 0 lo),IsTp.new _ _⟩
def a79(K:Fg9):R2:=fun x y H Q=>∃a b xs ys,x=.ref a/\y=.ref b/\SqT K H a xs/\SqT K H b ys/\xs≠[]/\xs.length+ys.length<=cJ /\
 (ys=[]->Q (.ref a) H)/\(ys≠[]->∀p,H p=none->Q (.ref p) (upd H p (.tup (xs++ys))))
theorem Vals.nil_iff{xs:List V}{us:List aG}(r:Vals xs us):us=[]↔xs=[]:=by
 cases r with
 | nil=>simp
 | cons _ _=>simp
theorem a0n:OpR X (gC .Add) (a79 X.K):=by
 intro zv s σ H x y v u Q I rx ry h;obtain⟨a,b,xs,ys,rfl,rfl,ha,hb,hx,hz,q1,q2⟩:=h;cases rx;cases ry;obtain⟨its,r1,p1,_⟩:=I.tuple ha;obtain⟨its2,r2,p2,_⟩:=I.tuple hb;refine HT.a1y p1 p2 (fun z=>hx (r1.nil_iff.mp z)) (fun z=>⟨.ref a,H,I,rfl,q1 (r2.nil_iff.mp z)⟩) (fun z =>?_) (by rw[<-r1.length,<-r2.length];exact hz)
 refine⟨.ref s.heap.objs.size,_,I.laid (t':=s.toks) (o:=.tup (xs++ys)) (fun b ob q=>aD _ q) (aL _) ?_,rfl,q2 (fun w=>z (r2.nil_iff.mpr w)) _ (I.hok.fresh (aL _))⟩
 exact⟨by rw[dF];exact hz,_,r1.append r2,IsTp.new _ _⟩
end
def ixN(n:Nat)(i:Int):Option Nat:=if 0<=i then (if i < n then some i.toNat else none) else if -(n:Int)<=i then some (i+n).toNat else none
def atI{α:Type}(xs:List α)(i:Int):Option α:=(ixN xs.length i).bind fun j=>xs[j]?
theorem atu{n:Nat}{i:Int}{j:Nat}(h:ixN n i=some j):seqIndex? i n=some j/\j < n /\ -(n:Int)<=i/\i < n:=by
 unfold ixN at h
 by_cases h0:0<=i
 ·rw[if_pos h0] at h
  by_cases h1:i < n
  ·rw[if_pos h1] at h;have e:i.toNat=j:=bU h;exact⟨by rw[seqIndex_of h0 h1,e],by omega,by omega,h1⟩
  ·rw[if_neg h1] at h;cases h
 ·rw[if_neg h0] at h
  by_cases h1 : -(n:Int)<=i
  ·rw[if_pos h1] at h;have e:(i+n).toNat=j:=bU h;exact⟨by rw[seqIndex_neg (by omega) h1,e],by omega,h1,by omega⟩
  ·rw[if_neg h1] at h;cases h
theorem aoi{α:Type}{xs:List α}{i:Int}{v:α}(h:atI xs i=some v):∃j,seqIndex? i xs.length=some j/\xs[j]? = some v/\j < xs.length /\ -(xs.length:Int)<=i/\i < xs.length:=by
 unfold atI at h;cases e:ixN xs.length i with
 | none=>rw[e] at h;cases h
 | some j =>
  rw[e] at h;obtain⟨h1,h2,h3,h4⟩:=atu e;exact⟨j,h1,h,h2,h3,h4⟩
theorem akq{α:Type}{xs:List α}{j:Nat}{v:α}(h:xs[j]? = some v):atI xs (j:Int)=some v:=by
 have hj:j < xs.length:=(aQ.mp h).1;have e:ixN xs.length (j:Int)=some j:=by
  unfold ixN;rw[if_pos (by omega),if_pos (by omega)];simp
 unfold atI;rw[e];exact h
def avx(b:dW):Prop:=∀o i,subscripted b false o i=operate [o,i] (rA o i)
def IxR(X:Cx)(r:R2):Prop :=
 ∀(value slice:dW) (zv:List (aZ×Obj)) (s:aJ) (σ:St) (H:Hp) (x y:V) (v u:aG) (Q:VK),Inv X zv σ H s->RelV x v->RelV y u->r x y H Q ->
  subscripted slice false v u=operate [v,u] (rA v u)->bK (bR X.prog X.w) X.A (subscriptTail value slice v u) (EP X zv σ Q) X.xe s
def MtR(X:Cx)(id:String)(r:V->List V->Hp->VK->Prop):Prop :=
 ∀(zv:List (aZ×Obj)) (s:aJ) (σ:St) (H:Hp) (x:V) (xs:List V) (v:aG) (us:List aG) (Q:VK),Inv X zv σ H s->RelV x v->Vals xs us->r x xs H Q ->
  bK (bR X.prog X.w) X.A (call (.builtin id) (v::us)) (EP X zv σ Q) X.xe s
section
variable{X:Cx}{a b:dW}{ta tb:TE}{pos:Pos}
theorem a8h{r:R2}(hr:IxR X r)(ha:PE X a ta)(hb:PE X b tb)(hs:avx b):PE X (.Subscript a b pos) (tOp r ta tb):=by
 intro zv s σ H Q I h;exact Subscript_ (binT ha hb I h fun v u s2 x y H2 I2 rx ry q=>hr a b zv s2 σ H2 x y v u Q I2 rx ry q (hs _ _))
def rIxL(K:Fg9):R2:=fun x y H Q=>∃p xs i v,x=.ref p/\y=.int i/\SqL K H p xs/\atI xs i=some v/\Q v H
def rIxT(K:Fg9):R2:=fun x y H Q=>∃p xs i v,x=.ref p/\y=.int i/\SqT K H p xs/\atI xs i=some v/\Q v H
theorem a06:IxR X (rIxL X.K):=by
 intro value slice zv s σ H x y v u Q I rx ry h hs;obtain⟨p,xs,i,z,rfl,rfl,hq,he,q⟩:=h;cases rx;obtain⟨t,rfl⟩:=ry;obtain⟨its,r,pl,hz⟩:=I.list hq;obtain⟨j,h1,h2,h3,h4,h5⟩:=aoi he;obtain⟨w,ew,rw'⟩:=r.get h2;have hl:=r.length;have hn:=als;have fin:EP X zv σ Q w s:=⟨z,H,I,rw',q⟩
 by_cases h0:0<=i
 ·have hj:i.toNat=j:=by
   rw[seqIndex_of h0 h5] at h1;exact bU h1
  exact item_listR pl.isList h0 (by omega) (by rw[hj];simpa using ew) fin hs
 ·have hj:(i+(its.toArray.size:Int)).toNat=j:=by
   rw[seqIndex_neg (by omega) h4] at h1
   rw[aY,<-hl];exact bU h1
  exact subscriptTail_builtinR (x:=w) pl.isList.typeIs slot_list_getitem.lookup
   (wpAny_getItem_list_neg (Q:=fun r s'=>r=w/\EP X zv σ Q r s') pl.isList (by omega) (by rw[aY] <;> omega) (by omega) (by rw[hj];simpa using ew) ⟨rfl,fin⟩) hs
theorem a5l:IxR X (rIxT X.K):=by
 intro value slice zv s σ H x y v u Q I rx ry h hs;obtain⟨p,xs,i,z,rfl,rfl,hq,he,q⟩:=h;cases rx;obtain⟨t,rfl⟩:=ry;obtain⟨its,r,pl,hz⟩:=I.tuple hq;obtain⟨j,h1,h2,h3,h4,h5⟩:=aoi he;obtain⟨w,ew,rw'⟩:=r.get h2;have hl:=r.length;have hn:=als;have fin:EP X zv σ Q w s:=⟨z,H,I,rw',q⟩;exact subscriptTail_builtinR (x:=w) pl.typeIs slot_tuple_getitem.lookup
  (getItem_tuple (j:=j) (Q:=fun r s'=>r=w/\EP X zv σ Q r s') pl (by omega) (by omega) (by rw[aY,<-hl];exact h1) (by simpa using ew) ⟨rfl,fin⟩) hs
theorem aqr(its:List aG)(n j:Nat)(u:aG):jU (·.setIfInBounds j u) { cls:=.type "list", data:=.seq its.toArray n }={ cls:=.type "list", data:=.seq (its.set j u).toArray n }:=by
 simp[jU]
theorem Inv.lst{zv:List (aZ×Obj)}{σ:St}{H:Hp}{s:aJ}{p:aZ}{xs:List V}(I:Inv X zv σ H s)(h:H p=some (.lst xs)) :
  ∃(its:List aG) (n:Nat),Vals xs its/\s.heap.get? p=some { cls:=.type "list", data:=.seq its.toArray n }/\xs.length<=cJ:=by
 obtain⟨z,its,n,r,e⟩:=I.hok p _ h;exact⟨its,n,r,e,z⟩
theorem Inv.lstUpd{zv:List (aZ×Obj)}{σ:St}{H:Hp}{s:aJ}{p:aZ}{xs ys:List V}{its its':List aG}{n n':Nat}{f:Obj->Obj}(I:Inv X zv σ H s)(h:H p=some (.lst xs))
  (ho:s.heap.get? p=some { cls:=.type "list", data:=.seq its.toArray n }) (hf:f { cls:=.type "list", data:=.seq its.toArray n }={ cls:=.type "list", data:=.seq its'.toArray n' }) (r:Vals ys its') (hz:ys.length<=cJ) (t:Nat) :
  Inv X zv σ (upd H p (.lst ys)) { s with heap:=s.heap.update p f,toks:=t }:=by
 have e:(s.heap.update p f).get? p=some { cls:=.type "list", data:=.seq its'.toArray n' }:=by
  rw[cC f ho (by rw[hf] <;> rfl),hf]
 refine I.write (x:=p) (e:=p) (by rw[h];trivial) (.inl rfl) (fun b u hb q=>(bJ _ _ (fU hb)).trans q) ⟨_,e⟩ ?_
 exact⟨hz,its',n',r,e⟩
def a78:V->V->V->Hp->(Hp->Prop)->Prop:=fun o i v H Q=>∃p xs k j,o=.ref p/\i=.int k/\H p=some (.lst xs)/\ixN xs.length k=some j/\Q (upd H p (.lst (xs.set j v)))
theorem set_list:PSet X a78:=by
 intro zv s σ H o i v ov iv u Q I ro ri rv h;obtain⟨p,xs,k,j,rfl,rfl,hp,hj,q⟩:=h;cases ro;obtain⟨t,rfl⟩:=ri;obtain⟨its,n,r,ho,hz⟩:=I.lst hp;obtain⟨h1,h2,h3,h4⟩:=atu hj;have hl:=r.length;have hn:=als;have I':Inv X zv σ (upd H p (.lst (xs.set j v))) { s with heap:=s.heap.update p (jU (·.setIfInBounds j u)) } :=
  I.lstUpd hp ho (aqr its n j u) (r.set rv j) (by rw[dD];exact hz) s.toks
 by_cases h0:0<=k
 ·have hk:k.toNat=j:=by
   rw[seqIndex_of h0 h4] at h1;exact bU h1
  exact PySem.W.ki_setAt ho h0 (by omega) (by rw[aY,<-hl];exact h4) (by rw[hk];exact⟨_,I',q⟩)
 ·have hk:(k+(its.toArray.size:Int)).toNat=j:=by
   rw[seqIndex_neg (by omega) h3] at h1
   rw[aY,<-hl];exact bU h1
  exact PySem.W.ki_setBack ho (by omega) (by rw[aY,<-hl];exact h3) (by omega) (by rw[hk];exact⟨_,I',q⟩)
theorem akz(lo hi:Option Int)(n:Nat):(sliceBounds lo hi none n).1=((HT.sIx n 0 lo:Nat):Int)/\(sliceBounds lo hi none n).2.1=((HT.sIx n n hi:Nat):Int)/\(sliceBounds lo hi none n).2.2=1:=by
 refine⟨?_,?_,rfl⟩
 ·cases lo with
  | none=>simp[sliceBounds,HT.sIx]
  | some i =>
   simp only[sliceBounds,HT.sIx,rR,show(1:Int) > 0 by decide,if_true]
   by_cases h:i < 0
   ·simp only[h,if_true] <;> omega
   ·simp only[h,if_false] <;> omega
 ·cases hi with
  | none=>simp[sliceBounds,HT.sIx]
  | some i =>
   simp only[sliceBounds,HT.sIx,rR,show(1:Int) > 0 by decide,if_true]
   by_cases h:i < 0
   ·simp only[h,if_true] <;> omega
   ·simp only[h,if_false] <;> omega
theorem ajf(its:List aG)(lo hi:Option Int):slicePick its.toArray lo hi none=((its.drop (HT.sIx its.length 0 lo)).take (HT.sIx its.length its.length hi - HT.sIx its.length 0 lo)).toArray:=by
 obtain⟨h1,h2,h3⟩:=akz lo hi its.toArray.size;unfold slicePick;rw[h1,h2,h3];simp only[sliceRange_one,pick_run,aY] <;> rfl
def rSlL(K:Fg9):V->Option Int->Option Int->Hp->VK->Prop:=fun x lo hi H Q=>∃a xs,x=.ref a/\SqL K H a xs/\∀p,H p=none->Q (.ref p) (upd H p (.lst (cutV xs lo hi)))
theorem asd:SlR X (rSlL X.K):=by
 intro zv s σ H x v vl vu lo hi sl Q I rx hs pl pu h;obtain⟨a,xs,rfl,hx,q⟩:=h;cases rx;obtain⟨its,r,ht,hz⟩:=I.list hx;have hlen:=r.length;refine⟨"list", _,slot_list_getitem.lookup,ht.isList.typeIs,?_⟩;refine wpAny_getItem_list_slice ht.isList hs pl pu .none (by simp) ?_ (by rw[aY] <;> omega)
 rw[ajf,<-hlen];refine⟨.ref s.heap.objs.size,_,I.laid (t':=s.toks) (o:=.lst (cutV xs lo hi)) (fun b ob q=>aD _ q) (aL _) ?_,rfl,q _ (I.hok.fresh (aL _))⟩
 exact⟨Nat.le_trans (ahq xs lo hi) hz,_,0,(r.drop (HT.sIx xs.length 0 lo)).take (HT.sIx xs.length xs.length hi - HT.sIx xs.length 0 lo),aO _ rfl⟩
theorem ame:abv X (.builtin "len") (fun xs H Q=>∃p ys,xs=[.ref p]/\(SqL X.K H p ys∨SqT X.K H p ys)/\Q (.int ys.length) H):=by
 intro zv s σ H xs us Q I r h;obtain⟨p,ys,rfl,hq,q⟩:=h;obtain⟨u,rfl,rx⟩:=vals1 r;cases rx;have hn:=als;rcases hq with hq | hq
 ·obtain⟨its,r',pl,hz⟩:=I.list hq;have hlen:=r'.length;exact Calls.call_len_list pl.isList (by simp only[aY] <;> omega) ⟨.int ys.length,H,I.tok _,⟨s.toks+1,by rw[aY,hlen]⟩,q⟩
 ·obtain⟨its,r',pl,hz⟩:=I.tuple hq;have hlen:=r'.length;exact len_tuple pl (by simp only[aY] <;> omega) ⟨.int ys.length,H,I.tok _,⟨s.toks+1,by rw[aY,hlen]⟩,q⟩
theorem amd:abv X (.type "list") (fun xs H Q=>∃p ys,xs=[.ref p]/\(SqL X.K H p ys∨SqT X.K H p ys)/\∀l,H l=none->Q (.ref l) (upd H l (.lst ys))):=by
 intro zv s σ H xs us Q I r h;obtain⟨p,ys,rfl,hq,q⟩:=h;obtain⟨u,rfl,rx⟩:=vals1 r;cases rx;have fin:∀(its:List aG),Vals ys its->ys.length<=cJ->∀(h':fH) (c':Nat),(∀b o',s.heap.get? b=some o'->h'.get? b=some o') ->
   h'.get? s.heap.objs.size=some { cls:=.type "list", dict:=none,data:=.seq its.toArray c',slots := #[] }->EP X zv σ Q (.ref s.heap.objs.size) { s with heap:=h' }:=fun its r' hz h' c' kp e =>
  ⟨.ref s.heap.objs.size,_,I.laid (t':=s.toks) kp (aL _) (show xm X.prog X.w _ h' _ (.lst ys) from⟨hz,its,c',r',e⟩),rfl,q _ (I.hok.fresh (aL _))⟩
 rcases hq with hq | hq
 ·obtain⟨its,r',pl,hz⟩:=I.list hq;have hlen:=r'.length;obtain⟨o,ho,hc,n,hd⟩:=pl.isList;exact call_list_seq p (.inl rfl) ho hc hd (fun h' c' kp e=>fin its r' hz h' c' kp e) (by simp only[aY] <;> omega)
 ·obtain⟨its,r',pl,hz⟩:=I.tuple hq;have hlen:=r'.length;obtain⟨o,ho,hc,n,hd⟩:=pl;exact call_list_seq p (.inr rfl) ho hc hd (fun h' c' kp e=>fin its r' hz h' c' kp e) (by simp only[aY] <;> omega)
theorem abn:abv X (.type "tuple") (fun xs H Q=>∃p ys,xs=[.ref p]/\((SqL X.K H p ys/\∀l,H l=none->Q (.ref l) (upd H l (.tup ys)))∨(SqT X.K H p ys/\Q (.ref p) H))):=by
 intro zv s σ H xs us Q I r h;obtain⟨p,ys,rfl,h⟩:=h;obtain⟨u,rfl,rx⟩:=vals1 r;cases rx;rcases h with⟨hq,q⟩ | ⟨hq,q⟩
 ·obtain⟨its,r',pl,hz⟩:=I.list hq;have hlen:=r'.length;refine call_tuple_list pl.isList (fun h' kp =>?_) (by simp only[aY] <;> omega)
  have I1:Inv X zv σ H { s with heap:=h' }:=I.kept (t':=s.toks) kp
  have I2:Inv X zv σ (upd H h'.objs.size (.tup ys)) { s with heap:=h'.push { cls:=.type "tuple", data:=.seq its.toArray } } :=
   I1.laid (t':=s.toks) (fun b o e=>aD _ e) (aL _) (show xm X.prog X.w _ _ _ (.tup ys) from⟨hz,its,r',IsTp.new _ _⟩)
  exact⟨.ref h'.objs.size,_,I2,rfl,q _ (I1.hok.fresh (aL _))⟩
 ·obtain⟨its,r',pl,hz⟩:=I.tuple hq;exact call_tuple_same pl ⟨.ref p,H,I,rfl,q⟩
def tyV(K:Fg9)(T:String)(x:V)(H:Hp):Prop:=match x with
 | .str _=>T = "str"
 | .int _=>T = "int"
 | .ref p=>(T = "list" /\ ∃xs,SqL K H p xs)∨(T = "tuple" /\ ((∃o,K.lookup p=some o/\o.cls=.type "tuple" /\ o.dict=none)∨∃xs,H p=some (.tup xs))) ∨
   (T = "dict" /\ ((∃kvs,H p=some (.dK kvs))∨∃kvs,H p=some (.dT kvs)))∨(T = "set" /\ ∃S n,H p=some (.set S n))
 | _=>False
theorem a2s{zv:List (aZ×Obj)}{σ:St}{H:Hp}{s:aJ}{T:String}{x:V}{v:aG}(I:Inv X zv σ H s)(r:RelV x v)(ty:tyV X.K T x H) :
  s.TypeIs v T/\∀a,v=.ref a->∃ob,s.heap.get? a=some ob/\ob.dict=none:=by
 cases x with
 | str z =>
  obtain⟨t,rfl⟩:=r;cases(show T = "str" from ty)
  exact⟨typeIs_str s z t,fun _ e=>nomatch e⟩
 | int i =>
  obtain⟨t,rfl⟩:=r;cases(show T = "int" from ty)
  exact⟨typeIs_int s i t,fun _ e=>nomatch e⟩
 | ref p =>
  cases r;rcases ty with⟨rfl,xs,hq⟩ | ⟨rfl,⟨o,hk,hc,hd⟩ | ⟨xs,hk⟩⟩ | ⟨rfl,hk⟩ | ⟨rfl,S,n,hk⟩
  ·obtain⟨its,_,pl,_⟩:=I.list hq;refine⟨pl.isList.typeIs,fun a e =>?_⟩
   cases e;obtain⟨o,n,e,c,hd,_⟩:=pl;exact⟨o,e,hd⟩
  ·refine⟨⟨o,I.kIn p o hk,hc⟩,fun a e =>?_⟩
   cases e;exact⟨o,I.kIn _ o hk,hd⟩
  ·obtain⟨_,_,_,o,e,hc,hd,_⟩:=I.hok p _ hk;refine⟨⟨o,e,hc⟩,fun a e2 =>?_⟩
   cases e2;exact⟨o,e,hd⟩
  ·have z:∃o,s.heap.get? p=some o/\o.ExactDict:=by
    rcases hk with⟨kvs,hk⟩ | ⟨kvs,hk⟩
    ·obtain⟨_,_,_,_,o,_,_,e,ex,_⟩:=I.hok p _ hk;exact⟨o,e,ex⟩
    ·obtain⟨_,_,_,_,o,_,_,e,ex,_⟩:=I.hok p _ hk;exact⟨o,e,ex⟩
   obtain⟨o,e,ex⟩:=z;refine⟨⟨o,e,ex.1⟩,fun a e2 =>?_⟩
   cases e2;exact⟨o,e,ex.2.1⟩
  ·obtain⟨o,_,_,_,e,ex,_⟩:=I.hok p _ hk;refine⟨⟨o,e,ex.1⟩,fun a e2 =>?_⟩
   cases e2;exact⟨o,e,ex.2.1⟩
 | _=>exact fK ty
def tBM(K:Fg9)(T:String)(r:V->List V->Hp->VK->Prop)(to:TE)(t:TA):TE:=fun σ H Q=>to σ H fun x H1=>tyV K T x H1/\t σ H1 fun xs H2=>r x xs H2 Q
variable{o e:dW}{es:List dW}{to:TE}{t:TA}{name:Str}{apos cpos:Pos}{T id:String}{r:V->List V->Hp->VK->Prop}
theorem awo(pa:PlainAttrs T)(slot:Slot T name id)(hty:typeOf (.builtin id)=pure (.type "method_descriptor"))(hm:MtR X id r)(ho:PE X o to)(ha:PA X (e::es) t)
  (hbase:attributeBase o name X.env (eval o X.env)=eval o X.env:=by rfl)
  (hfew:((jB cpos (aX (e::es) X.env)).all (fun x => !x.1)&&(backToKw cpos (keywordEach [] X.env)).all (fun x=>x.1.isSome)
   && decide ((e::es).length+([]:List qO).length+(if ([]:List qO).isEmpty then 0 else 1) < 30))=true:=by rfl)
  (hline:(apos.endLine==cpos.line)=true:=by rfl) (hs:aX (e::es) X.env=(false,eval e X.env)::aX es X.env:=by rfl) (hplain:(jB cpos (aX es X.env)).any (·.1)=false:=by rfl) :
  PE X (.Call (.Attribute o name apos) (e::es) [] cpos) (tBM X.K T r to t):=by
 intro zv s σ H Q I h;refine wpAny_Call_method_late hbase hfew hline rfl (thn (ho zv s σ H _ I h) fun v s1 ⟨x,H1,I1,r1,ty,q1⟩ =>?_)
 obtain⟨h1,h2⟩:=a2s I1 r1 ty;refine⟨T,id,pa,slot,hty,h1,h2,?_⟩;have hA:=ha cpos zv s1 σ H1 _ I1 q1;rw[hs] at hA ⊢
 refine Calls.callWith_builtin (by show(false||(jB cpos (aX es X.env)).any (·.1))=false;rw[hplain] <;> rfl) (vK ?_)
 exact thn hA fun us s2 ⟨vs,H2,I2,r2,q2⟩=>hm zv s2 σ H2 x vs v us Q I2 r1 r2 q2
end
def MtM(X:Cx)(id:String)(r:V->List V->Hp->VK->Prop):Prop :=
 ∀(zv:List (aZ×Obj)) (s:aJ) (σ:St) (H:Hp) (x:V) (xs:List V) (v:aG) (us:List aG) (Q:VK),Inv X zv σ H s->RelV x v->Vals xs us->r x xs H Q ->
  bK (bR X.prog X.w) X.A (call (.builtin id) (v::us)) (EP X zv σ Q) X.xe s
theorem Vals.one:∀{x:V} {us:List aG},Vals [x] us->∃u,us=[u]/\RelV x u
 | _,_,.cons r .nil=>⟨_,rfl,r⟩
theorem Vals.rep{xs:List V}{us:List aG}(h:Vals xs us):∀k:Nat,Vals (aU k xs).flatten (aU k us).flatten
 | 0=>.nil
 | k+1=>by
  rw[iH,iH,jX,jX];exact Vals.append h (Vals.rep h k)
theorem foldl_rep(its:List aG):∀(k:Nat) (acc:List aG),
  mQ (fun x1 x2=>x1++x2) acc.toArray (aU k its.toArray)=(acc++(aU k its).flatten).toArray
 | 0,acc=>by simp
 | k+1,acc=>by
  have e:acc.toArray++its.toArray=(acc++its).toArray:=by simp
  have e2:(acc++its)++(aU k its).flatten=acc++(aU (k+1) its).flatten:=by
   rw[iH,jX,dB]
  rw[<-e2,<-foldl_rep its k (acc++its),<-e,iH,yN]
section
variable{X:Cx}{zv:List (aZ×Obj)}{σ:St}{H:Hp}{s:aJ}{l b:aZ}{xs ys zs:List V}
theorem Inv.lset{its its':List aG}{n:Nat}{f:Array aG->Array aG}{t':Nat}(I:Inv X zv σ H s)(hH:H l=some (.lst xs))
  (e:s.heap.get? l=some { cls:=.type "list", data:=.seq its.toArray n }) (hf:f its.toArray=its'.toArray) (hv:Vals ys its') (hz:ys.length<=cJ) :
  Inv X zv σ (upd H l (.lst ys)) { s with heap:=s.heap.update l (jU f),toks:=t' }:=by
 have q:=PySem.IsL.update e f;rw[hf] at q;refine I.write (x:=l) (e:=l) (by rw[hH];exact trivial) (.inl rfl) (fun b' u hb hu=>(bJ s.heap (jU f) (fU hb)).trans hu) ⟨_,q⟩ ?_
 exact⟨hz,its',_,hv,q⟩
theorem Inv.lnew{its:List aG}{t':Nat}(I:Inv X zv σ H s)(hv:Vals ys its)(hz:ys.length<=cJ) :
  Inv X zv σ (upd H s.heap.objs.size (.lst ys)) { s with heap:=s.heap.push { cls:=.type "list", data:=.seq its.toArray },toks:=t' } :=
 I.laid (fun _ _ q=>aD _ q) (aL _) ⟨hz,its,0,hv,aO _ rfl⟩
theorem Inv.fresh(I:Inv X zv σ H s):H s.heap.objs.size=none:=I.hok.fresh (aL _)
theorem Inv.lstM(I:Inv X zv σ H s)(hH:H l=some (.lst xs)):xs.length<=cJ/\∃(its:List aG) (n:Nat),Vals xs its/\xs.length=its.length/\s.heap.get? l=some { cls:=.type "list", data:=.seq its.toArray n }:=by
 obtain⟨z,its,n,r,e⟩:=I.hok l _ hH;exact⟨z,its,n,r,r.length,e⟩
theorem aww{n:Nat}(h:n<=cJ):uD n=false:=by
 unfold uD;exact decide_eq_false (by omega)
end
section
variable{X:Cx}
def ass:V->List V->Hp->VK->Prop:=fun x vs H Q=>∃l xs y,x=.ref l/\vs=[y]/\H l=some (.lst xs)/\xs.length < cJ/\Q .non (upd H l (.lst (xs++[y])))
theorem acb:MtM X "list.append" ass:=by
 intro zv s σ H x vs v us Q I rx rv h;obtain⟨l,xs,y,rfl,rfl,hH,hz,q⟩:=h;cases rx;obtain⟨u,rfl,ru⟩:=rv.one;obtain⟨z,its,n,r,hl,e⟩:=I.lstM hH;refine lD F.slot_list_append ⟨_,e,rfl⟩ F.entry_list_append (F.args_list_append_2 _ _) (PySem.list_append l its.toArray n u (by rw[aY];omega)) ⟨e,?_⟩
 refine⟨.non,_,I.lset (its':=its++[u]) hH e (by simp) (r.append (.cons ru .nil)) ?_,rfl,q⟩
 rw[dF,List.length_singleton];omega
def rCat:R2:=fun x y H Q=>∃l b xs zs,x=.ref l/\y=.ref b/\H l=some (.lst xs)/\H b=some (.lst zs)/\xs.length+zs.length<=cJ/\∀p,H p=none->Q (.ref p) (upd H p (.lst (xs++zs)))
theorem a4m:OpR X (gC .Add) rCat:=by
 intro zv s σ H x y v u Q I rx ry h;obtain⟨l,b,xs,zs,rfl,rfl,hH,hB,hz,q⟩:=h;cases rx;cases ry;obtain⟨z,its,n,r,hl,e⟩:=I.lstM hH;obtain⟨z2,its2,n2,r2,hl2,e2⟩:=I.lstM hB;refine PySem.P.add_list e e2 ?_ (by rw[aY,aY];omega)
 have ea:its.toArray++its2.toArray=(its++its2).toArray:=by simp
 rw[ea];exact⟨.ref _,_,I.lnew (t':=s.toks) (r.append r2) (by rw[dF];omega),rfl,q _ I.fresh⟩
def rRep:R2:=fun x y H Q=>∃l k xs,x=.ref l/\y=.int k/\H l=some (.lst xs) /\ -(2 ^ 63)<=k/\k < 2 ^ 63/\xs.length*k.toNat<=cJ /\
 ∀p,H p=none->Q (.ref p) (upd H p (.lst (aU k.toNat xs).flatten))
theorem len_rep{α:Type}(xs:List α)(k:Nat):(aU k xs).flatten.length=k*xs.length:=by
 induction k with
 | zero=>simp
 | succ k ih=>rw[iH,jX,dF,ih,pK,Nat.add_comm]
theorem a4i:OpR X (gC .Mult) rRep:=by
 intro zv s σ H x y v u Q I rx ry h;obtain⟨l,k,xs,rfl,rfl,hH,h1,h2,hz,q⟩:=h;cases rx;obtain⟨t,rfl⟩:=ry;obtain⟨z,its,n,r,hl,e⟩:=I.lstM hH;have hlen:its.toArray.size*k.toNat<=cJ:=by rw[aY,<-hl];exact hz
 have hcap:¬its.toArray.size*k.toNat > (2 ^ 63 - 1) / 8:=by
  have:(cJ:Nat)<=(2 ^ 63 - 1) / 8:=by decide
  omega
 have hfit:¬(!Builtin.List.listFitsIndex k)=true:=by
  rw[fitsIndex_both h1 h2];exact dG
 have hlong:¬Builtin.List.listTooLong (its.toArray.size*k.toNat)=true:=by
  rw[aww hlen];exact dG
 have hnew:mQ (fun x1 x2=>x1++x2) #[] (aU (if its.toArray.isEmpty=true then 0 else k.toNat) its.toArray)=(aU k.toNat its).flatten.toArray:=by
  have f0:∀m:Nat,mQ (fun x1 x2=>x1++x2) #[] (aU m its.toArray)=(aU m its).flatten.toArray:=fun m=>by
   have:=foldl_rep its m [];rw[bL] at this;exact this
  rw[f0];cases its with
  | nil=>simp
  | cons a r'=>rw[if_neg (by simp)]
 refine wpAny_binaryOp_repeat_ref (T := "list") (U := "int") (by decide) ⟨_,e,rfl⟩ (fun s'=>typeIs_int s' k t) noFill_list_mul sZ lV repeat_list rZ.lookup
  (lD lV (typeIs_int s k t) sE (rJ _ _) (int___rmul___int_list k t l its.toArray n)
   ⟨e,rfl,⟨_,e,rfl⟩,lD F.slot_list_mul ⟨_,e,rfl⟩ F.entry_list_mul (F.args_list_mul_2 _ _) (AutoListH.list___mul___list_int_3 l its.toArray n k t hfit hcap hlong) ⟨e,?_⟩⟩)
 rw[hnew];exact⟨.ref _,_,I.lnew (t':=s.toks) (r.rep k.toNat) (by rw[len_rep,nD];exact hz),rfl,q _ I.fresh⟩
end
section
variable{prog:cF}{w:dR}{A:cQ}{E:aG->aJ->Prop}{s:aJ}
end
section
variable{X:Cx}
end
end L2
namespace Att
open PySem PySem.W PySem.Calls PyProof.Rows
theorem ahc{P:Params}{h:fH}:∀(ns:List Int) (vs:List aG),WellAll P h vs (ns.map WData.int)->oV vs ns:=by
 intro ns
 induction ns with
 | nil =>
  intro vs w;rw[uZ] at w;cases w;exact .nil
 | cons n ns ih =>
  intro vs w;rw[aV] at w;cases w with
  | cons a b =>
   cases a;exact .cons _ _ (ih _ b)
theorem asm{l:OpenLaw}{n:Nat}(hn:l.most=some n){P:Params}{h:fH}{args:List WData}{vals:List aG}
  (hpre:l.row.toRowW.claim.pre args=true) (hwl:WellAll P h vals args) :
  ∃a vs ns,vals=[dJ a]/\args=[WData.list (ns.map WData.int)]/\h.get? a=some { cls:=.type "list", data:=.seq vs.toArray }/\oV vs ns/\ns.length<=n:=by
 have hsh:WShape.hasAll [] args [.list .int]=true:=(pre_splitW hpre).1;have hc:l.pre.holds [] { args:=args }=true:=(pre_splitW hpre).2;obtain⟨d,r,rfl,h1,h2⟩:=hasAllW_cons hsh;obtain rfl:=hasAllW_nil h2;obtain⟨xs,rfl,h3⟩:=hasW_list h1;obtain⟨ns,rfl⟩:=items_int h3;have hlen:ns.length<=n:=by
  unfold OpenLaw.pre at hc;have h4:(WTm.not (.lt (.lit (.int (n:Int))) (.len (.arg 0)))).holds [] { args:=[.list (ns.map .int)] }=true:=by
   have h4:=(holds_andW hc).1;rw[hn] at h4;exact h4
  have h5:=condW_of h4 (w_not (w_lt w_lit (w_len_list (w_arg rfl))));rw[aW] at h5;refine Nat.le_of_not_lt fun q =>?_
  have q':(n:Int) < ((ns.length:Nat):Int):=by omega
  first
   | (rw[decide_eq_true q'] at h5;exact absurd h5 (by decide))
   | (simp at h5;omega)
 cases hwl with
 | cons w1 w2 =>
  cases w2;cases w1 with
  | list ho hall=>exact⟨_,_,ns,rfl,rfl,ho,ahc ns _ hall,hlen⟩
theorem asv(l:OpenLaw)(args:List WData):l.row.toRowW.claim.post args (.bool true) args=true :=
 postW_of (r:=l.row.toRowW) (X:=(true==true))
  (show WShape.has [] (.bool true) .bool=true by first | rfl | decide | simp[WShape.has,WShape.arms,WShape.armsAll])
  (show(WTm.eq .res (.lit (.bool true))).value [] { args:=args,res:=some (.bool true),after:=args }=some (.bool (true==true)) from w_eq_bool (w_res rfl) w_lit) rfl
theorem aoh{l:OpenLaw}{n:Nat}{q:cF}{loose:List Str}{XP:(Str->Option aG)->fH->Prop}{YP:dR->fH->Prop}{d:DefRec}
  (hn:l.most=some n) (hdf:d.params.defaults=[])
  (call:∀(w:dR) (s₀ s₁:aJ) (mg mb:Str->Option aG) (fa:aZ) (o:Obj) (pm cd doc:aG) (a:aZ) (vs:List aG) (ns:List Int),
   Ground q loose [] XP w s₀ mg mb s₁.heap->YP w s₁.heap ->
   s₁.heap.get? fa=some o->o.data=.func (docDef d.name d.params d.body d.scope pm cd doc)->s₁.heap.CodeRec cd d.name->mg d.name=some (.ref fa) ->
   s₁.heap.get? a=some { cls:=.type "list", data:=.seq vs.toArray }->oV vs ns->ns.length<=n->s₁.gens = #[] ->
   oK (bR l.prog w) rB (.call (.ref fa) ⟨[.ref a],[]⟩) (fun r s'=>r=.ok (.ret (.bool true))/\OldK s₁.heap s'.heap/\s'.os=s₁.os/\qC s'.gens) s₁) :
  WalkO q loose XP YP l.row.toRowW d [] (fun f vs=>wV f vs):=by
 intro w s₀ s₁ mg mb G Y fa o pm cd doc dV kV ho hd hcd hD hmg hg args vals as hpre hlay hrd hwl hlo;obtain rfl:dV=.none:=Dflts.none hD hdf;obtain rfl:kV=.none:=Dflts.noKw hD;obtain⟨a,vs,ns,rfl,rfl,hobj,hints,hlen⟩:=asm hn hpre hwl;refine enter_call (lC (call w s₀ s₁ mg mb fa o pm cd doc a vs ns G Y ho (fd_plain hd) hcd hmg hobj hints hlen hg) fun r s' hq =>?_)
 obtain⟨rfl,h2,h3,h4⟩:=hq;exact⟨.inl ⟨.bool true,.bool true,[],rfl,fun _=>rfl,.bool true,asv l _,fun _=>⟨List.Pairwise.nil,fun _ hm=>(nomatch hm)⟩⟩,h2,h3,h4⟩
section
variable{prog:cF}{w:dR}{A:cQ}{E:aG->aJ->Prop}{s:aJ}{K:Frag}
end
end Att
namespace L2
theorem aku:∀{vs:List aG} {ns:List Int},oV vs ns->Vals (ns.map V.int) vs
 | _,_,.nil=>.nil
 | _,_,.cons n t h=>.cons ⟨t,rfl⟩ (aku h)
def Only(H:Hp):Prop:=∀b,H b=none∨∃o xs,H b=some (.frz o (.lst xs))
theorem aw7{P:cF}{w:dR}{K:Fg9}{mg mb:Str->Option aG}{CX:CXT}{k:Nat}{fa a:aZ}{fd:fX}{x:Str}{sp:Sp}{s₁:aJ}{vs:List aG}{ns:List Int}
  (KX:K.In s₁.heap) (hns:s₁.heap.Ns bB mg) (hb:s₁.heap.Ns builtinsNs mb) (hbb:∀x:Str,x ≠ "__name__" -> mb x=bT x) (hlim:s₁.heap.NoLimit) (hg:s₁.gens = #[])
  (ha:s₁.heap.get? a=some { cls:=.type "list", data:=.seq vs.toArray }) (hi:oV vs ns) (hl:ns.length<=cJ) (hr:Room k rB)
  (F:∀base:fH,K.In base->base.Ns bB mg->FnOk P w K mg base CX k fa fd [x] sp) (hbind:∀(s:aJ) (u:aG),pA s fd ⟨[u],[]⟩ [(x,u)])
  (hsp:∀H:Hp,Only H->SqL K H a (ns.map V.int)->sp [.ref a] H (fun v _=>v=.bl true) fun _ _ _=>False)
  (hCX:∀H e s',CX [] H s₁ (fun _ _ _=>False) e s'->False) :
  oK (bR P w) rB (.call (.ref fa) ⟨[.ref a],[]⟩) (fun r s'=>r=.ok (.ret (.bool true))/\OldK s₁.heap s'.heap/\s'.os=s₁.os/\qC s'.gens) s₁:=by
 have rv:=aku hi;have lenV:=hi.length;have core:∀H:Hp,Only H->SqL K H a (ns.map V.int)->HOk P w H s₁.heap->(∀b,H b≠none->b=a)->(H a≠none->K.lookup a=none) ->
   oK (bR P w) rB (.call (.ref fa) ⟨[.ref a],[]⟩) (fun r s'=>r=.ok (.ret (.bool true))/\OldK s₁.heap s'.heap/\s'.os=s₁.os/\qC s'.gens) s₁:=by
  intro H hO hS hok hA hK;have base_of:∀{b:aZ} {o:Obj},s₁.heap.get? b=some o->H b=none->(hidT s₁.heap H).get? b=some o:=fun e n=>axf e n
  have noA:∀{b:aZ} {o:Obj} {es:Array DictEntry} {ep:Nat},s₁.heap.get? b=some o->o.data=.dict es ep->H b=none:=fun{b o es ep} e d=>by
   cases q:H b with
   | none=>rfl
   | some u =>
    have e':b=a:=hA b (by rw[q];simp)
    subst e';rw[ha] at e;cases e;have d':Data.seq vs.toArray _=Data.dict es ep:=d;cases d'
  have nsK:∀{b:aZ} {m:Str->Option aG},s₁.heap.Ns b m->(hidT s₁.heap H).Ns b m:=fun{b m} ⟨o,es,ep,e,d,r⟩=>⟨o,es,ep,base_of e (noA e d),d,r⟩
  have hKb:K.In (hidT s₁.heap H):=fun b o e=>base_of (KX b o e) (by
   cases q:H b with
   | none=>rfl
   | some u =>
    have e':b=a:=hA b (by rw[q];simp)
    subst e';rw[hK (by rw[q];simp)] at e;cases e)
  have hM:Mod K mg (hidT s₁.heap H):=⟨hKb,nsK hns,⟨mb,nsK hb,hbb⟩,let ⟨mc,h1,h2⟩:=hlim;⟨mc,nsK h1,h2⟩⟩
  have e0:Env0 P w K mg (hidT s₁.heap H) rB [] s₁ H:=⟨rfl,hM,fun b o e=>a0p e,pM (at8 _ _),trivial,fun b hb=>absurd (show b∈([]:List aZ) from hb) (by simp),hok,.of_eq hg⟩
  refine lC ((F _ hKb (nsK hns)).run rB [] s₁ H ⟨[.ref a],[]⟩ [.ref a] [.ref a] _ _ hr e0 (hbind s₁ (.ref a)) (.cons rfl .nil) (hsp H hO hS)) fun r s' h =>?_
  cases r with
  | error e=>exact(hCX H e s' h).elim
  | ok fl =>
   cases fl with
   | next=>exact fK h
   | brk=>exact fK h
   | cont=>exact fK h
   | ret u =>
    obtain⟨v,H',os,bare,un,hok',r',q⟩:=h;have q':v=.bl true:=q;subst q';obtain rfl:u=rC true:=r';refine⟨rfl,OldK.of_keep fun b o e =>?_,os,bare⟩
    cases q:H b with
    | none=>exact un.keep b o e q (by intro z;exact absurd (show b∈([]:List aZ) from z) (by simp)) (by simp)
    | some u =>
     rcases hO b with z | ⟨ob,xs,z⟩
     ·rw[q] at z;cases z
     ·have z2:=un.frzs b ob _ z;obtain⟨e1,_⟩:=hok b _ z;obtain⟨e2,_⟩:=hok' b _ z2;rw[e] at e1;cases e1;exact e2
 cases hk:K.lookup a with
 | some o =>
  have e:=KX a o hk;rw[ha] at e;cases e;refine core (fun _=>none) (fun _=>.inl rfl) (.inr ⟨_,vs.toArray,_,hk,rfl,rfl,rfl,by rw[aY,lenV];exact hl,by simpa using rv⟩) (fun b u z=>by have z':(none:Option HO)=some u:=z;cases z') (fun b z=>absurd rfl z) fun z=>absurd rfl z
 | none =>
  refine core (fun b=>if b=a then some (.frz { cls:=.type "list", data:=.seq vs.toArray } (.lst (ns.map V.int))) else none) (fun b =>?_) (.inl (.inr ⟨{ cls:=.type "list", data:=.seq vs.toArray },if_pos rfl⟩)) (fun b u z =>?_) (fun b z =>?_) fun _=>hk
  ·by_cases hb:b=a
   ·exact .inr ⟨_,_,if_pos hb⟩
   ·exact .inl (if_neg hb)
  ·by_cases hb:b=a
   ·have z':=(if_pos hb).symm.trans z;cases z';subst hb;exact⟨ha,by rw[aW];exact hl,vs,_,rv,ha⟩
   ·have z':=(if_neg hb).symm.trans z;cases z'
  ·by_cases hb:b=a
   ·exact hb
   ·exact absurd (if_neg hb) z
theorem azc{l:sJ}{n k:Nat}{q:cF}{loose:List Str}{XP:(Str->Option aG)->fH->Prop}{YP:dR->fH->Prop}{d:DefRec}{K:Params->Fg9}{CX:dR->CXT}{sp:dR->Sp}{x:Str}
  (hn:l.most=some n) (hn2:n<=cJ) (hdf:d.params.defaults=[]) (hr:Room k rB)
  (hY:∀(w:dR) (h:fH),YP w h->(K w.params).In h)
  (F:∀(w:dR) (mg:Str->Option aG) (fa:aZ) (h:fH),(K w.params).In h->h.Ns bB mg->mg d.name=some (.ref fa) ->
   ∃fd:fX,(∀(s:aJ) (u:aG),pA s fd ⟨[u],[]⟩ [(x,u)]) /\
    ∀base:fH,(K w.params).In base->base.Ns bB mg->FnOk l.prog w (K w.params) mg base (CX w) k fa fd [x] (sp w))
  (hsp:∀(w:dR) (H:Hp) (a:aZ) (ns:List Int),ns.length<=n->Only H->SqL (K w.params) H a (ns.map V.int)->sp w [.ref a] H (fun v _=>v=.bl true) fun _ _ _=>False)
  (hCX:∀(w:dR) (H:Hp) (s:aJ) (e:aG) (s':aJ),CX w [] H s (fun _ _ _=>False) e s'->False) :
  zK q loose XP YP l.row.toRowW d [] (fun f vs=>wV f vs):=by
 refine Att.aoh hn hdf fun w s₀ s₁ mg mb fa o pm cd doc a vs ns G Y ho hd hcd hmg hobj hints hlen hg =>?_
 have KX:=hY w _ Y;obtain⟨fd,hb,hF⟩:=F w mg fa _ KX G.T.g hmg;exact aw7 KX G.T.g G.T.b G.T.builtins G.T.nolimit hg hobj hints (cL hlen hn2) hr hF hb (fun H hO hS=>hsp w H a ns hlen hO hS) fun H e s'=>hCX w H s₁ e s'
def mz(s:iM):Arguments:=match s with
 | .FunctionDef _ a _ _ _ _ _ _ _ _=>a
 | _=>{ posonlyargs:=[],args:=[],vararg:=none,kwonlyargs:=[],kw_defaults:=[],kwarg:=none,defaults:=[] }
def jm(s:iM):List iM:=match s with
 | .FunctionDef _ _ b _ _ _ _ _ _ _=>b
 | _=>[]
def au(s:iM):lX:=match s with
 | .FunctionDef _ _ _ _ _ _ sc _ _ _=>sc
 | _=>{ kind:=.function,names:=[],isGenerator:=false,isCoroutine:=false }
abbrev CX0:CXT:=fun _ _ _ _ _ _=>False
abbrev E0:XK:=fun _ _ _=>False
theorem a8k{X:Cx}:avy CX0 X E0:=fun _ _ _ _ _ _ _ h=>h.elim
structure Fun (K:Fg9) (x qual:Str) (st:iM) (f:aZ) (fd:fX):Prop where
 ex:∃(oc:aG) (od:Option aZ) (kV doc pm:aG) (an:Option aZ) (cdv ct:aG) (osl:Array (Option aG)),
  fd=fnOf x qual (mz st) (jm st) (au st) .none kV doc pm an cdv ct/\K.lookup f=some ⟨oc,od,.func fd,osl⟩/\codeIn K cdv qual=true
 kp:nY K (.ref f)=true
section
variable{P:cF}{w:dR}{K:Fg9}{mg:Str->Option aG}{base:fH}
theorem Fun.ok{x qual:Str}{st:iM}{f:aZ}{fd:fX}{N ps:List Str}{k:Nat}{sp:Sp}(F:Fun K x qual st f fd)(S:FnScope N ps (au st))(len:∀vs H Q E,sp vs H Q E->vs.length=ps.length)
  (hbody:∀(cdv:aG) (A:cQ) (outer:List Env) (s:aJ) (H:Hp) (vs:List V) (Q:VK) (E:XK),Room k (A.deeper (pB qual (au st) s.heap.objs.size f cdv))->sp vs H Q E ->
   ∃t,PSs (cxOf CX0 P w K mg base N qual (au st) f cdv A outer s H E).nox (jm st) t/\t { nx:=fun _ H'=>Q .non H',rt:=Q } (start N vs) H):FnOk P w K mg base CX0 (k+1) f fd ps sp:=by
 obtain⟨oc,od,kV,doc,pm,an,cdv,ct,osl,rfl,lk,hcd⟩:=F.ex;refine a5z lk hcd S len fun A outer s H vs Q E hr hsp =>?_
 obtain⟨t,h,q⟩:=hbody cdv A outer s H vs Q E hr hsp;exact⟨t,h.nox,q⟩
theorem Fun.binds{x qual:Str}{st:iM}{f:aZ}{fd:fX}{ps:List Str}(F:Fun K x qual st f fd)
  (h:∀(kV doc pm:aG) (an:Option aZ) (cdv ct:aG) (us:List aG),us.length=ps.length->bindArgs (fnOf x qual (mz st) (jm st) (au st) .none kV doc pm an cdv ct) ⟨us,[]⟩=pure (ps.zip us)):Binds K fd ps []:=by
 obtain⟨oc,od,kV,doc,pm,an,cdv,ct,osl,rfl,lk,hcd⟩:=F.ex;exact .all (h kV doc pm an cdv ct)
theorem auf{x qual:Str}{st:iM}{f:aZ}{oc:aG}{od an:Option aZ}{osl:Array (Option aG)}{kV doc pm cdv ct:aG}(l:K.lookup f=some ⟨oc,od,.func (fnOf x qual (mz st) (jm st) (au st) .none kV doc pm an cdv ct),osl⟩)
  (c:codeIn K cdv qual=true) (k:nY K (.ref f)=true):Fun K x qual st f (fnOf x qual (mz st) (jm st) (au st) .none kV doc pm an cdv ct):=⟨⟨oc,od,kV,doc,pm,an,cdv,ct,osl,rfl,l,c⟩,k⟩
end
theorem asa{n:Nat}(h:n<=1000):n < cJ:=qQ h (by decide)
section
variable{X:Cx}
theorem pv(i:Nat){x:Str}{pos:Pos}(hN:X.N[i]? = some x:=by rfl)(hv:Vis X.env.scope x:=by first | exact bN rfl | exact oF (bN rfl) | exact oF (oF rfl))(hd:(x==("__debug__" : Str))=false:=by decide)
  (hcd:(x==("__classdict__" : Str))=false:=by decide):PE X (.Name x pos) (tVar i):=a3v hN hv hd hcd
end
theorem iteF{A B:Prop}(h:B):if false=true then A else B:=by
 rw[if_neg dG];exact h
theorem iteT{A B:Prop}(h:A):if true=true then A else B:=by
 rw[if_pos rfl];exact h
def Same(H H':Hp):Prop:=∀b o,H b=some o->H' b=some o
theorem Same.refl(H:Hp):Same H H:=fun _ _ h=>h
theorem Same.trans{H H1 H2:Hp}(a:Same H H1)(b:Same H1 H2):Same H H2:=fun c o h=>b c o (a c o h)
theorem Same.seq{K:Fg9}{H H':Hp}{a:aZ}{xs:List V}(e:Same H H')(h:SqL K H a xs):SqL K H' a xs:=by
 rcases h with(h | ⟨o,h⟩) | h
 ·exact .inl (.inl (e _ _ h))
 ·exact .inl (.inr ⟨o,e _ _ h⟩)
 ·exact .inr h
end L2
namespace Mn
open L2
def ur(env:Env)(fr:List Str):List (Str×Addr):=fr.filterMap fun n=>(env.cells.lookup n).map fun c=>(n,c)
theorem ahu{env:Env}{n:Str}{r:List Str}(e:env.cells.lookup n=none):ur env (n::r)=ur env r:=by
 unfold ur;rw[iJ,e];rfl
theorem ad3{env:Env}{n:Str}{r:List Str}{c:aZ}(e:env.cells.lookup n=some c):ur env (n::r)=(n,c)::ur env r:=by
 unfold ur;rw[iJ,e];rfl
theorem look_same{x:Str}{c:aZ}{l:List (Str×Addr)}:dU x ((x,c)::l)=some c:=by
 have hb:(x==x)=true:=beq_iff_eq.mpr rfl;simp only[dU,hb]
theorem aax{x n:Str}{c:aZ}{l:List (Str×Addr)}(h:x≠n):dU x ((n,c)::l)=l.lookup x:=by
 have hb:(x==n)=false:=beq_eq_false_iff_ne.mpr h;simp only[dU,hb]
theorem jw{env:Env}:∀{fr:List Str} {x:Str} {c:aZ},(ur env fr).lookup x=some c->env.cells.lookup x=some c
 | [],x,c,h=>by
  have h':(none:Option aZ)=some c:=h;cases h'
 | n::r,x,c,h=>by
  cases e:env.cells.lookup n with
  | none =>
   rw[ahu e] at h;exact jw h
  | some d =>
   rw[ad3 e] at h
   by_cases hx:x=n
   ·subst hx;rw[look_same] at h;rw[e];exact h
   ·rw[aax hx] at h;exact jw h
theorem yt{env:Env}:∀{fr:List Str} {x:Str} {c:aZ},x∈fr->env.cells.lookup x=some c->(ur env fr).lookup x=some c
 | [],x,c,hm,h=>absurd hm (by simp)
 | n::r,x,c,hm,h=>by
  by_cases hx:x=n
  ·subst hx;rw[ad3 h,look_same]
  ·have hm':x∈r:=(bD.mp hm).elim (fun e=>absurd e hx) id
   cases e:env.cells.lookup n with
   | none =>
    rw[ahu e];exact yt hm' h
   | some d =>
    rw[ad3 e,aax hx];exact yt hm' h
def ae6(XN fr:List Str):List Str->List (Option Nat)->Bool
 | [],[]=>true
 | _::N,none::r=>ae6 XN fr N r
 | x::N,some j::r=>XN[j]? == some x&&fr.contains x&&ae6 XN fr N r
 | _,_=>false
theorem aea{XN fr:List Str}:∀{N:List Str} {src:List (Option Nat)} {i j:Nat} {x:Str},ae6 XN fr N src=true->N[i]? = some x->src[i]? = some (some j)->XN[j]? = some x/\x∈fr
 | [],[],i,j,x,_,h,_=>by simp at h
 | [],_::_,i,j,x,_,h,_=>by simp at h
 | _::_,[],i,j,x,_,_,h=>by simp at h
 | y::N,none::r,0,j,x,_,_,h=>by simp at h
 | y::N,none::r,i+1,j,x,hk,h1,h2=>aea (N:=N) (src:=r) (i:=i) hk (by simpa using h1) (by simpa using h2)
 | y::N,some k::r,0,j,x,hk,h1,h2=>by
  simp only[ae6,bH] at hk;obtain⟨⟨a,b⟩,_⟩:=hk;simp at h1 h2;subst h1 h2;exact⟨by simpa using a,by simpa using b⟩
 | y::N,some k::r,i+1,j,x,hk,h1,h2=>by
  simp only[ae6,bH] at hk;exact aea (N:=N) (src:=r) (i:=i) hk.2 (by simpa using h1) (by simpa using h2)
theorem ad9{XN fr:List Str}:∀{N:List Str} {src:List (Option Nat)},ae6 XN fr N src=true->src.length=N.length
 | [],[],_=>rfl
 | [],_::_,h=>by simp[ae6] at h
 | _::_,[],h=>by simp[ae6] at h
 | _::N,none::r,h=>by
  have:=ad9 (N:=N) (src:=r) h;simp[this]
 | _::N,some k::r,h=>by
  simp only[ae6,bH] at h;have:=ad9 (N:=N) (src:=r) h.2;simp[this]
def pick(src:List (Option Nat))(σ:L2.St):L2.St:=src.map fun o=>o.bind fun j=>(σ[j]?).bind id
theorem aoz{src:List (Option Nat)}{σ:L2.St}{i:Nat}{v:V}(h:(pick src σ)[i]? = some (some v)):∃j,src[i]? = some (some j)/\σ[j]? = some (some v):=by
 unfold pick at h;rw[bA] at h;cases e:src[i]? with
 | none=>rw[e] at h;cases h
 | some o =>
  rw[e] at h;have h':(o.bind fun j=>(σ[j]?).bind id)=some v:=bU h
  cases o with
  | none=>cases h'
  | some j =>
   refine⟨j,rfl,?_⟩;have h2:(σ[j]?).bind id=some v:=h';cases q:σ[j]? with
   | none=>rw[q] at h2;cases h2
   | some z =>
    rw[q] at h2;have h3:z=some v:=h2;rw[h3]
def ai1(env:Env)(XN:List Str)(scope:lX)(fr N:List Str)(src:List (Option Nat)):Bool :=
 scope.names.all (fun y=>y.2 != .cell&&(y.2 != .local||scope.names.lookup y.1==some .local)&&(y.2 != .free||fr.contains y.1)) &&
 fr.all (fun x=>scope.names.lookup x==some .free&&(env.kindOf x==some .cell||env.kindOf x==some .free))&&ae6 XN fr N src
structure CompOk (env:Env) (XN:List Str) (scope:lX) (fr N:List Str) (src:List (Option Nat)):Prop where
 cell:∀y∈scope.names,y.2≠.cell
 loc:∀y∈scope.names,y.2=.local->scope.names.lookup y.1=some .local
 free:∀y∈scope.names,y.2=.free->y.1∈fr
 frk:∀x∈fr,scope.names.lookup x=some .free
 out:∀x∈fr,env.kindOf x=some .cell∨env.kindOf x=some .free
 src:ae6 XN fr N src=true
theorem CompOk.of{env:Env}{XN:List Str}{scope:lX}{fr N:List Str}{src:List (Option Nat)}(h:ai1 env XN scope fr N src=true):CompOk env XN scope fr N src:=by
 simp only[ai1,bH,fQ] at h;obtain⟨⟨h1,h2⟩,h3⟩:=h;refine⟨fun y hy =>?_,fun y hy e =>?_,fun y hy e =>?_,fun x hx =>?_,fun x hx =>?_,h3⟩
 ·have:=(h1 y hy).1.1
  simpa using this
 ·have:=(h1 y hy).1.2;rw[e] at this
  simpa using this
 ·have:=(h1 y hy).2;rw[e] at this
  simpa using this
 ·have:=(h2 x hx).1
  simpa using this
 ·have:=(h2 x hx).2
  simpa using this
theorem ab5{env:Env}:∀{names:List (Str×NameKind)} {x:Str} {k:uJ},
  (names.map fun(n,k)=>if (k==eG&&env.scope.kind==.function&&env.kindOf n==some .cell) then (n,iR) else (n,k)).lookup x=some k ->
  ∃k0,names.lookup x=some k0/\(k=k0∨(k0=.free/\k=.cell))
 | [],x,k,h=>by simp at h
 | (n,q)::r,x,k,h=>by
  by_cases hx:x=n
  ·subst hx;have hb:(x==x)=true:=beq_iff_eq.mpr rfl;refine⟨q,by simp only[dU,hb],?_⟩
   by_cases hc:(q==eG&&env.scope.kind==.function&&env.kindOf x==some .cell)=true
   ·rw[aV] at h;simp only[hc,if_true,dU,hb] at h;simp only[bH] at hc;exact .inr ⟨by simpa using hc.1.1,(bU h).symm⟩
   ·rw[aV] at h;simp only[hc,dU,hb] at h;exact .inl (by simpa using h.symm)
  ·have hb:(x==n)=false:=beq_eq_false_iff_ne.mpr hx;have h':(r.map fun(n,k)=>if (k==eG&&env.scope.kind==.function&&env.kindOf n==some .cell) then (n,iR) else (n,k)).lookup x=some k:=by
    rw[aV] at h
    by_cases hc:(q==eG&&env.scope.kind==.function&&env.kindOf n==some .cell)=true
    ·simp only[hc,if_true,dU,hb] at h;exact h
    ·have h2:dU x ((if (q==eG&&env.scope.kind==.function&&env.kindOf n==some .cell)=true then (n,iR) else (n,q))::(r.map fun(n,k)=>if (k==eG&&env.scope.kind==.function&&env.kindOf n==some .cell) then (n,iR) else (n,k)))=some k:=h
     rw[if_neg hc] at h2;simp only[dU,hb] at h2;exact h2
   obtain⟨k0,e,d⟩:=ab5 h';exact⟨k0,by simp only[dU,hb];exact e,d⟩
theorem aab{env:Env}:∀{names:List (Str×NameKind)} {x:Str},names.lookup x=some .free ->
  (names.map fun(n,k)=>if (k==eG&&env.scope.kind==.function&&env.kindOf n==some .cell) then (n,iR) else (n,k)).lookup x=some .free ∨
  (names.map fun(n,k)=>if (k==eG&&env.scope.kind==.function&&env.kindOf n==some .cell) then (n,iR) else (n,k)).lookup x=some .cell
 | [],x,h=>by simp at h
 | (n,q)::r,x,h=>by
  by_cases hx:x=n
  ·subst hx;have hb:(x==x)=true:=beq_iff_eq.mpr rfl;simp only[dU,hb] at h;have hq:q=.free:=bU h;subst hq
   by_cases hc:(eG==eG&&env.scope.kind==.function&&env.kindOf x==some .cell)=true
   ·right
    rw[aV];simp only[hc,if_true,dU,hb]
   ·left
    show dU x ((if (eG==eG&&env.scope.kind==.function&&env.kindOf x==some .cell)=true then (x,iR) else (x,eG))::_)=some eG
    rw[if_neg hc];simp only[dU,hb]
  ·have hb:(x==n)=false:=beq_eq_false_iff_ne.mpr hx;simp only[dU,hb] at h;rw[aV]
   by_cases hc:(q==eG&&env.scope.kind==.function&&env.kindOf n==some .cell)=true
   ·simp only[hc,if_true,dU,hb];exact aab h
   ·simp only[hc,dU,hb]
    simpa[dU,hb] using aab (env:=env) h
def cxC(X:Cx)(N:List Str)(scope:lX)(fr:List Str)(fp:List aZ)(s:aJ)(H:Hp):Cx where
 prog:=X.prog
 w:=X.w
 K:=X.K
 mg:=X.mg
 base:=X.base
 A:=X.A
 N:=N
 s₀:=s
 H₀:=H
 env:=compEnvC scope (ur X.env fr) s.heap.objs.size X.env
 outer:=X.stack
 stack:=X.stack
 ex:=fp
 fn:=fun _=>false
 calm:=X.calm
 pn:=[]
 xe:=fun _ _=>False
section
variable{X:Cx}{zv:List (aZ×Obj)}{σ:L2.St}{H:Hp}{s:aJ}{scope:lX}{fr N:List Str}{src:List (Option Nat)}{fp:List aZ}
theorem a6f(I:Inv X zv σ H s)(C:CompOk X.env X.N scope fr N src)(hkind:scope.kind=.function)(hf:∀b∈fp,FpOk X zv H b)(hl:∀b∈fp,b < s.heap.objs.size):(cxC X N scope fr fp s H).Ok where
 mod:=I.ok.mod
 kind:=hkind
 glob:=I.ok.glob
 blt:=I.ok.blt
 above:=aL _
 inj:=fun x y c h1 h2=>I.ok.inj x y c (jw h1) (jw h2)
 has:=fun x hx=>by
  have mem:∀k,(k=iR∨k=eG)->(cxC X N scope fr fp s H).env.kindOf x=some k->x∈fr:=fun k hk e=>by
   obtain⟨k0,e0,d⟩:=ab5 (env:=X.env) (names:=scope.names) e;have hm:=iC e0;rcases d with rfl | ⟨rfl,_⟩
   ·rcases hk with rfl | rfl
    ·exact absurd rfl (C.cell _ hm)
    ·exact C.free _ hm rfl
   ·exact C.free _ hm rfl
  have hm:x∈fr:=by
   rcases hx with e | e
   ·exact mem _ (.inl rfl) e
   ·exact mem _ (.inr rfl) e
  obtain⟨c,hc⟩:=I.ok.has x (C.out x hm);exact⟨c,yt hm hc⟩
 cab:=fun _ _ h _=>absurd h dG
 hd:=I.ok.hd
 frames:=I.ok.frames
 stk:=.inl rfl
 exf:=fun b hb=>⟨Nat.ne_of_lt (hl b hb),fun x c e=>(hf b hb).2.2.2.2.1 x c (jw e)⟩
 bs:=I.bs
 bsz:=cL I.ok.bsz I.sz
 noex:=fun b o e hb=>by
  rcases(hf b hb).2.2.2.1 with z | z
  ·exact I.ok.noex b o e z
  ·exact absurd (bW (aP e) (cL I.ok.bsz z)) (jW _)
 exfs:=fun b hb z=>by
  rcases bD.mp (I.stkSub b z) with e | e
  ·exact(hf b hb).2.1 e
  ·exact(hf b hb).2.2.1 e
 funs:=I.stack
 frf:=I.stkFree
theorem api(I:Inv X zv σ H s)(C:CompOk X.env X.N scope fr N src)(hkind:scope.kind=.function)(hf:∀b∈fp,FpOk X zv H b)(hl:∀b∈fp,b < s.heap.objs.size){h':fH}{tk:Nat}{m:Str->Option aG}
  (hns:h'.Ns s.heap.objs.size m) (hk:∀b o,s.heap.get? b=some o->h'.get? b=some o):Inv (cxC X N scope fr fp s H) [] (pick src σ) H { s with heap:=h',toks:=tk } where
 ok:=a6f I C hkind hf hl
 os:=rfl
 bare:=I.bare
 base:=Un.kept hk
 loc:=by
  refine⟨m,hns,fun i x v h1 h2 h3 =>?_⟩
  obtain⟨j,hj,hv⟩:=aoz h2;obtain⟨hN,hm⟩:=aea C.src h1 hj;obtain⟨mo,_,hlo⟩:=I.loc;have vis:Vis X.env.scope x:=by
   rcases C.out x hm with e | e
   ·exact .inr (.inl e)
   ·exact .inr (.inr e)
  obtain⟨u,r,l⟩:=hlo j x v hN hv vis;refine⟨u,r,.inr ⟨?_,?_⟩⟩
  ·rcases aab (env:=X.env) (C.frk x hm) with e | e
   ·exact .inr e
   ·exact .inl e
  ·rcases l with⟨e,_⟩ | ⟨_,c,hc,z⟩
   ·rcases C.out x hm with q | q
    ·rw[q] at e;cases e
    ·rw[q] at e;cases e
   ·obtain⟨o,ho,hd⟩:=z;exact⟨c,yt hm hc,o,hk c o ho,hd⟩
 cell:=fun x c e=>by
  obtain⟨v,o,ho,hd⟩:=I.cell x c (jw e);exact⟨v,o,hk c o ho,hd⟩
 free:=I.hok.fresh (aL _)
 freeC:=fun x c e=>I.freeC x c (jw e)
 pin:=fun p hp=>absurd (show p∈([]:List (aZ×Obj)) from hp) (by simp)
 hok:=I.hok.kept hk
 len:=by
  unfold pick;rw[aW];exact ad9 C.src
theorem apj{pins':List (aZ×Obj)}{σ':L2.St}{H':Hp}{s':aJ}{h'':fH}(I:Inv X zv σ H s)(hf:∀b∈fp,FpOk X zv H b)(J:Inv (cxC X N scope fr fp s H) pins' σ' H' s')
  (hs:fJ s.heap.objs.size s'.heap h''):Inv X zv σ H' { s' with heap:=h'' }:=by
 have k:∀b o,b≠s.heap.objs.size->s'.heap.get? b=some o->h''.get? b=some o:=fun b o hb e=>(hs.2 b hb).trans e
 have old:∀b o,s.heap.get? b=some o->b≠s.heap.objs.size:=fun b o e=>bI (aP e)
 have un:Un (frs X.stack) fp H H' s.heap h'':=by
  have u:Un (frs X.stack) fp H H' s.heap s'.heap:=J.base;refine⟨fun b o e n hb hx=>k b o (old b o e) (u.keep b o e n hb hx),fun b o e n hb hx =>?_,u.free,fun b o e hx =>?_,u.tups,u.frzs,u.tbls⟩
  ·obtain⟨sl,q⟩:=u.slot b o e n hb hx;exact⟨sl,k b _ (old b o e) q⟩
  ·obtain⟨o',q⟩:=u.there b o e hx;exact⟨o',k b _ (old b o e) q⟩
 have hok:HOk X.prog X.w H' h'':=fun b u e=>by
  have nC:∀c z,H' c=some z->c≠s.heap.objs.size:=fun c z q w=>by
   have f:H' s.heap.objs.size=none:=J.free;rw[w,f] at q;cases q
  refine(J.hok b u e).stay (fun c v hc q=>k c v ?_ q) (fun _ q=>q) fun _ _ q=>q
  rcases hc with z | z
  ·rw[z];exact nC b u e
  ·exact nC c _ z
 have os:s'.os=s.os:=J.os;refine Inv.call' (s':={ s' with heap:=h'' }) I os un hok J.bare fun b hb =>?_
 obtain⟨_,f1,_,f3,f4,f5⟩:=hf b hb;exact⟨f3,f1,f4,f5⟩
end
def amx(ifs:List dW)(env:Env):Sem Bool:=forIn ifs true fun c r=>if r=true then do let ok <-isTrue c env (eval c env);pure (yQ ok) else pure (yQ r)
def PIf(X:Cx)(ifs:List dW)(t:TT):Prop :=
 ∀(zv:List (aZ×Obj)) (s:aJ) (σ:L2.St) (H:Hp) (Q:Bool->Hp->Prop),Inv X zv σ H s->t σ H Q->bK (bR X.prog X.w) X.A (amx ifs X.env) (TP X zv σ Q) X.xe s
def tYes:TT:=fun _ H Q=>Q true H
theorem az9{X:Cx}:PIf X [] tYes:=fun zv s σ H Q I h=>by
 show bK _ _ (pure true) _ _ s;exact aH ⟨H,I,h⟩
theorem az8{X:Cx}{c:dW}{t:TT}(hc:PT X c t):PIf X [c] t:=fun zv s σ H Q I h=>by
 unfold amx;rw[pR];rw[if_pos rfl];refine aA (aA (thn (hc zv s σ H _ I h) fun b s1 q=>aH ?_))
 show bK _ _ (forIn [] b _) _ _ s1;exact aH q
section
variable{prog:cF}{w:dR}{A:cQ}{R:Result->aJ->Prop}{s:aJ}
theorem compLoop{elt target iter:dW}{ifs:List dW}{scope:lX}{pos:Pos}{it acc:aG}{env:Env}(I:Nat->aJ->Prop)
  (turn:∀n s,I n s->bK (bR prog w) A (nW it) (fun r s₁=>match r with
   | none=>R (.ok .next) s₁
   | some v=>bK (bR prog w) A (letOwnedTupleGo target it v) (fun _ s₁'=>bK (bR prog w) A (qI target env v) (fun _ s₂ =>
     bK (bR prog w) A (amx ifs env) (fun ok s₃ =>
      if ok=true then bK (bR prog w) A (eval elt env) (fun x s₄ =>
       bK (bR prog w) A (call (.builtin "list.append") [acc,x]) (fun _ s₅=>∃m,m < n/\I m s₅) (fun _ _=>False) s₄) (fun _ _=>False) s₃
      else ∃m,m < n/\I m s₃) (fun _ _=>False) s₂) (fun _ _=>False) s₁') (fun _ _=>False) s₁) (fun _ _=>False) s)
  (n:Nat) (h:I n s) :
  oK (bR prog w) A (.compLoop (.ListComp elt [⟨target,iter,ifs,0⟩] scope pos) 0 it acc env) R s:=by
 refine codeAny_loop rfl I (fun n s hI =>?_) n h
 show bK _ A ((compTurn (.ListComp elt [⟨target,iter,ifs,0⟩] scope pos) 0 it acc env).onRaise (fun x=>do noteFrame x env;theTreesLotGoes x)) _ _ s
 refine wpAny_noted ?_;rw[compTurn_list];refine aA (jE (aA (bC (turn n s hI) (fun r s₁ h₁ =>?_) fun _ _ h'=>h'.elim)))
 cases r with
 | none=>exact aH h₁
 | some v =>
  refine aA (bC h₁ (fun _ s₁' h₁' =>?_) fun _ _ h'=>h'.elim)
  refine aA (bC h₁' (fun _ s₂ h₂=>aA (bC h₂ (fun ok s₃ h₃ =>?_) fun _ _ h'=>h'.elim)) fun _ _ h'=>h'.elim)
  cases ok with
  | false=>exact aH ⟨rfl,h₃⟩
  | true =>
   exact aA (aA (bC h₃ (fun x s₄ h₄=>aA (bC h₄ (fun _ s₅ h₅=>aH (aH ⟨rfl,h₅⟩)) fun _ _ h'=>h'.elim)) fun _ _ h'=>h'.elim))
end
def a6s(J:It)(g:TG)(ti:TT)(te:TE)(Q:VK)(d:aZ)(σ0:L2.St)(H1:Hp):Prop :=
 ∃W:Nat->Nat->List V->L2.St->Hp->Prop,(∃m,W 0 m [] σ0 (upd H1 d (.lst [])))/\∀i m ys σ H2,W i m ys σ H2->H2 d=some (.lst ys) /\
  ((J.stop i H2/\Q (.ref d) H2)∨(J.go i H2/\∀x H3,J.yld i H2 x H3->g x σ H3 fun σ4 H4=>ti σ4 H4 fun b H5 =>
   if b=true then te σ4 H5 fun y H6=>H6 d=some (.lst ys)/\ys.length < cJ/\∃m',m' < m/\W (i+1) m' (ys++[y]) σ4 (upd H6 d (.lst (ys++[y]))) else ∃m',m' < m/\W (i+1) m' ys σ4 H5))
def av9(wi:TI)(g:TG)(ti:TT)(te:TE)(src:List (Option Nat)):TE:=fun σ H Q=>wi σ H fun J H1=>∀d,H1 d=none->a6s J g ti te Q d (pick src σ) H1
theorem ahs{X:Cx}{tg iter elt:dW}{ifs:List dW}{scope:lX}{pos:Pos}{J:It}{fp:List aZ}{it d:aZ}{tn:Nat->fH->Prop}{g:TG}{ti:TT}{te:TE}{Q:VK}{R:Result->aJ->Prop}
  {W:Nat->Nat->List V->L2.St->Hp->Prop} {m0:Nat} {σ0:L2.St} {H0:Hp} {s:aJ} (hc:X.calm=true) (hE:X.xe=fun _ _=>False) (T:Turn X.prog X.w X.K tg J fp it tn)
  (hf:∀H':Hp,(∀b∈fp,H' b=none)->∀b∈fp,FpOk X [] H' b) (hg:PG X tg g) (ht:PIf X ifs ti) (he:PE X elt te)
  (turn:∀i m ys σ H2,W i m ys σ H2->H2 d=some (.lst ys) /\
   ((J.stop i H2/\Q (.ref d) H2)∨(J.go i H2/\∀x H3,J.yld i H2 x H3->g x σ H3 fun σ4 H4=>ti σ4 H4 fun b H5 =>
    if b=true then te σ4 H5 fun y H6=>H6 d=some (.lst ys)/\ys.length < cJ/\∃m',m' < m/\W (i+1) m' (ys++[y]) σ4 (upd H6 d (.lst (ys++[y]))) else ∃m',m' < m/\W (i+1) m' ys σ4 H5)))
  (w0:W 0 m0 [] σ0 H0) (I0:Inv X [] σ0 H0 s) (st0:tn 0 s.heap) (fr0:∀b∈fp,H0 b=none)
  (hR:∀σ' H' s',Inv X [] σ' H' s'->Q (.ref d) H'->R (.ok .next) s') :
  oK (bR X.prog X.w) X.A (.compLoop (.ListComp elt [⟨tg,iter,ifs,0⟩] scope pos) 0 (.ref it) (.ref d) X.env) R s:=by
 have hE':∀e s',X.xe e s'->False:=fun e s' h=>by rw[hE] at h;exact h
 refine compLoop (fun n s'=>∃i ys σ' H',Inv X [] σ' H' s'/\tn i s'.heap/\(∀b∈fp,H' b=none)/\W i n ys σ' H') ?_ m0 ⟨0,[],σ0,H0,I0,st0,fr0,w0⟩
 rintro n s5 ⟨i,ys,σ5,H5,I5,st5,fr5,w5⟩
 obtain⟨hD,alt⟩:=turn i n ys σ5 H5 w5;rcases alt with⟨stop,qn⟩ | ⟨go,step⟩
 ·refine bC (T.done X rfl rfl rfl hc i [] s5 σ5 H5 (fun _ _=>False) I5 (hf _ fr5) st5 stop) (fun r s6 ⟨hr,I6⟩ =>?_) fun _ _ e=>e
  subst hr;exact hR σ5 H5 s6 I6 qn
 ·refine bC (T.item X rfl rfl rfl hc i [] s5 σ5 H5 (fun _ _=>False) I5 (hf _ fr5) st5 go) (fun r s6 ⟨u,hr,h6⟩ =>?_) fun _ _ e=>e
  subst hr;refine bC h6 (fun _ s7 ⟨x,H7,I7,r7,y7,st7,fr7⟩ =>?_) fun _ _ e=>e
  have I7':=I7.pinned (hf _ fr7) (T.obj _ _ st7);have again:∀{σ':L2.St} {H':Hp} {s':aJ} {ys':List V} {m':Nat},Inv X ([]++ak7 fp s7.heap) σ' H' s'->W (i+1) m' ys' σ' H'->∃i ys σ' H',Inv X [] σ' H' s'/\tn i s'.heap/\(∀b∈fp,H' b=none)/\W i m' ys σ' H':=fun{σ' H' s' ys' m'} Ia wa=>by
   refine⟨i+1,ys',σ',H',Ia.unpinned,T.keep _ _ _ st7 fun b hb o e=>(Ia.pin (b,o) (cU _ (cU _ (acv hb e)))).1,fun b hb =>?_,wa⟩
   obtain⟨o,e,d⟩:=T.obj _ _ st7 b hb;exact(Ia.pin (b,o) (cU _ (cU _ (acv hb e)))).2.1
  refine bC (hg _ s7 σ5 H7 x u _ I7' r7 (step x H7 y7)) (fun _ s8 ⟨σ8,H8,I8,q8⟩ =>?_) hE'
  refine bC (ht _ s8 σ8 H8 _ I8 q8) (fun ok s9 ⟨H9,I9,q9⟩ =>?_) hE'
  cases ok with
  | false =>
   rw[if_neg dG] at q9 ⊢
   obtain⟨m',hm,wa⟩:=q9;exact⟨m',hm,again I9 wa⟩
  | true =>
   rw[if_pos rfl] at q9 ⊢
   refine bC (he _ s9 σ8 H9 _ I9 q9) (fun z s10 ⟨y,H10,I10,r10,hd10,hz,m',hm,wa⟩ =>?_) hE'
   refine bC (acb _ s10 σ8 H10 (.ref d) [y] (.ref d) [z] (fun _ H'=>H'=upd H10 d (.lst (ys++[y]))) I10 rfl (.cons r10 .nil) ⟨d,ys,y,rfl,rfl,hd10,hz,rfl⟩) (fun _ s11 ⟨_,H11,I11,_,e11⟩ =>?_) hE'
   subst e11;exact⟨m',hm,again I11 wa⟩
theorem a0f{X:Cx}{tg iter elt:dW}{ifs:List dW}{scope:lX}{pos:Pos}{wi:TI}{g:TG}{ti:TT}{te:TE}(fr N:List Str)(src:List (Option Nat))(hc:X.calm=true)(hi:PI X tg iter wi)
  (hg:∀fp s H,PG (cxC X N scope fr fp s H) tg g) (ht:∀fp s H,PIf (cxC X N scope fr fp s H) ifs ti) (he:∀fp s H,PE (cxC X N scope fr fp s H) elt te)
  (hok:ai1 X.env X.N scope fr N src=true:=by rfl) (hkind:scope.kind=.function:=by rfl) (hclos:closureFor scope X.env=pure (ur X.env fr):=by rfl)
  (hs:∀x,iB iter X.env x=pure x:=by intro _;rfl):PE X (.ListComp elt [⟨tg,iter,ifs,0⟩] scope pos) (av9 wi g ti te src):=by
 have C:=CompOk.of hok;intro zv s σ H Q I h;rw[eval_ListComp];refine wpAny_comprehension_free (use:=none) rfl hs hclos hkind C.loc (bC (hi zv s σ H _ I h) (fun v s1 h1=>bC h1 (fun itv s2 h2 =>?_) fun _ _ e=>e) fun _ _ e=>e)
 obtain⟨it,fp,tn,J,H2,e,I2,T,st2,f2,q2⟩:=h2;subst e;have hd0:H2 s2.heap.objs.size=none:=I2.hok.fresh (aL _);obtain⟨W,⟨m0,w0⟩,turn⟩:=q2 s2.heap.objs.size hd0;refine bZ ?_;generalize hs3:({ s2 with heap:=s2.heap.push { cls:=.type "list", dict:=none,data:=.seq ([]:List aG).toArray } }:aJ)=s3
 have keep2:∀b o,s2.heap.get? b=some o->s3.heap.get? b=some o:=fun b o e=>by rw[<-hs3];exact aD _ e
 have I3:Inv X zv σ (upd H2 s2.heap.objs.size (.lst [])) s3:=by
  rw[<-hs3];exact I2.laid (t':=s2.toks) (fun b u q=>aD _ q) (aL _) ⟨Nat.zero_le _,[],0,.nil,aO _ rfl⟩
 have ne0:∀b∈fp,b≠s2.heap.objs.size:=fun b hb=>by
  obtain⟨o,e,_⟩:=T.obj _ _ st2 b hb;exact bI (aP e)
 have f3:∀b∈fp,FpOk X zv (upd H2 s2.heap.objs.size (.lst [])) b:=fun b hb=>⟨by rw[cu (ne0 b hb)];exact(f2 b hb).1,(f2 b hb).2⟩
 have lt3:∀b∈fp,b < s3.heap.objs.size:=fun b hb=>by
  obtain⟨o,e,_⟩:=T.obj _ _ st2 b hb;exact aP (keep2 b o e)
 refine wpAny_newFunctionEnv C.cell (by intro y hy;simp at hy) (fun h₁ hns₁ hsb₁ =>?_) hkind
 have keep3:∀b o,s3.heap.get? b=some o->h₁.get? b=some o:=fun b o e=>hsb₁.extBut b o (bI (aP e)) (aD _ e)
 have st4:tn 0 h₁:=T.keep _ _ _ st2 fun b hb o e=>keep3 b o (keep2 b o e)
 have I4:=api (tk:=s3.toks+([]:List (Str×Value)).length) I3 C hkind f3 lt3 hns₁ keep3;have loop:=ahs (X:=cxC X N scope fr fp s3 (upd H2 s2.heap.objs.size (.lst []))) (iter:=iter) (scope:=scope) (pos:=pos) (d:=s2.heap.objs.size)
  (R:=compPost (bR X.prog X.w) X.A X.xe none (EP X zv σ Q) (.ref s2.heap.objs.size) s3.heap.objs.size) hc rfl T
  (fun H' hn b hb=>⟨hn b hb,bI (lt3 b hb),I4.ok.exfs b hb,.inl hb,(I4.ok.exf b hb).2,fun p hp=>absurd (show p∈([]:List (aZ×Obj)) from hp) (by simp)⟩)
  (hg fp s3 _) (ht fp s3 _) (he fp s3 _) turn w0 I4 st4 (fun b hb=>(f3 b hb).1) (fun σ' H' s' I6 qn=>by
   obtain⟨m6,hn6,_⟩:=I6.loc;exact⟨m6,hn6,fun h'' hs''=>⟨.ref s2.heap.objs.size,H',apj I3 f3 I6 hs'',rfl,qn⟩⟩)
 exact codeAny_compStart_list loop (T.self _ 0 _ _ _ st4 loop)
theorem Same.new{H:Hp}{p:aZ}(h:H p=none)(o:HO):Same H (upd H p o):=fun b u q=>by rw[cu (jn q h)];exact q
structure ItOf (J:It) (xs:List V) (S:Hp->Prop):Prop where
 go:∀i H,S H->i < xs.length->J.go i H
 yld:∀i H x H',S H->J.yld i H x H'->H'=H/\(i < xs.length->xs[i]? = some x)
 stop:∀i H,S H->xs.length<=i->J.stop i H
theorem axc{K:Fg9}{a:aZ}{xs:List V}:ItOf (Itt K a) xs fun H=>SqT K H a xs :=
 ⟨fun i H h hi=>⟨xs,xs[i],h,by simp[hi]⟩,fun i H x H' h y=>⟨y.1,fun _=>y.2 xs h⟩,fun i H h hi=>⟨xs,h,hi⟩⟩
theorem apf{K:Fg9}{a:aZ}{xs:List V}:ItOf (Itl K a) xs fun H=>SqL K H a xs :=
 ⟨fun i H h hi=>⟨xs,xs[i],h,by simp[hi]⟩,fun i H x H' h y=>⟨y.1,fun _=>y.2 xs h⟩,fun i H h hi=>⟨xs,h,hi⟩⟩
def ups(lo:Int)(n:Nat):List V:=(aK n).map fun i=>V.int (lo+(i:Nat))
theorem ai8(lo:Int)(n:Nat):(ups lo n).length=n:=by simp[ups]
theorem aze{lo:Int}{n i:Nat}(h:i < n):(ups lo n)[i]? = some (.int (lo+(i:Nat))):=by
 unfold ups;rw[bA,cB h];rfl
theorem ape{lo:Int}{n:Nat}:ItOf (Itr lo n) (ups lo n) fun _=>True :=
 ⟨fun i H _ hi=>by rw[ai8] at hi;exact hi,fun i H x H' _ y=>⟨y.1,fun hi=>by rw[ai8] at hi;rw[aze hi,y.2]⟩,fun i H _ hi=>by rw[ai8] at hi;exact hi⟩
section
variable{X:Cx}
def rAll(K:Fg9):List V->Hp->VK->Prop:=fun xs H Q=>∃(p:aZ) (bs:List Bool),xs=[.ref p]/\SqL K H p (bs.map V.bl)/\Q (.bl (bs.all id)) H
theorem ax0(hc:X.calm=true):abv X (.builtin "all") (rAll X.K):=by
 intro zv s σ H xs us Q I r h;obtain⟨p,bs,rfl,hq,q⟩:=h;obtain⟨u,rfl,ru⟩:=vals1 r;cases ru;obtain⟨its,rv,pl,hz⟩:=I.list hq;have hl:=pl.isList;have hlen:=rv.length;rw[aW] at hlen;have hlt:p < s.heap.objs.size:=by obtain⟨_,e,_⟩:=hl;exact aP e
 refine call_all_walk (wpAny_pyIter_list hl ?_);refine⟨s.heap.objs.size,[s.heap.objs.size,p],[s.heap.objs.size],its.toArray.size,_,_,fun i=>(bs[i]?).getD true,rfl,Walks.list (A:=X.A.in1) (I.ok.hd hc) _ p (bI hlt) its.toArray,
  ⟨⟨_,aO _ rfl,rfl,rfl⟩,hl.push _⟩,fun i v s' Q' E' hP hQ =>?_,fun h' tk hk =>?_⟩
 ·have hi:its[i]? = some v:=by simpa using hP
  cases e:bs[i]? with
  | none =>
   have h1:bs.length<=i:=List.getElem?_eq_none_iff.mp e;have h2:i < its.length:=(aQ.mp hi).1;omega
  | some b =>
   obtain⟨u,hu,ru⟩:=rv.get (i:=i) (x:=V.bl b) (by rw[bA,e];rfl)
   rw[hi] at hu;cases hu;obtain rfl:v=rC b:=ru;simp only[e,Option.getD_some] at hQ;exact wpAny_truthy_bool hQ
 ·have e:((aK its.toArray.size).all fun i=>(bs[i]?).getD true)=bs.all id:=by
   rw[aY,<-hlen];exact LSm.range_all bs
  rw[e];exact⟨.bl (bs.all id),H,I.kept (t':=tk) (uM hk),rfl,q⟩
end
def Dfn(P:cF)(w:dR)(K:Fg9)(mg:Str->Option aG)(base:fH)(x:Str)(ps:List Str)(k:Nat)(sp:Sp):Prop :=
 ∃(f:aZ) (fd:fX),FnOk P w K mg base CX0 k f fd ps sp/\mg x=some (.ref f)/\nY K (.ref f)=true/\Binds K fd ps []
section
variable{X:Cx}{x:Str}{ps:List Str}{k:Nat}{sp:Sp}{e:dW}{es:List dW}{t:TA}{p pos:Pos}
theorem a8i(F:Dfn X.prog X.w X.K X.mg X.base x ps k sp)(hr:Room k X.A)(hg:Gl X x)(ha:PA X (e::es) t)(hdb:(x==("__debug__" : Str))=false:=by decide)
  (he:aX (e::es) X.env=(false,eval e X.env)::aX es X.env:=by rfl) (hpl:(jB pos (aX es X.env)).any (·.1)=false:=by rfl):PE X (.Call (.Name x p) (e::es) [] pos) (azn sp [] E0 t):=by
 obtain⟨f,fd,F,hm,hk,hb⟩:=F;exact a0h F hr hg hm hk hb .nil a8k ha hdb he hpl
theorem aqj{T:String}(hg:Gl X x)(hm:X.mg x=none)(hv:bT x=some (.type T))(hn:x ≠ "__name__" := by decide)(hd:(x==("__debug__" : Str))=false:=by decide):PE X (.Name x pos) (tC (.ty T)) :=
 a0i hg hm hv rfl hn hd
end
section
variable{X:Cx}
end
section
variable{prog:cF}{w:dR}{A:cQ}{E:aG->aJ->Prop}{s:aJ}
theorem axy{t b:aZ}{vs ws:List aG}{Q:aG->aJ->Prop}(ht:xP s.heap t vs.toArray)(hb:xP s.heap b ws.toArray)(hv:vs=[])(h:Q (.ref b) s):bK (bR prog w) A (gC .Add (.ref t) (.ref b)) Q E s:=by
 obtain⟨⟨cls,dd,data,sl⟩,ho,hc,n,hd⟩:=id ht;obtain⟨⟨cls2,dd2,data2,sl2⟩,ho2,hc2,n2,hd2⟩:=id hb;simp only at hc hd hc2 hd2;subst hc hd hc2 hd2;exact concat_meets ⟨_,ho,rfl⟩ ⟨_,ho2,rfl⟩ noFill_tuple_add seq_tuple_add pG oR (oE _ _)
  (tuple_addW0 t b vs.toArray ws.toArray n n2 dd dd2 sl sl2 (by simp[hv])) ⟨ho,ho2,h⟩
end
section
variable{X:Cx}
end
section
variable{X:Cx}
def a2y(x:Str)(n:Int):TE:=fun _ H Q=>∀p,H p=none->Q (.ref p) (upd H p (.dK [(mU x,.int n)]))
theorem awl{x:Str}{n:Int}{j1 j2:Nat}{p1 p2 pos:Pos}:PE X (.Dict [some (.Constant (.str x) j1 p1)] [.Constant (.int n) j2 p2] pos) (a2y x n):=by
 intro zv s σ H Q I q;have big:sysModules < s.heap.objs.size:=by
  have h:bB < s.heap.objs.size:=(I.mod.glob.keeps I.bk).lt;exact jC (by decide) h
 have hn:=I.hok.fresh (aL s.heap.objs.size);refine wpAny_Dict_walk (knd:=aj1 X.prog X.w) rfl rfl (by simp) (by show 1<=15;decide) ?_
 refine pairTrees_cons_walk (wO (wpAny_Constant_int (pairTrees_nil_walk ?_)));refine⟨[((mU x:Key),nZ n (s.toks+1))],⟨anr X.prog X.w x s.toks,rfl,oA⟩,Heap.DictOf.new s.heap,fun h' dd hs =>?_⟩
 refine⟨.ref s.heap.objs.size,upd H s.heap.objs.size (.dK [(mU x,.int n)]),?_,rfl,q _ hn⟩;refine I.laid (fun b u e=>hs.extBut b u (bI (aP e)) (aD _ e)) (aL _) ?_
 exact⟨by show 1<=cJ;decide,beq_eq_false_iff_ne.mpr (fU (bI big)),_,.cons ⟨rfl,_,rfl⟩ .nil,dd⟩
end
theorem abp:fillsNumberSlot (.type "tuple") "mul" = pure false :=
 PySem.fillsNumberSlot_seq (id := "tuple.__mul__") (r:=some (.builtin "tuple.__rmul__")) pD.lookup (by decide +kernel) xU.lookup (by decide +kernel)
theorem afz:seqRepeat? (.type "tuple")=pure (some (.builtin "tuple.__mul__")):=by
 unfold seqRepeat?;rw[yC (T := "tuple") (name := "__mul__") (id := "tuple.__mul__") pD.lookup (by decide +kernel),yC (T := "tuple") (name := "__rmul__") (id := "tuple.__rmul__") xU.lookup (by decide +kernel)]
 rfl
theorem ac7(a:Int)(t:Tok)(l:aZ)(items:Array aG)(n:Nat)(dd:Option aZ)(sl:Array (Option aG)) :
  Meets (kJ.«int.__rmul__» ⟨[.int a t,.ref l],[]⟩) (fun _ R s=>s.heap.get? l=some { cls:=.type "tuple", dict:=dd,data:=.seq items n,slots:=sl }/\R (.ok (.ret vD)) s) :=
 .of_wp fun prog w A R s h=>by obtain⟨hp,g,d,tk,os⟩:=s;obtain⟨hl,h⟩:=h;wp_walk;exact⟨_,rfl,h⟩
theorem ap5(l:aZ)(items:Array aG)(n:Nat)(dd:Option aZ)(sl:Array (Option aG))(x:Int)(u:Tok)(h0:items.isEmpty=false)(h2:2<=x)(h63:x < 2 ^ 63)(hsz:items.size*x.toNat<=cJ) :
  Meets (kJ.«tuple.__mul__» ⟨[.ref l,.int x u],[]⟩) (fun _ R s=>s.heap.get? l=some { cls:=.type "tuple", dict:=dd,data:=.seq items n,slots:=sl } /\
   R (.ok (.ret (dJ s.heap.objs.size))) { s with heap:=s.heap.push { cls:=jR "tuple", data:=Data.seq (mQ (fun x1 x2=>x1++x2) #[] (aU x.toNat items)) },toks:=s.toks }) :=
 .of_wp fun prog w A R s h=>by
  obtain⟨hp,g,d,tk,os⟩:=s;obtain⟨hl,h⟩:=h;have c1:(decide (x < -2 ^ 63)||decide (x≥2 ^ 63))=false:=by
   rw[vL];exact⟨decide_eq_false (by omega),decide_eq_false (by omega)⟩
  have c2:(items.isEmpty||x==1)=false:=by
   rw[h0,Bool.false_or,beq_eq_false_iff_ne];omega
  have c3:(decide (x<=0)||items.isEmpty)=false:=by
   rw[h0,zR];exact decide_eq_false (by omega)
  have e4:((items.size:Int)*x)=((items.size*x.toNat:Nat):Int):=by
   have:x=(x.toNat:Int):=by omega
   rw[iK,<-this]
  have h4:(cJ:Int)<=(2 ^ 63 - 1) / 8:=by decide
  have c4:¬((items.size:Int)*x > (2 ^ 63 - 1) / 8):=by rw[e4];omega
  have c5:tO ((items.size:Int)*x)=false:=by
   unfold tO;rw[e4];exact decide_eq_false (by omega)
  wp_walk;refine wpAny_ite_false (by rw[c1];rfl) ?_
  wp_walk;refine wpAny_ite_false (by rw[c2];rfl) ?_
  try dsimp only
  refine wpAny_ite_false (by rw[c3];rfl) ?_
  try dsimp only
  refine wpAny_ite_false (decide_eq_false c4) ?_
  try dsimp only
  refine wpAny_ite_false (by rw[c5];rfl) ?_
  have hso:sizeOk (.seq (mQ (fun x1 x2=>x1++x2) #[] (aU x.toNat items))):=by
   show(mQ (fun x1 x2=>x1++x2) #[] (aU x.toNat items)).size<=cJ
   have hn:=foldl_rep items.toList x.toNat [];rw[bL] at hn;have hn':mQ (fun x1 x2=>x1++x2) #[] (aU x.toNat items)=(aU x.toNat items.toList).flatten.toArray:=hn
   rw[hn',aY,len_rep,bM,nD];exact hsz
  refine aA (m:=jA _) (bZ (aH ⟨_,rfl,h⟩) hso)
theorem ap6(l:aZ)(items:Array aG)(n:Nat)(dd:Option aZ)(sl:Array (Option aG))(x:Int)(u:Tok)(hx:x=1) :
  Meets (kJ.«tuple.__mul__» ⟨[.ref l,.int x u],[]⟩) (fun _ R s=>s.heap.get? l=some { cls:=.type "tuple", dict:=dd,data:=.seq items n,slots:=sl }/\R (.ok (.ret (dJ l))) s) :=
 .of_wp fun prog w A R s h=>by
  obtain⟨hp,g,d,tk,os⟩:=s;obtain⟨hl,h⟩:=h;have c1:(decide (x < -2 ^ 63)||decide (x≥2 ^ 63))=false:=by
   rw[vL];exact⟨decide_eq_false (by omega),decide_eq_false (by omega)⟩
  have c2:(items.isEmpty||x==1)=true:=by rw[hx];simp
  wp_walk;exact⟨_,rfl,h⟩
section
variable{X:Cx}
theorem a0m:OpR X (gC .Mult) (fun x y H Q=>∃a xs,x=.ref a/\y=.int 1/\H a=some (.tup xs)/\Q (.ref a) H):=by
 intro zv s σ H x y v u Q I rx ry h;obtain⟨a,xs,rfl,rfl,ha,q⟩:=h;cases rx;obtain⟨t,rfl⟩:=ry;obtain⟨its,r1,p1,_⟩:=I.tuple (SqT.of ha);obtain⟨⟨cls,dd,data,sl⟩,ho,hc,n,hd⟩:=id p1;simp only at hc hd;subst hc hd;exact wpAny_binaryOp_repeat_ref (T := "tuple") (U := "int") (by decide) ⟨_,ho,rfl⟩ (fun s'=>typeIs_int s' 1 t) abp sZ lV afz rZ.lookup
  (lD lV (typeIs_int s 1 t) sE (rJ _ _) (ac7 1 t a its.toArray n dd sl)
   ⟨ho,rfl,⟨_,ho,rfl⟩,lD pD ⟨_,ho,rfl⟩ xW (wM _ _) (ap6 a its.toArray n dd sl 1 t rfl) ⟨ho,⟨.ref a,H,I,rfl,q⟩⟩⟩)
def a3h:R2:=fun x y H Q=>∃a xs k,x=.ref a/\y=.int k/\H a=some (.tup xs)/\xs≠[]/\2<=k/\k < 2 ^ 63/\xs.length*k.toNat<=cJ/\∀p,H p=none->Q (.ref p) (upd H p (.tup (aU k.toNat xs).flatten))
theorem aws:OpR X (gC .Mult) a3h:=by
 intro zv s σ H x y v u Q I rx ry h;obtain⟨a,xs,k,rfl,rfl,ha,hx,h2,h63,hz,q⟩:=h;cases rx;obtain⟨t,rfl⟩:=ry;obtain⟨its,r1,p1,_⟩:=I.tuple (SqT.of ha);obtain⟨⟨cls,dd,data,sl⟩,ho,hc,n,hd⟩:=id p1;simp only at hc hd;subst hc hd;have hnew:mQ (fun x1 x2=>x1++x2) #[] (aU k.toNat its.toArray)=(aU k.toNat its).flatten.toArray:=by
  have:=foldl_rep its k.toNat [];rw[bL] at this;exact this
 refine wpAny_binaryOp_repeat_ref (T := "tuple") (U := "int") (by decide) ⟨_,ho,rfl⟩ (fun s'=>typeIs_int s' k t) abp sZ lV afz rZ.lookup
  (lD lV (typeIs_int s k t) sE (rJ _ _) (ac7 k t a its.toArray n dd sl)
   ⟨ho,rfl,⟨_,ho,rfl⟩,lD pD ⟨_,ho,rfl⟩ xW (wM _ _) (ap5 a its.toArray n dd sl k t ?_ h2 h63 ?_) ⟨ho,?_⟩⟩)
 ·cases its with
  | nil=>exact absurd (r1.nil_iff.mp rfl) hx
  | cons _ _=>rfl
 ·rw[aY,<-r1.length];exact hz
 ·rw[hnew];refine⟨.ref s.heap.objs.size,_,I.laid (t':=s.toks) (o:=.tup (aU k.toNat xs).flatten) (fun b ob q=>aD _ q) (aL _) ?_,rfl,q _ (I.hok.fresh (aL _))⟩
  exact⟨by rw[len_rep,nD];exact hz,_,r1.rep k.toNat,IsTp.new _ _⟩
end
section
variable{prog:cF}{w:dR}{A:cQ}{E:aG->aJ->Prop}{s:aJ}
theorem adx{t sl:aZ}{items:Array aG}{vl vu:aG}{lo hi:Option Int}{Q:aG->aJ->Prop}(ht:xP s.heap t items)(hs:s.heap.IsSliceOf sl vl vu .none)(pl:rK vl lo)(pu:rK vu hi)
  (h1:HT.sIx items.size 0 lo=0) (h2:HT.sIx items.size items.size hi=items.size) (h:Q (.ref t) s):bK (bR prog w) A (rA (.ref t) (.ref sl)) Q E s:=by
 obtain⟨os,hos,hcs,hds⟩:=id hs;have hTs:s.TypeIs (.ref sl) "slice" := ⟨os,hos,hcs⟩;unfold rA
 try with_reducible refine eU ?_
 first | refine aA (aH ?_) | skip
 refine aA (wpAny_sequenceKey ht.typeIs (by decide) ?_)
 refine aA (eE (name:=jO "__getitem__") ht.typeIs fB
  (eY fB ht.typeIs entry_tuple_getitem ?_ (args_tuple_getitem _ _)))
 show bK _ _ (tQ (.ref t) >>= _) _ _ s;refine aA (tupleItemsOf_ ht ?_);refine aA (wpAny_typeOf hTs ?_);rw[if_pos (by decide)]
 refine aA (HT.abo hs pl pu ?_);have hyes:(((HT.sIx items.size 0 lo:Nat):Int)==0&&(1:Int)==1&&(HT.sIx items.size items.size hi - HT.sIx items.size 0 lo)==items.size)=true:=by
  rw[h1,h2];simp
 show bK _ _ (if (((HT.sIx items.size 0 lo:Nat):Int)==0&&(1:Int)==1&&(HT.sIx items.size items.size hi - HT.sIx items.size 0 lo)==items.size)=true then _ else _) _ _ s
 rw[if_pos hyes];refine aA (aA (wpAny_typeOf ht.typeIs (aH ?_)));rw[if_pos (by decide)]
 exact aA (lB (aH ⟨_,rfl,aH h⟩))
end
section
variable{X:Cx}
end
section
variable{X:Cx}(K:Fg9)(hK:X.K=K)
include hK
variable{tg:dW}
end
theorem j0:bT "len" = some (.builtin "len"):=by decide +kernel
theorem ay6:bT "all" = some (.builtin "all"):=by decide +kernel
theorem bj:bT "isinstance" = some (.builtin "isinstance"):=by decide +kernel
theorem ay5:bT "max" = some (.builtin "max"):=by decide +kernel
theorem a6l:bT "min" = some (.builtin "min"):=by decide +kernel
theorem avm:bT "sorted" = some (.builtin "sorted"):=by decide +kernel
theorem avo:bT "divmod" = some (.builtin "divmod"):=by decide +kernel
theorem ay7:bT "abs" = some (.builtin "abs"):=by decide +kernel
theorem avn:bT "int" = some (.type "int"):=by decide +kernel
theorem avp:bT "bool" = some (.type "bool"):=by decide +kernel
theorem vz:bT "tuple" = some (.type "tuple"):=by decide +kernel
theorem acl:bT "list" = some (.type "list"):=by decide +kernel
theorem ax2:bT "range" = some (.type "range"):=by decide +kernel
theorem a6k:bT "set" = some (.type "set"):=by decide +kernel
theorem ami:bT "enumerate" = some (.type "enumerate"):=by decide +kernel
structure ExcK (K:Fg9) (C:aZ):Prop where
 ga:mR K (.ref C) "__getattribute__" = some (some (.builtin "BaseException.__getattribute__"))
 gh:mR K (.ref C) "__getattr__" = some none
 be:lL K C (.type "BaseException")=some true
 hd:lZ K C=true
 cl:mR K (.ref C) "__class__" = some (some (.builtin "object.__class__"))
 sp:lY K (.builtin "object.__class__") "__get__" = some (some (.builtin "getset_descriptor.__get__"))
 tk:pI K (.builtin "object.__class__")=some true
 ob:lL K C (.type "object")=some true
 no:∀T∈["int","bool","tuple","list","str","dict"],gU K (.ref C) (.type T)=some false
theorem an7{K:Fg9}{C:aZ}{od:Option Obj}{name:Str}{a g:aG}(hc:(lM K C).isSome=true)(ha:mR K (.ref C) name=some (some a))(hg:lY K a "__get__" = some (some g))(ht:pI K a=some true):pJ K C od name=some (.bind g a):=by
 obtain⟨cd,hc⟩:=uC.mp hc;unfold pJ;rw[hc,yE,ha,yE];simp[hg,ht]
section
variable{prog:cF}{w:dR}{A:cQ}{E:aG->aJ->Prop}{s:aJ}{K:Fg9}{x D:aZ}{ox:Obj}{od:Option Obj}{name:Str}
theorem axq{fill expr:Bool}{tk:Tok}{Q:aG->aJ->Prop}(X:K.In s.heap)(I:jK s.heap x ox D od)(k:ExcK K D)
  (h:bK (bR prog w) A.in1 (kJ.«object.__getattribute__» ⟨[.ref x,.str name tk],[]⟩)
   (fun fin s'=>match fin with | .done (.ret v)=>bK (bR prog w) A (handedOut v) Q E s' | _=>False) (fun _ _=>False) s) :
  bK (bR prog w) A (getAttrBy (.ref x) (.str name tk) fill expr) Q E s:=by
 obtain⟨hh,g,d,t,os⟩:=s;have L0:=I.type (M:=bR prog w);have L1:=qD (M:=bR prog w) X k.ga;have L2:=qD (M:=bR prog w) X k.gh;have L3:jT (bR prog w) hh (isInstance (.ref x) (.type "BaseException")) true:=L0.andThen (vU X k.be);unfold getAttrBy;refine eU (aA (L0.at (aA (L1.at ?_))));have hx2:(mK "BaseException.__getattribute__" == mK "object.__getattribute__")=false:=by decide +kernel
 have hx1:(onTheHeap (dJ D)&&mK "BaseException.__getattribute__" == mK "object.__getattribute__")=false:=by rw[hx2,zF]
 simp only[hx1,jN,if_false];unfold getAttrByItsOwn hookBefore;rw[if_pos (show onTheHeap (dJ D)=true from rfl)]
 refine aA ?_;refine L2.at (aA (wpAny_attempt (eU ?_)));have hx0:(expr&&onTheHeap (mK "BaseException.__getattribute__"))=false:=by cases expr <;> rfl
 unfold callGetattribute;rw[if_neg (by rw[hx0];exact dG)]
 unfold boundAndCalled;refine aA (wpAny_of_eq (uH.ga.bind (.ref x)) ?_);have hk1:builtinKind "BaseException.__getattribute__" = some .slot:=by decide +kernel
 have hs1:splitId "BaseException.__getattribute__" = some ("BaseException","__getattribute__"):=by decide +kernel
 have ha1:=PySem.F.args_bexc_ga (.ref x) (.str name tk);dsimp only[dO,bL];refine mO (codeAny_call_builtin (id := "BaseException.__getattribute__") (args:=⟨[.ref x,.str name tk],[]⟩) uH.ga.plain PySem.F.entry_bexc_ga ?_);refine wF (i := "BaseException.__getattribute__") (owner := "BaseException") (n := "__getattribute__") (self:=.ref x) (rest:=[.str name tk]) (kw:=[]) hk1 hs1 L3 ha1 ?_;refine bC h (fun fin s' z =>?_) fun _ _ z=>z.elim
 rcases fin with(_ | _ | _ | _) | _ <;> first | exact z | exact z.elim
theorem axs{g a:aG}{tk:Tok}{P:aG->aJ->Prop}(X:K.In s.heap)(I:jK s.heap x ox D od)(hf:pJ K D od name=some (.bind g a))
  (h:bK (bR prog w) A (call g [a,.ref x,.ref D]) P E s) :
  bK (bR prog w) A (kJ.«object.__getattribute__» ⟨[.ref x,.str name tk],[]⟩) (fun fin s'=>match fin with | .done (.ret v)=>P v s' | _=>False) E s:=by
 obtain⟨hh,gg,d,t,os⟩:=s;have L0:=I.type (M:=bR prog w);have L1:=PySem.W.looks_find (M:=bR prog w) X I hf;unfold kJ.«object.__getattribute__»
 refine aA (aH (aA (aH (aA (L0.at (aA (L1.at ?_)))))));show bK _ _ (Builtin.ObjectAttr.bindTo g a (.ref x) (.ref D)) _ _ _;show bK _ _ (nJ [a] (call g [a,.ref x,.ref D]) >>= ret) _ _ _;exact aA (eU (bC h (fun v s' z=>aH z) fun _ _ z=>z))
end
theorem apd{K:Fg9}{x D:aZ}(k:ExcK K D):PySem.W.KitX K (.ref x) (.ref D) (fun h=>∃ox od,jK h x ox D od) where
 ty:=fun _ _ _ ⟨_,_,I⟩=>I.type
 it:=fun _ _ X _=>by
  obtain⟨cdD,hcD,_⟩:=kY k.hd;unfold lM at hcD;split at hcD
  ·rename_i c' d' cd' sl' ho;intro A' Q' E' s' k q;unfold isType loadHead;exact aA (wpAny_loadPart (k _ _ (X _ _ ho)) (aH q))
  ·cases hcD
 ne:=fun h tp dd its n sl X htp=>by
  obtain⟨cdD,hcD,_⟩:=kY k.hd;refine Bool.eq_false_iff.mpr fun q =>?_
  have e:D=tp:=zG (beq_iff_eq.mp q);subst e;unfold lM at hcD;split at hcD
  ·rename_i c' d' cd' sl' ho;have z:=(X _ _ ho).symm.trans htp;cases z
  ·cases hcD
 ca:=fun{prog w A E Q s} X ⟨ox,od,I⟩ q=>by
  have hf:pJ K D od "__class__" = some (.bind (.builtin "getset_descriptor.__get__") (.builtin "object.__class__")):=an7 (by obtain⟨cd,hc,_⟩:=kY k.hd;rw[hc];rfl) k.cl k.sp k.tk
  unfold getAttr? getAttrBy?;refine aA (wpAny_mkText (aA (wpAny_attempt (axq (s:={ s with toks:=s.toks+1 }) X I k (axs (s:={ s with toks:=s.toks+1 }) X I hf
   (mO (PySem.W.class_get (s:={ s with toks:=s.toks+1 }) (ox:=ox) (od:=od) X I k.ob (PySem.W.handed_on rfl (aH q)))))))))
end Mn
namespace Dn
open L2 Mn
inductive D where
 | non | bl (b:Bool) | int (i:Int) | str (x:Str) | tup (l:List D) | lst (l:List D) | kst (l:List D) | dct (kvs:List (Key×D)) | exn (c:Str) (fs:List (Str×Int))
def exO(a C:aZ)(dx:Option aZ):fH->Prop:=fun h=>∃oe vs,h.get? a=some oe/\oe.cls=.ref C/\oe.dict=dx/\oe.data=.fields vs
section
variable(K:Fg9)(F:Hp)
mutual
inductive Is:D->V->Prop
 | non:Is .non .non
 | bl (b:Bool):Is (.bl b) (.bl b)
 | int (i:Int):Is (.int i) (.int i)
 | str (x:Str):Is (.str x) (.str x)
 | tup {a:aZ} {vs:List V} {ds:List D} (e:F a=some (.tup vs)) (h:IsL ds vs):Is (.tup ds) (.ref a)
 | lst {a:aZ} {vs:List V} {ds:List D} (e:F a=some (.lst vs)) (h:IsL ds vs):Is (.lst ds) (.ref a)
 | kst {a:aZ} {vs:List V} {ds:List D} (e:SqL K F a vs) (h:IsL ds vs):Is (.kst ds) (.ref a)
 | dct {a:aZ} {kvs:List (Key×V)} {ds:List (Key×D)} (e:F a=some (.dK kvs)) (h:IsK ds kvs):Is (.dct ds) (.ref a)
 | exn {a C:aZ} {c:Str} {dx:Option aZ} {fs:List (Str×Int)} (e:F a=some (.ext (exO a C dx))) (hc:nsIn K bB c=some (some (.ref C))) (hk:ExcK K C)
   (hf:(dx=none/\fs=[])∨∃d,dx=some d/\F d=some (.xd (fs.map fun p=>(p.1,V.int p.2)))):Is (.exn c fs) (.ref a)
inductive IsL:List D->List V->Prop
 | nil:IsL [] []
 | cons {d:D} {v:V} {ds:List D} {vs:List V} (h:Is d v) (t:IsL ds vs):IsL (d::ds) (v::vs)
inductive IsK:List (Key×D)->List (Key×V)->Prop
 | nil:IsK [] []
 | cons {k:Key} {d:D} {v:V} {ds:List (Key×D)} {vs:List (Key×V)} (h:Is d v) (t:IsK ds vs):IsK ((k,d)::ds) ((k,v)::vs)
end
end
section
variable{K:Fg9}{F F':Hp}
mutual
theorem Is.mono(g:Same F F'):∀{d:D} {v:V},Is K F d v->Is K F' d v
 | _,_,.non=>.non
 | _,_,.bl b=>.bl b
 | _,_,.int i=>.int i
 | _,_,.str x=>.str x
 | _,_,.tup e h=>.tup (g _ _ e) (IsL.mono g h)
 | _,_,.lst e h=>.lst (g _ _ e) (IsL.mono g h)
 | _,_,.kst e h=>.kst (L2.Same.seq g e) (IsL.mono g h)
 | _,_,.dct e h=>.dct (g _ _ e) (IsK.mono g h)
 | _,_,.exn e hc hk hf=>.exn (g _ _ e) hc hk (hf.imp id fun⟨d,h1,h2⟩=>⟨d,h1,g _ _ h2⟩)
theorem IsL.mono(g:Same F F'):∀{ds:List D} {vs:List V},IsL K F ds vs->IsL K F' ds vs
 | _,_,.nil=>.nil
 | _,_,.cons h t=>.cons (Is.mono g h) (IsL.mono g t)
theorem IsK.mono(g:Same F F'):∀{ds:List (Key×D)} {vs:List (Key×V)},IsK K F ds vs->IsK K F' ds vs
 | _,_,.nil=>.nil
 | _,_,.cons h t=>.cons (Is.mono g h) (IsK.mono g t)
end
theorem IsL.length:∀{ds:List D} {vs:List V},IsL K F ds vs->ds.length=vs.length
 | _,_,.nil=>rfl
 | _,_,.cons _ t=>by simp[IsL.length t]
theorem IsL.append:∀{ds es:List D} {vs ws:List V},IsL K F ds vs->IsL K F es ws->IsL K F (ds++es) (vs++ws)
 | _,_,_,_,.nil,h=>h
 | _,_,_,_,.cons h t,k=>.cons h (IsL.append t k)
theorem IsL.take:∀{ds:List D} {vs:List V} (n:Nat),IsL K F ds vs->IsL K F (ds.take n) (vs.take n)
 | _,_,0,_=>by simpa using IsL.nil
 | _,_,_+1,.nil=>.nil
 | _,_,n+1,.cons h t=>.cons h (IsL.take n t)
theorem IsL.drop:∀{ds:List D} {vs:List V} (n:Nat),IsL K F ds vs->IsL K F (ds.drop n) (vs.drop n)
 | _,_,0,h=>h
 | _,_,_+1,.nil=>.nil
 | _,_,n+1,.cons _ t=>IsL.drop n t
theorem IsL.get:∀{ds:List D} {vs:List V} {i:Nat} {d:D},IsL K F ds vs->ds[i]? = some d->∃v,vs[i]? = some v/\Is K F d v
 | _,_,_,_,.nil,e=>by simp at e
 | _,_,0,_,.cons h _,e=>by simp at e;subst e;exact⟨_,rfl,h⟩
 | _,_,i+1,v,.cons _ t,e=>by
  obtain⟨d,h1,h2⟩:=IsL.get (i:=i) (d:=v) t (by simpa using e)
  exact⟨d,by simpa using h1,h2⟩
theorem IsL.set{d:D}{v:V}(h:Is K F d v):∀{ds:List D} {vs:List V} (i:Nat),IsL K F ds vs->IsL K F (ds.set i d) (vs.set i v)
 | _,_,_,.nil=>.nil
 | _,_,0,.cons _ t=>.cons h t
 | _,_,i+1,.cons q t=>.cons q (IsL.set h i t)
theorem IsL.rep{ds:List D}{vs:List V}(h:IsL K F ds vs):∀k:Nat,IsL K F (aU k ds).flatten (aU k vs).flatten
 | 0=>by simpa using IsL.nil
 | k+1=>by
  rw[iH,iH,jX,jX];exact h.append (IsL.rep h k)
theorem IsL.int_inv:∀{ns:List Int} {vs:List V},IsL K F (ns.map D.int) vs->vs=ns.map V.int
 | [],_,.nil=>rfl
 | n::r,_,.cons (.int _) t=>by rw[aV,IsL.int_inv t]
theorem IsL.bl_inv:∀{ns:List Bool} {vs:List V},IsL K F (ns.map D.bl) vs->vs=ns.map V.bl
 | [],_,.nil=>rfl
 | n::r,_,.cons (.bl _) t=>by rw[aV,IsL.bl_inv t]
theorem agi:∀ns:List Int,IsL K F (ns.map D.int) (ns.map V.int)
 | []=>.nil
 | n::r=>.cons (.int n) (agi r)
end
inductive Sl where
 | emp | val (d:D) | own (t:Option Nat) (l:List D) | box (c:Str) (fs:List (Str×(Nat ⊕ D)))
abbrev Ro:=List Sl
def Owns(ρ:Ro)(σ:L2.St)(i:Nat)(a:aZ):Prop:=(∃t l,ρ[i]? = some (.own t l))/\σ[i]? = some (some (.ref a))
def Own(ρ:Ro)(σ:L2.St)(a:aZ):Prop:=∃i,Owns ρ σ i a
def SlOk(K:Fg9)(tg:Nat->aZ)(F H:Hp):Sl->Option V->Prop
 | .emp,_=>True
 | .val d,o=>∃v,o=some v/\Is K F d v
 | .own t l,o=>∃a vs,o=some (.ref a)/\F a=none/\H a=some (.lst vs)/\IsL K F l vs/\∀k,t=some k->tg k=a
 | .box c fs,o=>∃a C dx fvs,o=some (.ref a)/\F a=none/\H a=some (.ins C dx fvs)/\nsIn K bB c=some (some (.ref C))/\(∀f,fs.lookup f=none->fvs.lookup f=none)/\(∀f k,fs.lookup f=some (.inl k)->fvs.lookup f=some (.ref (tg k)))/\∀f d,fs.lookup f=some (.inr d)->∃v,fvs.lookup f=some v/\Is K F d v
structure Good (K:Fg9) (tg:Nat->aZ) (F H:Hp) (ρ:Ro) (σ:L2.St):Prop where
 sub:Same F H
 len:ρ.length=σ.length
 sl:∀(i:Nat) (s:Sl) (o:Option V),ρ[i]? = some s->σ[i]? = some o->SlOk K tg F H s o
 inj:∀(i j:Nat) (a:aZ),Owns ρ σ i a->Owns ρ σ j a->i=j
structure Ext (O O':aZ->Prop) (F H F' H':Hp):Prop where
 sub:Same F F'
 new:∀a o,F' a=some o->F a=some o∨H a=none∨O a
 keep:∀a o,H a=some o->¬O a->H' a=some o
 own:∀a,O' a->O a∨H a=none
 there:∀a,H' a=none->H a=none
theorem Ext.refl(O:aZ->Prop)(F H:Hp):Ext O O F H F H:=⟨fun _ _ e=>e,fun _ _ e=>.inl e,fun _ _ e _=>e,fun _ h=>.inl h,fun _ h=>h⟩
theorem Ext.trans{O O1 O2:aZ->Prop}{F H F1 H1 F2 H2:Hp}(a:Ext O O1 F H F1 H1)(b:Ext O1 O2 F1 H1 F2 H2):Ext O O2 F H F2 H2 where
 sub:=a.sub.trans b.sub
 new:=fun c o e=>by
  rcases b.new c o e with q | q | q
  ·exact a.new c o q
  ·exact .inr (.inl (a.there c q))
  ·rcases a.own c q with z | z
   ·exact .inr (.inr z)
   ·exact .inr (.inl z)
 keep:=fun c o e n=>b.keep c o (a.keep c o e n) fun z=>by
  rcases a.own c z with q | q
  ·exact n q
  ·rw[e] at q;cases q
 own:=fun c z=>by
  rcases b.own c z with q | q
  ·exact a.own c q
  ·exact .inr (a.there c q)
 there:=fun c z=>a.there c (b.there c z)
section
variable{K:Fg9}{tg:Nat->aZ}{F H F' H':Hp}{ρ ρ':Ro}{σ:L2.St}
theorem Good.ownAt(G:Good K tg F H ρ σ){a:aZ}(h:Own ρ σ a):F a=none/\∃vs,H a=some (.lst vs):=by
 obtain⟨i,⟨t,l,e⟩,q⟩:=h;obtain⟨b,vs,e1,f,e2,_⟩:=G.sl i _ _ e q;cases e1;exact⟨f,vs,e2⟩
theorem Good.grow(G:Good K tg F H ρ σ)(s:Same F F')(s':Same F' H')(k:∀a,Own ρ σ a->F' a=none/\H' a=H a)(kb:∀a C dx fvs,F a=none->H a=some (.ins C dx fvs)->F' a=none/\H' a=H a):Good K tg F' H' ρ σ where
 sub:=s'
 len:=G.len
 inj:=G.inj
 sl:=fun i sl o e q=>by
  have z:=G.sl i sl o e q;cases sl with
  | emp=>trivial
  | val d =>
   obtain⟨v,e1,h⟩:=z;exact⟨v,e1,h.mono s⟩
  | box c fs =>
   obtain⟨a,C,dx,fvs,e1,e2,e3,e4,e7,e5,e6⟩:=z;obtain⟨f1,f2⟩:=kb a C dx fvs e2 e3;exact⟨a,C,dx,fvs,e1,f1,f2.trans e3,e4,e7,e5,fun f d h=>(e6 f d h).imp fun v h=>⟨h.1,h.2.mono s⟩⟩
  | own t l =>
   obtain⟨a,vs,e1,f,e2,h,ht⟩:=z;have w:=k a ⟨i,⟨t,l,e⟩,by rw[q,e1]⟩
   exact⟨a,vs,e1,w.1,by rw[w.2];exact e2,h.mono s,ht⟩
theorem Same.put{p:aZ}(s:Same F H)(h:H p=none)(o:HO):Same (upd F p o) (upd H p o):=fun b u e=>by
 by_cases hb:b=p
 ·subst hb;rw[gw] at e ⊢
  exact e
 ·rw[cu hb] at e ⊢
  exact s b u e
theorem Good.freeF(G:Good K tg F H ρ σ){p:aZ}(h:H p=none):F p=none:=by
 cases e:F p with
 | none=>rfl
 | some o=>rw[G.sub p o e] at h;cases h
theorem Good.own_ne(G:Good K tg F H ρ σ){p a:aZ}(h:H p=none)(w:Own ρ σ a):a≠p:=by
 obtain⟨_,vs,e⟩:=G.ownAt w;exact jn e h
theorem Good.new(G:Good K tg F H ρ σ){p:aZ}(h:H p=none)(o:HO):Good K tg (upd F p o) (upd H p o) ρ σ :=
 G.grow (Same.new (G.freeF h) o) (Same.put G.sub h o) (fun a w=>by
  rw[cu (G.own_ne h w),cu (G.own_ne h w)];exact⟨(G.ownAt w).1,rfl⟩) fun a C dx fvs h1 h2=>by
  rw[cu (jn h2 h),cu (jn h2 h)];exact⟨h1,rfl⟩
theorem Good.newX(G:Good K tg F H ρ σ){p:aZ}(h:H p=none)(o:HO):Ext (Own ρ σ) (Own ρ σ) F H (upd F p o) (upd H p o) where
 sub:=Same.new (G.freeF h) o
 new:=fun a u e=>by
  by_cases ha:a=p
  ·subst ha;exact .inr (.inl h)
  ·rw[cu ha] at e;exact .inl e
 keep:=fun a u e _=>by rw[cu (jn e h)];exact e
 own:=fun a w=>.inl w
 there:=fun a e=>by
  by_cases ha:a=p
  ·subst ha;exact h
  ·rw[cu ha] at e;exact e
theorem Good.fresh(G:Good K tg F H ρ σ){p:aZ}(h:H p=none)(o:HO):Good K tg F (upd H p o) ρ σ :=
 G.grow (Same.refl F) (fun b u e=>by rw[cu (jn (G.sub b u e) h)];exact G.sub b u e) (fun a w=>by
  rw[cu (G.own_ne h w)];exact⟨(G.ownAt w).1,rfl⟩) fun a C dx fvs h1 h2=>⟨h1,cu (jn h2 h)⟩
theorem Good.freshX(G:Good K tg F H ρ σ){p:aZ}(h:H p=none)(o:HO):Ext (Own ρ σ) (Own ρ σ) F H F (upd H p o) where
 sub:=Same.refl F
 new:=fun a u e=>.inl e
 keep:=fun a u e _=>by rw[cu (jn e h)];exact e
 own:=fun a w=>.inl w
 there:=fun a e=>by
  by_cases ha:a=p
  ·subst ha;exact h
  ·rw[cu ha] at e;exact e
theorem Good.freeze(G:Good K tg F H ρ σ){p:aZ}{o:HO}(h:H p=some o)(n:¬Own ρ σ p)(hf:F p=none)(hi:∀C dx fs,o≠.ins C dx fs:=by intro _ _ _ z;cases z):Good K tg (upd F p o) H ρ σ :=
 G.grow (Same.new hf o) (fun b u e=>by
  by_cases hb:b=p
  ·subst hb;rw[gw] at e;cases e;exact h
  ·rw[cu hb] at e;exact G.sub b u e) (fun a w=>by
  have:a≠p:=fun z=>n (z▸w)
  rw[cu this];exact⟨(G.ownAt w).1,rfl⟩) fun a C dx fvs h1 h2=>by
  have:a≠p:=fun z=>by
   subst z;rw[h] at h2;exact hi _ _ _ (bU h2)
  rw[cu this];exact⟨h1,rfl⟩
end
end Dn
namespace Dn
open L2 Mn
structure Exn where
 cls:Str
 fs:List (Str×Int)
inductive Out (α:Type) where
 | ok (a:α) | exc (x:Exn)
abbrev M(α:Type):=Ro->Option (Out α×Ro)
noncomputable def M.bind{α β:Type}(m:M α)(k:α->M β):M β:=fun ρ=>match m ρ with
 | some (.ok a,ρ1)=>k a ρ1
 | some (.exc x,ρ1)=>some (.exc x,ρ1)
 | none=>none
noncomputable def ret{α:Type}(a:α):M α:=fun ρ=>some (.ok a,ρ)
noncomputable def lift{α:Type}(o:Option α):M α:=fun ρ=>match o with
 | some a=>some (.ok a,ρ)
 | none=>none
section
variable{α β:Type}
theorem bw{m:M α}{k:α->M β}{ρ ρ2:Ro}{b:β}(h:m.bind k ρ=some (.ok b,ρ2)):∃a ρ1,m ρ=some (.ok a,ρ1)/\k a ρ1=some (.ok b,ρ2):=by
 unfold M.bind at h;split at h
 ·exact⟨_,_,by assumption,h⟩
 ·cases h
 ·cases h
theorem ik{o:Option α}{ρ ρ2:Ro}{b:α}(h:lift o ρ=some (.ok b,ρ2)):o=some b/\ρ2=ρ:=by
 unfold lift at h;split at h
 ·cases h;exact⟨rfl,rfl⟩
 ·cases h
theorem kj{a b:α}{ρ ρ2:Ro}(h:ret a ρ=some (.ok b,ρ2)):a=b/\ρ2=ρ:=by
 unfold ret at h;cases h;exact⟨rfl,rfl⟩
@[simp] theorem a6u(a:α)(k:α->M β):(ret a).bind k=k a:=rfl
@[simp] theorem a5e(a:α):lift (some a)=ret a:=rfl
end
inductive Rv where
 | v (d:D) | fr (l:List D)
 | tf (d:D) (l:List D)
abbrev Rel(α:Type):=α->V->(H:Hp)->(O:aZ->Prop)->(F' H':Hp)->(O':aZ->Prop)->Prop
def relD(K:Fg9):Rel D:=fun d v _ _ F' _ _=>Is K F' d v
def Bor(K:Fg9)(F H:Hp)(d:D)(v:V):Prop:=Is K F d v∨∃a vs l,d=.lst l/\v=.ref a/\H a=some (.lst vs)/\IsL K F l vs
def relB(K:Fg9):Rel D:=fun d v _ _ F' H' _=>Bor K F' H' d v
def relR(K:Fg9):Rel Rv:=fun r v H O F' H' O'=>match r with
 | .v d=>Is K F' d v
 | .fr l=>∃a vs,v=.ref a/\(H a=none∨O a)/\F' a=none/\H' a=some (.lst vs)/\IsL K F' l vs/\¬O' a
 | .tf d l=>∃t u a vs,v=.ref t/\F' t=some (.tup [u,.ref a])/\Is K F' d u/\(H a=none∨O a)/\F' a=none/\H' a=some (.lst vs)/\IsL K F' l vs/\¬O' a
def T{α:Type}(K:Fg9)(rel:Rel α)(m:M α):TE:=fun σ H Q=>∃tg F ρ a ρ',Good K tg F H ρ σ/\m ρ=some (.ok a,ρ') /\
 ∀v H' F',Good K tg F' H' ρ' σ->Ext (Own ρ σ) (Own ρ' σ) F H F' H'->rel a v H (Own ρ σ) F' H' (Own ρ' σ)->Q v H'
structure EV (K:Fg9) (X:Cx) (e:dW) (m:M D):Prop where
 go:X.K=K->PE X e (T K (relD K) m)
instance {K:Fg9} {X:Cx} {e:dW} {m:M D}:CoeFun (EV K X e m) fun _=>X.K=K->PE X e (T K (relD K) m):=⟨EV.go⟩
structure EB (K:Fg9) (X:Cx) (e:dW) (m:M D):Prop where
 go:X.K=K->PE X e (T K (relB K) m)
instance {K:Fg9} {X:Cx} {e:dW} {m:M D}:CoeFun (EB K X e m) fun _=>X.K=K->PE X e (T K (relB K) m):=⟨EB.go⟩
structure ER (K:Fg9) (X:Cx) (e:dW) (m:M Rv):Prop where
 go:X.K=K->PE X e (T K (relR K) m)
instance {K:Fg9} {X:Cx} {e:dW} {m:M Rv}:CoeFun (ER K X e m) fun _=>X.K=K->PE X e (T K (relR K) m):=⟨ER.go⟩
theorem PE.imp{X:Cx}{e:dW}{t t':TE}(h:PE X e t)(w:∀σ H Q,t' σ H Q->t σ H Q):PE X e t':=fun zv s σ H Q I q=>h zv s σ H Q I (w σ H Q q)
section
variable{K:Fg9}{X:Cx}{e a b:dW}{pos:Pos}
theorem EV.toB{m:M D}(h:EV K X e m):EB K X e m:=EB.mk fun hk=>PE.imp (h hk) fun σ H Q ⟨tg,F,ρ,d,ρ',G,em,q⟩=>⟨tg,F,ρ,d,ρ',G,em,fun v H' F' G' x r=>q v H' F' G' x (.inl r)⟩
def M.v(m:M D):M Rv:=m.bind fun d=>ret (.v d)
theorem EV.toR{m:M D}(h:EV K X e m):ER K X e m.v:=ER.mk fun hk=>PE.imp (h hk) fun σ H Q hq0=>by
 obtain⟨tg,F,ρ,r,ρ',G,em,q⟩:=hq0;obtain⟨d,ρ1,e1,e2⟩:=bw em;obtain⟨rfl,rfl⟩:=kj e2;exact⟨tg,F,ρ,d,_,G,e1,fun v H' F' G' x r=>q v H' F' G' x r⟩
def Rv.d:Rv->D
 | .v d=>d
 | .fr l=>.lst l
 | .tf d l=>.tup [d,.lst l]
def M.d(m:M Rv):M D:=m.bind fun r=>ret r.d
theorem frz{tg:Nat->aZ}{O:aZ->Prop}{F H F' H':Hp}{ρ':Ro}{σ':L2.St}{r:Rv}{v:V}(G:Good K tg F' H' ρ' σ')(x:Ext O (Own ρ' σ') F H F' H')(h:relR K r v H O F' H' (Own ρ' σ')) :
  ∃F2,Good K tg F2 H' ρ' σ'/\Ext O (Own ρ' σ') F H F2 H'/\Is K F2 r.d v:=by
 cases r with
 | v d=>exact⟨F',G,x,h⟩
 | fr l =>
  obtain⟨a,vs,rfl,ha,hf,hh,hl,hn⟩:=h;refine⟨upd F' a (.lst vs),G.freeze hh hn hf,⟨x.sub.trans (Same.new hf _),fun b o e =>?_,x.keep,x.own,x.there⟩,.lst gw (hl.mono (Same.new hf _))⟩
  by_cases hb:b=a
  ·subst hb;exact .inr ha
  ·rw[cu hb] at e;exact x.new b o e
 | tf d l =>
  obtain⟨t,u,a,vs,rfl,ht,hd,ha,hf,hh,hl,hn⟩:=h;have hta:t≠a:=fun z=>by rw[z,hf] at ht;cases ht
  refine⟨upd F' a (.lst vs),G.freeze hh hn hf,⟨x.sub.trans (Same.new hf _),fun b o e =>?_,x.keep,x.own,x.there⟩,.tup (by rw[cu hta];exact ht) (.cons (hd.mono (Same.new hf _)) (.cons (.lst gw (hl.mono (Same.new hf _))) .nil))⟩
  by_cases hb:b=a
  ·subst hb;exact .inr ha
  ·rw[cu hb] at e;exact x.new b o e
theorem ER.toD{m:M Rv}(h:ER K X e m):EV K X e m.d:=EV.mk fun hk=>PE.imp (h hk) fun σ H Q hq0=>by
 obtain⟨tg,F,ρ,d,ρ',G,em,q⟩:=hq0;obtain⟨r,ρ1,e1,e2⟩:=bw em;obtain⟨rfl,rfl⟩:=kj e2;refine⟨tg,F,ρ,r,_,G,e1,fun v H' F' G' x w =>?_⟩
 obtain⟨F2,G2,x2,i2⟩:=frz G' x w;exact q v H' F2 G2 x2 i2
noncomputable def dw(i:Nat):M D:=fun ρ=>match ρ[i]? with
 | some (.val d)=>some (.ok d,ρ)
 | some (.own _ l)=>some (.ok (.lst l),ρ)
 | _=>none
theorem Good.at{tg:Nat->aZ}{F H:Hp}{ρ:Ro}{σ:L2.St}(G:Good K tg F H ρ σ){i:Nat}{s:Sl}(e:ρ[i]? = some s):∃o,σ[i]? = some o/\SlOk K tg F H s o:=by
 have hi:i < σ.length:=by rw[<-G.len];exact(aQ.mp e).1
 exact⟨σ[i],aF hi,G.sl i s _ e (aF hi)⟩
theorem sy{tg:Nat->aZ}{F H:Hp}{ρ ρ':Ro}{σ:L2.St}(G:Good K tg F H ρ σ){i:Nat}{d:D}(em:dw i ρ=some (.ok d,ρ')):ρ'=ρ/\∃v,σ[i]? = some (some v)/\Bor K F H d v:=by
 unfold dw at em;split at em
 ·rename_i d' e';cases em;obtain⟨o,ho,v,rfl,hv⟩:=G.at e';exact⟨rfl,v,ho,.inl hv⟩
 ·rename_i t l e';cases em;obtain⟨o,ho,a,vs,rfl,hf,hh,hl,_⟩:=G.at e';exact⟨rfl,_,ho,.inr ⟨a,vs,l,rfl,rfl,hh,hl⟩⟩
 ·cases em
theorem cj{i:Nat}(h:PE X e (tVar i)):EB K X e (dw i):=EB.mk fun _=>PE.imp h fun σ H Q hq0=>by
 obtain⟨tg,F,ρ,d,ρ',G,em,q⟩:=hq0;obtain⟨rfl,v,ho,hv⟩:=sy G em;exact⟨v,ho,q v H F G (Ext.refl _ _ _) hv⟩
def afl(i:Nat):M Rv:=fun ρ=>match ρ[i]? with
 | some (.val d)=>some (.ok (.v d),ρ)
 | some (.own none l)=>some (.ok (.fr l),ρ.set i .emp)
 | _=>none
theorem Good.drop{tg:Nat->aZ}{F H:Hp}{ρ:Ro}{σ:L2.St}(G:Good K tg F H ρ σ)(i:Nat):Good K tg F H (ρ.set i .emp) σ:=by
 have sub:∀j t l,(dC ρ i Sl.emp)[j]? = some (Sl.own t l)->(ρ:List Sl)[j]? = some (Sl.own t l):=fun j t l e=>by
  rw[bG] at e;split at e
  ·split at e <;> cases e
  ·exact e
 refine⟨G.sub,by rw[dD];exact G.len,fun j s o e q =>?_,fun j k a ⟨⟨t,l,e⟩,q⟩ ⟨⟨t',l',e'⟩,q'⟩=>G.inj j k a ⟨⟨t,l,sub _ _ _ e⟩,q⟩ ⟨⟨t',l',sub _ _ _ e'⟩,q'⟩⟩
 rw[bG] at e;split at e
 ·split at e
  ·cases e;trivial
  ·cases e
 ·exact G.sl j s o e q
theorem agg{ρ:Ro}{σ:L2.St}{i:Nat}{a:aZ}(h:Own (ρ.set i .emp) σ a):Own ρ σ a/\∀t l,ρ[i]? = some (.own t l)->∀(inj:∀i j a,Owns ρ σ i a->Owns ρ σ j a->i=j),¬Owns ρ σ i a:=by
 obtain⟨j,⟨t,l,e⟩,q⟩:=h;rw[bG] at e;split at e
 ·split at e <;> cases e
 ·rename_i hne;have w:Owns ρ σ j a:=⟨⟨t,l,e⟩,q⟩;exact⟨⟨j,w⟩,fun t' l' _ inj z=>hne (inj _ _ _ z w)⟩
theorem aam{i:Nat}(h:PE X e (tVar i)):ER K X e (afl i):=ER.mk fun _=>PE.imp h fun σ H Q hq0=>by
 obtain⟨tg,F,ρ,d,ρ',G,em,q⟩:=hq0;unfold afl at em;split at em
 ·rename_i d' e';cases em;obtain⟨o,ho,v,rfl,hv⟩:=G.at e';exact⟨v,ho,q v H F G (Ext.refl _ _ _) hv⟩
 ·rename_i l e';cases em;obtain⟨o,ho,a,vs,rfl,hf,hh,hl,_⟩:=G.at e';have w:Owns ρ σ i a:=⟨⟨_,_,e'⟩,ho⟩;refine⟨_,ho,q _ H F (G.drop i) ⟨Same.refl _,fun _ _ e=>.inl e,fun _ _ e _=>e,fun b z=>.inl (agg z).1,fun _ z=>z⟩ ⟨a,vs,rfl,.inr ⟨i,w⟩,hf,hh,hl,fun z=>(agg z).2 _ _ e' G.inj w⟩⟩
 ·cases em
noncomputable def mVar(i:Nat):M D:=fun ρ=>match ρ[i]? with
 | some (.val d)=>some (.ok d,ρ)
 | some (.own none l)=>some (.ok (.lst l),ρ.set i (.val (.lst l)))
 | _=>none
theorem awq{ρ:Ro}{σ:L2.St}{i:Nat}{d:D}{a:aZ}(h:Own (ρ.set i (.val d)) σ a):Own (ρ.set i .emp) σ a:=by
 obtain⟨j,⟨t,l,e⟩,q⟩:=h;refine⟨j,⟨t,l,?_⟩,q⟩;rw[bG] at e ⊢
 split at e
 ·split at e <;> cases e
 ·rename_i hne;rw[if_neg hne];exact e
theorem Good.setv{tg:Nat->aZ}{F H:Hp}{ρ:Ro}{σ:L2.St}{i:Nat}{d:D}{v:V}(G:Good K tg F H (ρ.set i .emp) σ)(e:σ[i]? = some (some v))(h:Is K F d v):Good K tg F H (ρ.set i (.val d)) σ:=by
 have sub:∀j t l,(dC ρ i (Sl.val d))[j]? = some (Sl.own t l)->(dC ρ i Sl.emp)[j]? = some (Sl.own t l):=fun j t l z=>by
  rw[bG] at z ⊢
  split at z
  ·split at z <;> cases z
  ·rename_i hne;rw[if_neg hne];exact z
 refine⟨G.sub,by have:=G.len;rw[dD] at this ⊢;exact this,fun j s o z q =>?_,fun j k a ⟨⟨t,l,z⟩,q⟩ ⟨⟨t',l',z'⟩,q'⟩=>G.inj j k a ⟨⟨t,l,sub _ _ _ z⟩,q⟩ ⟨⟨t',l',sub _ _ _ z'⟩,q'⟩⟩
 by_cases hij:i=j
 ·subst hij;rw[bG,if_pos rfl] at z;split at z
  ·cases z;rw[e] at q;cases q;exact⟨v,rfl,h⟩
  ·cases z
 ·refine G.sl j s o ?_ q;rw[bG,if_neg hij] at z ⊢
  exact z
theorem az{i:Nat}(h:PE X e (tVar i)):EV K X e (mVar i):=EV.mk fun _=>PE.imp h fun σ H Q hq0=>by
 obtain⟨tg,F,ρ,d,ρ',G,em,q⟩:=hq0;unfold mVar at em;split at em
 ·rename_i d' e';cases em;obtain⟨o,ho,v,rfl,hv⟩:=G.at e';exact⟨v,ho,q v H F G (Ext.refl _ _ _) hv⟩
 ·rename_i l e';cases em;obtain⟨o,ho,a,vs,rfl,hf,hh,hl,_⟩:=G.at e';have w:Owns ρ σ i a:=⟨⟨_,_,e'⟩,ho⟩;have nown:¬Own (ρ.set i .emp) σ a:=fun z=>(agg z).2 _ _ e' G.inj w
  have G2:=(G.drop i).freeze hh nown hf;have i2:Is K (upd F a (.lst vs)) (.lst l) (.ref a):=.lst gw (hl.mono (Same.new hf _));refine⟨_,ho,q _ H _ (G2.setv ho i2) ⟨Same.new hf _,fun b o z =>?_,fun _ _ z _=>z,fun b z=>.inl (agg (awq z)).1,fun _ z=>z⟩ i2⟩
  by_cases hb:b=a
  ·subst hb;exact .inr (.inr ⟨i,w⟩)
  ·rw[cu hb] at z;exact .inl z
 ·cases em
theorem ev_c{d:D}{v:V}(h:PE X e (tC v))(hi:∀F,Is K F d v):EV K X e (ret d):=EV.mk fun _=>PE.imp h fun σ H Q hq0=>by
 obtain⟨tg,F,ρ,d',ρ',G,em,q⟩:=hq0;obtain⟨rfl,rfl⟩:=kj em;exact q v H F G (Ext.refl _ _ _) (hi F)
theorem bf{i:Int}{j:Nat}:EV K X (.Constant (.int i) j pos) (ret (.int i)):=ev_c a4c fun _=>.int i
theorem abu{i:Bool}{j:Nat}:EV K X (.Constant (.bool i) j pos) (ret (.bl i)):=ev_c a8j fun _=>.bl i
theorem ahk{j:Nat}:EV K X (.Constant .none j pos) (ret .non):=ev_c a4a fun _=>.non
theorem jh{i:Str}{j:Nat}:EV K X (.Constant (.str i) j pos) (ret (.str i)):=ev_c a3x fun _=>.str i
def T2(K:Fg9)(m:M (D×D))(σ:L2.St)(H:Hp)(R:V->V->Hp->Prop):Prop:=∃tg F ρ p ρ',Good K tg F H ρ σ/\m ρ=some (.ok p,ρ') /\
 ∀x y H' F',Good K tg F' H' ρ' σ->Ext (Own ρ σ) (Own ρ' σ) F H F' H'->Bor K F' H' p.1 x->Bor K F' H' p.2 y->R x y H'
structure E2 (K:Fg9) (X:Cx) (a b:dW) (m:M (D×D)):Prop where
 go:X.K=K->∃ta tb,PE X a ta/\PE X b tb/\∀σ H R,T2 K m σ H R->ta σ H fun x H1=>tb σ H1 fun y H2=>R x y H2
instance {K:Fg9} {X:Cx} {a b:dW} {m:M (D×D)}:CoeFun (E2 K X a b m) fun _=>X.K=K->∃ta tb,PE X a ta/\PE X b tb/\∀σ H R,T2 K m σ H R->ta σ H fun x H1=>tb σ H1 fun y H2=>R x y H2:=⟨E2.go⟩
def iu(m1 m2:M D):M (D×D):=m1.bind fun x=>m2.bind fun y=>ret (x,y)
def dh(i:Nat)(m2:M D):M (D×D):=(dw i).bind fun _=>m2.bind fun y=>(dw i).bind fun x=>ret (x,y)
theorem e2_v{m1 m2:M D}(ha:EV K X a m1)(hb:EB K X b m2):E2 K X a b (iu m1 m2):=E2.mk fun hk=>⟨_,_,ha hk,hb hk,fun σ H R hq0=>by
 obtain⟨tg,F,ρ,p,ρ',G,em,q⟩:=hq0;obtain⟨d1,ρ1,e1,em⟩:=bw em;obtain⟨d2,ρ2,e2,em⟩:=bw em;obtain⟨rfl,rfl⟩:=kj em;exact⟨tg,F,ρ,d1,ρ1,G,e1,fun x H1 F1 G1 x1 r1=>⟨tg,F1,ρ1,d2,_,G1,e2,fun y H2 F2 G2 x2 r2=>q x y H2 F2 G2 (x1.trans x2) (.inl (r1.mono x2.sub)) r2⟩⟩⟩
theorem e2_n{i:Nat}{m2:M D}(ha:PE X a (tVar i))(hb:EB K X b m2):E2 K X a b (dh i m2):=E2.mk fun hk=>⟨_,_,ha,hb hk,fun σ H R hq0=>by
 obtain⟨tg,F,ρ,p,ρ',G,em,q⟩:=hq0;obtain⟨d0,ρ0,e0,em⟩:=bw em;obtain⟨d2,ρ2,e2,em⟩:=bw em;obtain⟨d1,ρ1,e1,em⟩:=bw em;obtain⟨rfl,rfl⟩:=kj em;obtain⟨rfl,v,hv,_⟩:=sy G e0;exact⟨v,hv,tg,F,ρ0,d2,ρ2,G,e2,fun y H2 F2 G2 x2 r2=>by
  obtain⟨rfl,v',hv',b'⟩:=sy G2 e1;rw[hv] at hv';cases hv';exact q v y H2 F2 G2 x2 b' r2⟩⟩
end
section
variable{K:Fg9}{X:Cx}{e a b c:dW}{es:List dW}{pos p:Pos}
section
variable{F H:Hp}{x:V}
theorem Bor.lst{l:List D}(g:Same F H)(h:Bor K F H (.lst l) x):∃a vs,x=.ref a/\H a=some (.lst vs)/\IsL K F l vs:=by
 rcases h with h | ⟨a,vs,l',e1,e2,e3,h⟩
 ·cases h with
  | lst e h=>exact⟨_,_,rfl,g _ _ e,h⟩
 ·cases e1;exact⟨a,vs,e2,e3,h⟩
theorem Bor.tup{l:List D}(h:Bor K F H (.tup l) x):∃a vs,x=.ref a/\F a=some (.tup vs)/\IsL K F l vs:=by
 rcases h with h | ⟨a,vs,l',e1,_⟩
 ·cases h with
  | tup e h=>exact⟨_,_,rfl,e,h⟩
 ·cases e1
theorem Bor.kst{l:List D}(h:Bor K F H (.kst l) x):∃a vs,x=.ref a/\SqL K F a vs/\IsL K F l vs:=by
 rcases h with h | ⟨a,vs,l',e1,_⟩
 ·cases h with
  | kst e h=>exact⟨_,_,rfl,e,h⟩
 ·cases e1
theorem Bor.int{i:Int}(h:Bor K F H (.int i) x):x=.int i:=by
 rcases h with h | ⟨a,vs,l',e1,_⟩
 ·cases h;rfl
 ·cases e1
theorem Bor.bl{i:Bool}(h:Bor K F H (.bl i) x):x=.bl i:=by
 rcases h with h | ⟨a,vs,l',e1,_⟩
 ·cases h;rfl
 ·cases e1
theorem Bor.str{i:Str}(h:Bor K F H (.str i) x):x=.str i:=by
 rcases h with h | ⟨a,vs,l',e1,_⟩
 ·cases h;rfl
 ·cases e1
theorem Bor.non(h:Bor K F H .non x):x=.non:=by
 rcases h with h | ⟨a,vs,l',e1,_⟩
 ·cases h;rfl
 ·cases e1
end
def Res(K:Fg9)(tg:Nat->aZ)(F H:Hp)(ρ:Ro)(σ:L2.St)(r:Rv)(Q:VK):Prop :=
 ∀v H' F',Good K tg F' H' ρ σ->Ext (Own ρ σ) (Own ρ σ) F H F' H'->relR K r v H (Own ρ σ) F' H' (Own ρ σ)->Q v H'
section
variable{tg:Nat->aZ}{F H:Hp}{ρ:Ro}{σ:L2.St}{Q:VK}
theorem Res.same{d:D}{v:V}(G:Good K tg F H ρ σ)(q:Res K tg F H ρ σ (.v d) Q)(h:Is K F d v):Q v H:=q v H F G (Ext.refl _ _ _) h
theorem Res.tup{l:List D}{vs:List V}(G:Good K tg F H ρ σ)(q:Res K tg F H ρ σ (.v (.tup l)) Q)(h:IsL K F l vs){p:aZ}(hp:H p=none):Q (.ref p) (upd H p (.tup vs)) :=
 q _ _ _ (G.new hp _) (G.newX hp _) (.tup gw (h.mono (Same.new (G.freeF hp) _)))
theorem Res.lst{l:List D}{vs:List V}(G:Good K tg F H ρ σ)(q:Res K tg F H ρ σ (.fr l) Q)(h:IsL K F l vs){p:aZ}(hp:H p=none):Q (.ref p) (upd H p (.lst vs)) :=
 q _ _ _ (G.fresh hp _) (G.freshX hp _) ⟨p,vs,rfl,.inl hp,G.freeF hp,gw,h,fun z=>G.own_ne hp z rfl⟩
end
def rOf(K:Fg9)(g:D->D->Option Rv):R2:=fun x y H Q=>∃tg F ρ σ d1 d2 r,Good K tg F H ρ σ/\Bor K F H d1 x/\Bor K F H d2 y/\g d1 d2=some r/\Res K tg F H ρ σ r Q
structure OpD (K:Fg9) (X:Cx) (f:aG->aG->Sem aG) (g:D->D->Option Rv):Prop where
 go:X.K=K->OpR X f (rOf K g)
instance {K:Fg9} {X:Cx} {f:aG->aG->Sem aG} {g:D->D->Option Rv}:CoeFun (OpD K X f g) fun _=>X.K=K->OpR X f (rOf K g):=⟨OpD.go⟩
def mOp(g:D->D->Option Rv)(m:M (D×D)):M Rv:=m.bind fun p=>lift (g p.1 p.2)
theorem ao4{g:D->D->Option Rv}{m:M (D×D)}{ta tb:TE}(h:∀σ H R,T2 K m σ H R->ta σ H fun x H1=>tb σ H1 fun y H2=>R x y H2)(σ:L2.St)(H:Hp)(Q:VK)(t:T K (relR K) (mOp g m) σ H Q):tOp (rOf K g) ta tb σ H Q:=by
 obtain⟨tg,F,ρ,r,ρ',G,em,q⟩:=t;obtain⟨p,ρ1,e1,em⟩:=bw em;obtain⟨e2,rfl⟩:=ik em;refine h σ H _ ⟨tg,F,ρ,p,_,G,e1,fun x y H' F' G' x' bx by'=>⟨tg,F',_,σ,p.1,p.2,r,G',bx,by',e2,fun v H2 F2 G2 x2 rr=>q v H2 F2 G2 (x'.trans x2) ?_⟩⟩
 cases r with
 | v d=>exact rr
 | fr l =>
  obtain⟨a,vs,ev,ha,w⟩:=rr;refine⟨a,vs,ev,?_,w⟩;rcases ha with ha | ha
  ·exact .inl (x'.there a ha)
  ·exact(x'.own a ha).symm
 | tf d l =>
  obtain⟨t,u,a,vs,ev,ht,hd,ha,w⟩:=rr;refine⟨t,u,a,vs,ev,ht,hd,?_,w⟩;rcases ha with ha | ha
  ·exact .inl (x'.there a ha)
  ·exact(x'.own a ha).symm
theorem gk{op:Operator}{g:D->D->Option Rv}{m:M (D×D)}(ho:OpD K X (gC op) g)(h:E2 K X a b m):ER K X (.BinOp a op b pos) (mOp g m):=ER.mk fun hk=>by
 obtain⟨ta,tb,ha,hb,h⟩:=h hk;exact PE.imp (a8g (ho hk) ha hb) (ao4 h)
theorem aiz{op:uP}{g:D->D->Option Rv}{m:M (D×D)}(ho:OpD K X (fY op) g)(h:E2 K X a b m)(hm:jF op b=false):ER K X (.Compare a [op] [b] pos) (mOp g m):=ER.mk fun hk=>by
 obtain⟨ta,tb,ha,hb,h⟩:=h hk;exact PE.imp (a0g (ho hk) ha hb hm) (ao4 h)
def capS:Nat:=16777216
theorem ahv{n:Nat}(h:n<=capS):n<=cJ:=by rw[iV];exact h
def gAdd:D->D->Option Rv
 | .int i,.int j=>some (.v (.int (i+j)))
 | .tup l,.tup k=>if l.length+k.length<=capS then some (.v (.tup (l++k))) else none
 | .lst l,.lst k=>if l.length+k.length<=capS then some (.fr (l++k)) else none
 | .str i,.str j=>if i.length+j.length<=capS then some (.v (.str (i++j))) else none
 | _,_=>none
theorem jk:OpD K X (gC .Add) gAdd:=OpD.mk fun hk=>by
 intro zv s σ0 H x y v u Q I rx ry ⟨tg,F,ρ,σ,d1,d2,r,G,b1,b2,eg,q⟩;subst hk;unfold gAdd at eg;split at eg
 ·cases eg;obtain rfl:=b1.int;obtain rfl:=b2.int;exact a4n zv s σ0 H _ _ v u Q I rx ry ⟨_,_,rfl,rfl,Res.same G q (.int _)⟩
 ·split at eg
  ·rename_i hz;cases eg;obtain⟨a1,vs1,rfl,s1,i1⟩:=b1.tup;obtain⟨a2,vs2,rfl,s2,i2⟩:=b2.tup;have l1:=i1.length;have l2:=i2.length
   by_cases hx:vs1=[]
   ·subst hx;cases i1;cases rx;cases ry;obtain⟨its,r1,p1,_⟩:=I.tuple (SqT.of (G.sub _ _ s1));obtain⟨its2,r2,p2,_⟩:=I.tuple (SqT.of (G.sub _ _ s2));exact axy p1 p2 (r1.nil_iff.mpr rfl) ⟨.ref a2,H,I,rfl,Res.same G q (.tup s2 i2)⟩
   ·refine a0n zv s σ0 H _ _ v u Q I rx ry ⟨a1,a2,vs1,vs2,rfl,rfl,SqT.of (G.sub _ _ s1),SqT.of (G.sub _ _ s2),hx,by rw[<-l1,<-l2];exact ahv hz,fun e =>?_,fun _ p hp=>Res.tup G q (i1.append i2) hp⟩
    subst e;cases i2;exact Res.same G q (.tup s1 (by simpa using i1))
  ·cases eg
 ·split at eg
  ·rename_i hz;cases eg;obtain⟨a1,vs1,rfl,s1,i1⟩:=b1.lst G.sub;obtain⟨a2,vs2,rfl,s2,i2⟩:=b2.lst G.sub;have l1:=i1.length;have l2:=i2.length;exact a4m zv s σ0 H _ _ v u Q I rx ry ⟨a1,a2,vs1,vs2,rfl,rfl,s1,s2,by rw[<-l1,<-l2];exact ahv hz,fun p hp=>Res.lst G q (i1.append i2) hp⟩
  ·cases eg
 ·split at eg
  ·rename_i hz;cases eg;obtain rfl:=b1.str;obtain rfl:=b2.str;exact aql zv s σ0 H _ _ v u Q I rx ry ⟨_,_,rfl,rfl,ahv hz,Res.same G q (.str _)⟩
  ·cases eg
 ·cases eg
def gInt(f:Int->Int->Option Int):D->D->Option Rv
 | .int i,.int j=>(f i j).map fun k=>.v (.int k)
 | _,_=>none
theorem anf{op:Operator}{f:Int->Int->Option Int}{C:Int->Int->Prop}{g:Int->Int->Int}(h:OpR X (gC op) (rI C fun i j=>.int (g i j)))(hf:∀i j k,f i j=some k->C i j/\k=g i j):OpD K X (gC op) (gInt f):=OpD.mk fun hk=>by
 intro zv s σ0 H x y v u Q I rx ry ⟨tg,F,ρ,σ,d1,d2,r,G,b1,b2,eg,q⟩;unfold gInt at eg;split at eg
 ·rename_i i j;obtain rfl:=b1.int;obtain rfl:=b2.int;cases z:f i j with
  | none=>rw[z] at eg;cases eg
  | some k =>
   rw[z] at eg;cases eg;obtain⟨h1,rfl⟩:=hf i j k z;exact h zv s σ0 H _ _ v u Q I rx ry ⟨_,_,rfl,rfl,h1,Res.same G q (.int _)⟩
 ·cases eg
def fSub(i j:Int):Option Int:=some (i - j)
def fMul(i j:Int):Option Int:=if (-18446744073709551616 < i/\i < 18446744073709551616)∨(-18446744073709551616 < j/\j < 18446744073709551616) then some (i*j) else none
theorem a4t{i j:Int}(h0:0 < j)(h:j < 1000000000000000000000000000000000000000000000000000000000000):sH i j=false:=by
 have e2:(2:Nat) ^ 200=1606938044258990275541962092341162602522202993782792835301376:=by decide +kernel
 have hl:j.natAbs.log2 < 200:=(Nat.log2_lt (by omega)).2 (by rw[e2];omega)
 have hd:¬(j.natAbs.log2 / 30+1 > 300):=by omega
 have hj:(j==0)=false:=by
  rw[beq_eq_false_iff_ne];omega
 unfold sH;simp only[hj,jN,if_false,hd,decide_false,uA]
theorem awt:OpR X (gC .FloorDiv) (rI (fun _ j=>0 < j/\j < 1000000000000000000000000000000000000000000000000000000000000) fun i j=>.int (i / j)):=opI fun i j _ _ _ _ _ hc q=>by
 have h1:(0:Int) < j:=hc.1;exact floordiv_int (by omega) (by rw[tL i (by omega)];exact q) (.inl (a4t hc.1 hc.2))
def fDiv(i j:Int):Option Int:=if 0 < j/\j < 1000000000000000000000000000000000000000000000000000000000000 then some (i / j) else none
def fMod(i j:Int):Option Int:=if 0 < j then some (i % j) else none
def fPow(i j:Int):Option Int:=if 0<=j/\j<=1000000/\i.natAbs < 18446744073709551616 then some (i ^ j.toNat) else none
theorem ab8:OpD K X (gC .Sub) (gInt fSub):=OpD.mk fun hk=>by
 intro zv s σ0 H x y v u Q I rx ry ⟨tg,F,ρ,σ,d1,d2,r,G,b1,b2,eg,q⟩;unfold gInt at eg;split at eg
 ·obtain rfl:=b1.int;obtain rfl:=b2.int;cases eg;exact a4h zv s σ0 H _ _ v u Q I rx ry ⟨_,_,rfl,rfl,Res.same G q (.int _)⟩
 ·cases eg
end
mutual
def toPy:D->PyData
 | .non=>.none
 | .bl b=>.bool b
 | .int i=>.int i
 | .str x=>.str x
 | .tup l=>.tuple (adc l)
 | .lst l=>.list (adc l)
 | .kst l=>.list (adc l)
 | .dct _=>.dict []
 | .exn _ _=>.dict []
def adc:List D->List PyData
 | []=>[]
 | d::r=>toPy d::adc r
end
def okD:Nat->D->Bool
 | _,.non=>true
 | _,.bl _=>true
 | _,.int _=>true
 | _,.str x=>PyData.strOk x
 | n+1,.tup l=>l.all (okD n)
 | n+1,.lst l=>l.all (okD n)
 | n+1,.kst l=>l.all (okD n)
 | _,_=>false
theorem ajy{n:Nat}(ih:∀d,okD n d=true->(toPy d).canLay0=true/\(toPy d).depth<=n):∀l:List D,l.all (okD n)=true->wX (adc l)=true/\yJ (adc l)<=n
 | [],_=>⟨rfl,eF _⟩
 | d::r,h=>by
  rw[oU,bH] at h;obtain⟨h1,h2⟩:=ih d h.1;obtain⟨h3,h4⟩:=ajy ih r h.2;refine⟨?_,?_⟩
  ·show(PyData.canLay0 (toPy d)&&wX (adc r))=true;rw[h1,h3];rfl
  ·show max (PyData.depth (toPy d)) (yJ (adc r))<=n;omega
theorem aca:∀(n:Nat) (d:D),okD n d=true->(toPy d).canLay0=true/\(toPy d).depth<=n
 | n,.non,_=>⟨rfl,eF _⟩
 | n,.bl _,_=>⟨rfl,eF _⟩
 | n,.int _,_=>⟨rfl,eF _⟩
 | n,.str x,h=>by
  refine⟨?_,eF _⟩;cases n <;> exact h
 | n+1,.tup l,h=>by
  obtain⟨h1,h2⟩:=ajy (aca n) l h;exact⟨h1,pC h2⟩
 | n+1,.lst l,h=>by
  obtain⟨h1,h2⟩:=ajy (aca n) l h;exact⟨h1,pC h2⟩
 | n+1,.kst l,h=>by
  obtain⟨h1,h2⟩:=ajy (aca n) l h;exact⟨h1,pC h2⟩
 | 0,.tup l,h=>by cases h
 | 0,.lst l,h=>by cases h
 | 0,.kst l,h=>by cases h
 | 0,.dct l,h=>by cases h
 | n+1,.dct l,h=>by cases h
 | 0,.exn _ _,h=>by cases h
 | n+1,.exn _ _,h=>by cases h
def eqD(a b:D):Bool:=rF (toPy a) (toPy b)
def eqDs:List D->List D->Bool
 | [],[]=>true
 | a::r,b::t=>eqD a b&&eqDs r t
 | _,_=>false
theorem ake:∀a b:List D,uI (adc a) (adc b)=eqDs a b
 | [],[]=>rfl
 | a::r,b::t=>by
  show(rF (toPy a) (toPy b)&&uI (adc r) (adc t))=_;rw[ake r t];rfl
 | [],_::_=>rfl
 | _::_,[]=>rfl
section
variable{K:Fg9}{X:Cx}
section
variable{zv:List (aZ×Obj)}{σ:L2.St}{F H:Hp}{s:aJ}
mutual
theorem aac(I:Inv X zv σ H s)(g:Same F H):∀{n:Nat} {d:D} {v:V} {u:aG},Is X.K F d v->okD n d=true->RelV v u->∃as,Reads s.heap u (toPy d) as
 | _,_,_,_,.non,_,r=>by cases r;exact⟨_,.none⟩
 | _,_,_,_,.bl b,_,r=>by cases r;exact⟨_,.bool b⟩
 | _,_,_,_,.int i,_,r=>by obtain⟨t,rfl⟩:=r;exact⟨_,.int i t⟩
 | _,_,_,_,.str i,_,r=>by obtain⟨t,rfl⟩:=r;exact⟨_,.str i t⟩
 | 0,_,_,_,.tup e h,k,r=>by cases k
 | n+1,_,_,_,.tup e h,k,r=>by
  cases r;obtain⟨its,rv,p1,_⟩:=I.tuple (SqT.of (g _ _ e));obtain⟨o,ho,hc,m,hd⟩:=p1;obtain⟨as,ra⟩:=ab6 I g h k rv;exact⟨_,.tuple ho hc hd (by simpa using ra)⟩
 | 0,_,_,_,.lst e h,k,r=>by cases k
 | n+1,_,_,_,.lst e h,k,r=>by
  cases r;obtain⟨its,rv,p1,_⟩:=I.list (SqL.of (g _ _ e));obtain⟨o,ho,hc,m,hd⟩:=p1.isList;obtain⟨as,ra⟩:=ab6 I g h k rv;exact⟨_,.list ho hc hd (by simpa using ra)⟩
 | 0,_,_,_,.kst e h,k,r=>by cases k
 | n+1,_,_,_,.kst e h,k,r=>by
  cases r;obtain⟨its,rv,p1,_⟩:=I.list (L2.Same.seq g e);obtain⟨o,ho,hc,m,hd⟩:=p1.isList;obtain⟨as,ra⟩:=ab6 I g h k rv;exact⟨_,.list ho hc hd (by simpa using ra)⟩
 | 0,_,_,_,.dct e h,k,r=>by cases k
 | n+1,_,_,_,.dct e h,k,r=>by cases k
 | 0,_,_,_,.exn ..,k,r=>by cases k
 | n+1,_,_,_,.exn ..,k,r=>by cases k
theorem ab6(I:Inv X zv σ H s)(g:Same F H):∀{n:Nat} {ds:List D} {vs:List V} {us:List aG},IsL X.K F ds vs->ds.all (okD n)=true->Vals vs us->∃as,ReadsAll s.heap us (adc ds) as
 | _,_,_,_,.nil,_,r=>by cases r;exact⟨_,.nil⟩
 | n,_,_,_,.cons h t,k,r=>by
  rw[oU,bH] at k;cases r with
  | cons r1 r2 =>
   obtain⟨as,ra⟩:=aac I g h k.1 r1;obtain⟨bs,rb⟩:=ab6 I g t k.2 r2;exact⟨_,.cons ra rb⟩
end
theorem aau(I:Inv X zv σ H s)(g:Same F H){n:Nat}{d:D}{v:V}{u:aG}(h:Bor X.K F H d v)(k:okD n d=true)(r:RelV v u):∃as,Reads s.heap u (toPy d) as:=by
 rcases h with h | ⟨a,vs,l,rfl,rfl,e,h⟩
 ·exact aac I g h k r
 ·cases r;cases n with
  | zero=>cases k
  | succ n =>
   obtain⟨its,rv,p1,_⟩:=I.list (SqL.of e);obtain⟨o,ho,hc,m,hd⟩:=p1.isList;obtain⟨as,ra⟩:=ab6 I g h k rv;exact⟨_,.list ho hc hd (by simpa using ra)⟩
end
def gEq(neg:Bool)(a b:D):Option Rv:=if okD 30 a&&okD 30 b then some (.v (.bl (if neg then !eqD a b else eqD a b))) else none
theorem af0(hu:X.A.units+64 < cLine):OpD K X (fY .Eq) (gEq false):=OpD.mk fun hk=>by
 intro zv s σ0 H x y v u Q I rx ry ⟨tg,F,ρ,σ,d1,d2,r,G,b1,b2,eg,q⟩;subst hk;unfold gEq at eg;split at eg
 ·rename_i ho;rw[bH] at ho;cases eg;obtain⟨as,ra⟩:=aau I G.sub b1 ho.1 rx;obtain⟨bs,rb⟩:=aau I G.sub b2 ho.2 ry;obtain⟨c1,p1⟩:=aca _ _ ho.1;obtain⟨c2,p2⟩:=aca _ _ ho.2;exact PySem.SeqAt.compareEq_reads ra rb c1 c2 (by omega) ⟨.bl _,H,I,rfl,Res.same G q (.bl _)⟩
 ·cases eg
theorem aad(hu:X.A.units+64 < cLine):OpD K X (fY .NotEq) (gEq true):=OpD.mk fun hk=>by
 intro zv s σ0 H x y v u Q I rx ry ⟨tg,F,ρ,σ,d1,d2,r,G,b1,b2,eg,q⟩;subst hk;unfold gEq at eg;split at eg
 ·rename_i ho;rw[bH] at ho;cases eg;obtain⟨as,ra⟩:=aau I G.sub b1 ho.1 rx;obtain⟨bs,rb⟩:=aau I G.sub b2 ho.2 ry;obtain⟨c1,p1⟩:=aca _ _ ho.1;obtain⟨c2,p2⟩:=aca _ _ ho.2;exact PySem.SeqAt.compareNe_reads ra rb c1 c2 (by omega) ⟨.bl _,H,I,rfl,Res.same G q (.bl _)⟩
 ·cases eg
def itemsD:D->Option (List D)
 | .tup l=>some l
 | .lst l=>some l
 | .kst l=>some l
 | _=>none
def gIn(neg:Bool)(a b:D):Option Rv:=match itemsD b with
 | some l=>if okD 30 a&&l.all (okD 30) then some (.v (.bl (if neg then !l.any (fun y=>eqD y a) else l.any (fun y=>eqD y a)))) else none
 | none=>none
open Classical in
noncomputable def aan(h:fH)(dx:PyData)(u:aG):Bool:=decide (∃d as,Reads h u d as/\d.canLay0=true/\rF d dx=true)
open Classical in
theorem agj{h:fH}{dx d:PyData}{u:aG}{as:List aZ}(r:Reads h u d as)(c:d.canLay0=true):aan h dx u=rF d dx:=by
 unfold aan;cases e:rF d dx with
 | true=>exact decide_eq_true ⟨d,as,r,c,e⟩
 | false =>
  refine decide_eq_false ?_
  rintro⟨d',as',r',c',e'⟩
  rw[<-PySem.SeqAt.Reads.unique d d' u as as' c r r'] at e';rw[e] at e';cases e'
theorem xj{zv:List (aZ×Obj)}{σ:L2.St}{F H:Hp}{s:aJ}(I:Inv X zv σ H s)(g:Same F H){a:D}{n:Nat}:∀{ds:List D} {vs:List V} {us:List aG},IsL X.K F ds vs->ds.all (okD n)=true->Vals vs us ->
  us.any (aan s.heap (toPy a))=ds.any (fun y=>eqD y a)/\∀u∈us,∃d as,Reads s.heap u d as/\d.canLay0=true/\d.depth<=n
 | _,_,_,.nil,_,r=>by cases r;exact⟨rfl,fun u hu=>by cases hu⟩
 | _,_,_,.cons h t,k,r=>by
  rw[oU,bH] at k;cases r with
  | cons r1 r2 =>
   obtain⟨as,ra⟩:=aac I g h k.1 r1;obtain⟨c,p⟩:=aca _ _ k.1;obtain⟨e,z⟩:=xj I g (a:=a) t k.2 r2;refine⟨?_,fun u hu =>?_⟩
   ·rw[zO,zO,e,agj ra c];rfl
   ·rcases bD.mp hu with rfl | hu
    ·exact⟨_,as,ra,c,p⟩
    ·exact z u hu
theorem vm{s:aJ}{A:cQ}(hu:A.units+64 < cLine){us:List aG}{a:D}{v:aG}{as:List aZ}(ra:Reads s.heap v (toPy a) as)(ka:okD 30 a=true)(z:∀u∈us,∃d as,Reads s.heap u d as/\d.canLay0=true/\d.depth<=30) :
  ∀u∈us,SeqAt.EqAt A.in1 s u v (aan s.heap (toPy a) u):=fun u hm=>by
 obtain⟨d,bs,rb,c,p⟩:=z u hm;obtain⟨c2,p2⟩:=aca _ _ ka;rw[agj rb c];refine PySem.SeqAt.eqAt_reads d (toPy a) A.in1 s u v bs as rb ra c c2 ?_;show A.units+1+_ < _;omega
theorem al4{a b:D}{neg:Bool}{r:Rv}(h:gIn neg a b=some r):∃l,itemsD b=some l/\okD 30 a=true/\l.all (okD 30)=true/\r=.v (.bl (if neg then !l.any (fun y=>eqD y a) else l.any (fun y=>eqD y a))):=by
 unfold gIn at h;split at h
 ·rename_i l e;split at h
  ·rename_i ho;rw[bH] at ho;cases h;exact⟨l,e,ho.1,ho.2,rfl⟩
  ·cases h
 ·cases h
theorem agu{F H:Hp}{d:D}{l:List D}{x:V}(g:Same F H)(e:itemsD d=some l)(h:Bor K F H d x):∃a vs,x=.ref a/\IsL K F l vs/\(SqL K H a vs∨SqT K H a vs):=by
 cases d with
 | tup k =>
  cases e;obtain⟨a,vs,rfl,e,h⟩:=h.tup;exact⟨a,vs,rfl,h,.inr (SqT.of (g _ _ e))⟩
 | lst k =>
  cases e;obtain⟨a,vs,rfl,e,h⟩:=h.lst g;exact⟨a,vs,rfl,h,.inl (SqL.of e)⟩
 | kst k =>
  cases e;obtain⟨a,vs,rfl,e,h⟩:=h.kst;exact⟨a,vs,rfl,h,.inl (L2.Same.seq g e)⟩
 | _=>cases e
theorem ayh(hu:X.A.units+64 < cLine):OpD K X (fY .In) (gIn false):=OpD.mk fun hk=>by
 intro zv s σ0 H x y v u Q I rx ry ⟨tg,F,ρ,σ,d1,d2,r,G,b1,b2,eg,q⟩;subst hk;obtain⟨l,e,k1,k2,rfl⟩:=al4 eg;obtain⟨as,ra⟩:=aau I G.sub b1 k1 rx;obtain⟨p,vs,rfl,hl,hs⟩:=agu G.sub e b2;cases ry;rcases hs with hs | hs
 ·obtain⟨its,rv,pl,_⟩:=I.list hs;obtain⟨ea,z⟩:=xj I G.sub (a:=d1) hl k2 rv;refine SeqAt.in_listAt (aan s.heap (toPy d1)) pl.isList (fun w hw=>vm hu ra k1 z w (by simpa using hw)) ⟨.bl _,H,I,rfl,?_⟩
  rw[show its.toArray.any (aan s.heap (toPy d1))=its.any (aan s.heap (toPy d1)) by simp,ea]
  exact Res.same G q (.bl _)
 ·obtain⟨its,rv,pl,_⟩:=I.tuple hs;obtain⟨ea,z⟩:=xj I G.sub (a:=d1) hl k2 rv;refine SeqAt.in_tupleAt (aan s.heap (toPy d1)) pl (fun w hw=>vm hu ra k1 z w (by simpa using hw)) ⟨.bl _,H,I,rfl,?_⟩
  rw[show its.toArray.any (aan s.heap (toPy d1))=its.any (aan s.heap (toPy d1)) by simp,ea]
  exact Res.same G q (.bl _)
theorem as6(hu:X.A.units+64 < cLine):OpD K X (fY .NotIn) (gIn true):=OpD.mk fun hk=>by
 intro zv s σ0 H x y v u Q I rx ry ⟨tg,F,ρ,σ,d1,d2,r,G,b1,b2,eg,q⟩;subst hk;obtain⟨l,e,k1,k2,rfl⟩:=al4 eg;obtain⟨as,ra⟩:=aau I G.sub b1 k1 rx;obtain⟨p,vs,rfl,hl,hs⟩:=agu G.sub e b2;cases ry;rcases hs with hs | hs
 ·obtain⟨its,rv,pl,_⟩:=I.list hs;obtain⟨ea,z⟩:=xj I G.sub (a:=d1) hl k2 rv;refine SeqAt.notIn_listAt (aan s.heap (toPy d1)) pl.isList (fun w hw=>vm hu ra k1 z w (by simpa using hw)) ⟨.bl _,H,I,rfl,?_⟩
  rw[show its.toArray.any (aan s.heap (toPy d1))=its.any (aan s.heap (toPy d1)) by simp,ea]
  exact Res.same G q (.bl _)
 ·obtain⟨its,rv,pl,_⟩:=I.tuple hs;obtain⟨ea,z⟩:=xj I G.sub (a:=d1) hl k2 rv;refine SeqAt.notIn_tupleAt (aan s.heap (toPy d1)) pl (fun w hw=>vm hu ra k1 z w (by simpa using hw)) ⟨.bl _,H,I,rfl,?_⟩
  rw[show its.toArray.any (aan s.heap (toPy d1))=its.any (aan s.heap (toPy d1)) by simp,ea]
  exact Res.same G q (.bl _)
end
end Dn
namespace Dn
open L2 Mn
section
variable{K:Fg9}{X:Cx}{e a b c:dW}{es:List dW}{pos p:Pos}
theorem ang:OpD K X (gC .FloorDiv) (gInt fDiv):=anf awt fun i j k h=>by
 unfold fDiv at h;split at h
 ·cases h;exact⟨by assumption,rfl⟩
 ·cases h
theorem adn:OpD K X (gC .Mod) (gInt fMod):=anf a4l fun i j k h=>by
 unfold fMod at h;split at h
 ·cases h;exact⟨by assumption,rfl⟩
 ·cases h
theorem as5:OpD K X (gC .Pow) (gInt fPow):=anf a4j fun i j k h=>by
 unfold fPow at h;split at h
 ·rename_i hc;cases h;exact⟨⟨hc.1,hc.2.1,hc.2.2⟩,rfl⟩
 ·cases h
def gMul:D->D->Option Rv
 | .int i,.int j=>(fMul i j).map fun k=>.v (.int k)
 | .tup l,.int k=>if k=1 then some (.v (.tup l)) else if l≠[]/\2<=k/\k < 9223372036854775808/\l.length*k.toNat<=capS then some (.v (.tup (aU k.toNat l).flatten)) else none
 | .lst l,.int k=>if k.natAbs < 9223372036854775808/\l.length*k.toNat<=capS then some (.fr (aU k.toNat l).flatten) else none
 | _,_=>none
theorem ag4:OpD K X (gC .Mult) gMul:=OpD.mk fun hk=>by
 intro zv s σ0 H x y v u Q I rx ry ⟨tg,F,ρ,σ,d1,d2,r,G,b1,b2,eg,q⟩;subst hk;unfold gMul at eg;split at eg
 ·rename_i i j;obtain rfl:=b1.int;obtain rfl:=b2.int;unfold fMul at eg;split at eg
  ·rename_i hc;cases eg;exact a4k zv s σ0 H _ _ v u Q I rx ry ⟨_,_,rfl,rfl,hc,Res.same G q (.int _)⟩
  ·cases eg
 ·rename_i l k;split at eg
  ·rename_i hk1;subst hk1;cases eg;obtain⟨a1,vs1,rfl,s1,i1⟩:=b1.tup;obtain rfl:=b2.int;exact a0m zv s σ0 H _ _ v u Q I rx ry ⟨a1,vs1,rfl,rfl,G.sub _ _ s1,Res.same G q (.tup s1 i1)⟩
  split at eg
  ·rename_i hc;obtain⟨h0,h2,h3,hz⟩:=hc;cases eg;obtain⟨a1,vs1,rfl,s1,i1⟩:=b1.tup;obtain rfl:=b2.int;have l1:=i1.length;refine aws zv s σ0 H _ _ v u Q I rx ry ⟨a1,vs1,k,rfl,rfl,G.sub _ _ s1,?_,h2,h3,by rw[<-l1];exact ahv hz,fun p hp=>Res.tup G q (i1.rep _) hp⟩
   intro z;subst z;cases i1;exact h0 rfl
  ·cases eg
 ·rename_i l k;split at eg
  ·rename_i hc;obtain⟨hab,hz⟩:=hc;have h0 : -9223372036854775808<=k:=by omega
   have h2:k < 9223372036854775808:=by omega
   cases eg;obtain⟨a1,vs1,rfl,s1,i1⟩:=b1.lst G.sub;obtain rfl:=b2.int;have l1:=i1.length;exact a4i zv s σ0 H _ _ v u Q I rx ry ⟨a1,k,vs1,rfl,rfl,s1,h0,h2,by rw[<-l1];exact ahv hz,fun p hp=>Res.lst G q (i1.rep _) hp⟩
  ·cases eg
 ·cases eg
def gCmp(f:Int->Int->Bool):D->D->Option Rv
 | .int i,.int j=>some (.v (.bl (f i j)))
 | _,_=>none
theorem anh{op:uP}{f:Int->Int->Bool}(h:OpR X (fY op) (rI0 fun i j=>.bl (f i j))):OpD K X (fY op) (gCmp f):=OpD.mk fun hk=>by
 intro zv s σ0 H x y v u Q I rx ry ⟨tg,F,ρ,σ,d1,d2,r,G,b1,b2,eg,q⟩;unfold gCmp at eg;split at eg
 ·cases eg;obtain rfl:=b1.int;obtain rfl:=b2.int;exact h zv s σ0 H _ _ v u Q I rx ry ⟨_,_,rfl,rfl,Res.same G q (.bl _)⟩
 ·cases eg
theorem ao2:OpD K X (fY .Lt) (gCmp fun i j=>decide (i < j)):=anh a8l
theorem a4g:OpD K X (fY .LtE) (gCmp fun i j=>decide (i<=j)):=anh as7
theorem ao3:OpD K X (fY .GtE) (gCmp fun i j=>decide (j<=i)):=anh a8m
def gNeg:D->Option D
 | .int i=>some (.int (-i))
 | _=>none
def mUn(g:D->Option D)(m:M D):M D:=m.bind fun d=>lift (g d)
theorem aey{m:M D}(h:EV K X a m):EV K X (.UnaryOp .USub a pos) (mUn gNeg m):=EV.mk fun hk=>PE.imp (a8f a2r (h hk)) fun σ H Q hq0=>by
 obtain⟨tg,F,ρ,d,ρ',G,em,q⟩:=hq0;obtain⟨d1,ρ1,e1,em⟩:=bw em;obtain⟨e2,rfl⟩:=ik em;refine⟨tg,F,ρ,d1,_,G,e1,fun v H' F' G' x r =>?_⟩
 cases d1 with
 | int i =>
  cases e2;cases r;exact⟨i,rfl,q _ H' F' G' x (.int _)⟩
 | _=>cases e2
def asB:D->Option Bool
 | .bl b=>some b
 | _=>none
def gNot(d:D):Option D:=(asB d).map fun k=>.bl (!k)
theorem apz{d:D}{k:Bool}(h:asB d=some k):d=.bl k:=by
 cases d with
 | bl b=>cases h;rfl
 | _=>cases h
theorem ayv{m:M D}(h:EV K X a m):EV K X (.UnaryOp .Not a pos) (mUn gNot m):=EV.mk fun hk=>PE.imp (a3z (h hk)) fun σ H Q hq0=>by
 obtain⟨tg,F,ρ,d,ρ',G,em,q⟩:=hq0;obtain⟨d1,ρ1,e1,em⟩:=bw em;obtain⟨e2,rfl⟩:=ik em;refine⟨tg,F,ρ,d1,_,G,e1,fun v H' F' G' x r =>?_⟩
 cases d1 with
 | bl i =>
  cases e2;cases r;exact⟨i,rfl,q _ H' F' G' x (.bl _)⟩
 | _=>cases e2
def mAnd(m1 m2:M D):M D:=m1.bind fun d=>(lift (asB d)).bind fun k=>if k=true then m2 else ret (.bl false)
theorem al7{op}{m:M D}(h:EV K X a m):EV K X (.BoolOp op [a] pos) m:=EV.mk fun hk=>a3y (h hk)
theorem aiy{m1 m2:M D}{rest:List dW}(h1:EV K X a m1)(h2:EV K X (.BoolOp .And (b::rest) pos) m2):EV K X (.BoolOp .And (a::b::rest) pos) (mAnd m1 m2):=EV.mk fun hk=>PE.imp (a4e (h1 hk) (h2 hk)) fun σ H Q hq0=>by
 obtain⟨tg,F,ρ,d,ρ',G,em,q⟩:=hq0;obtain⟨d1,ρ1,e1,em⟩:=bw em;obtain⟨k,ρ2,e2,em⟩:=bw em;obtain⟨e3,rfl⟩:=ik e2;obtain rfl:=apz e3;refine⟨tg,F,ρ,_,_,G,e1,fun v H' F' G' x r =>?_⟩
 cases r;refine⟨k,rfl,?_⟩;cases k with
 | true=>exact iteT ⟨tg,F',_,d,ρ',G',em,fun v2 H2 F2 G2 x2 r2=>q v2 H2 F2 G2 (x.trans x2) r2⟩
 | false =>
  obtain⟨rfl,rfl⟩:=kj (show ret (D.bl false) _=_ from em)
  exact iteF (q _ H' F' G' x (.bl _))
def TB(K:Fg9)(m:M Bool):TT:=fun σ H Q=>∃tg F ρ k ρ',Good K tg F H ρ σ/\m ρ=some (.ok k,ρ')/\∀H' F',Good K tg F' H' ρ' σ->Ext (Own ρ σ) (Own ρ' σ) F H F' H'->Q k H'
structure ET (K:Fg9) (X:Cx) (e:dW) (m:M Bool):Prop where
 go:X.K=K->PT X e (TB K m)
instance {K:Fg9} {X:Cx} {e:dW} {m:M Bool}:CoeFun (ET K X e m) fun _=>X.K=K->PT X e (TB K m):=⟨ET.go⟩
structure EW (K:Fg9) (X:Cx) (e:dW) (m:M Bool):Prop where
 go:X.K=K->PW X e (TB K m)
instance {K:Fg9} {X:Cx} {e:dW} {m:M Bool}:CoeFun (EW K X e m) fun _=>X.K=K->PW X e (TB K m):=⟨EW.go⟩
theorem PT.imp{t t':TT}(h:PT X e t)(w:∀σ H Q,t' σ H Q->t σ H Q):PT X e t':=fun zv s σ H Q I q=>h zv s σ H Q I (w σ H Q q)
theorem PW.imp{t t':TT}(h:PW X e t)(w:∀σ H Q,t' σ H Q->t σ H Q):PW X e t':=fun wh zv s σ H Q I q=>h wh zv s σ H Q I (w σ H Q q)
theorem EW.pt{m:M Bool}(h:EW K X e m):ET K X e m:=ET.mk fun hk=>(h hk).pt
def aaw(m:M D):M Bool:=m.bind fun d=>lift (asB d)
theorem av8{m:M D}(σ:L2.St)(H:Hp)(Q:Bool->Hp->Prop)(t:TB K (aaw m) σ H Q):tB (T K (relD K) m) σ H Q:=by
 obtain⟨tg,F,ρ,k,ρ',G,em,q⟩:=t;obtain⟨d1,ρ1,e1,em⟩:=bw em;obtain⟨e3,rfl⟩:=ik em;obtain rfl:=apz e3;refine⟨tg,F,ρ,_,_,G,e1,fun v H' F' G' x r =>?_⟩
 cases r;exact⟨k,rfl,q H' F' G' x⟩
theorem yj{m:M D}(h:EV K X e m)(he:∀whole,isTrue e X.env whole=(do let v <-whole;standAt e.pos;nJ [v] (truthy v)):=by intro _;rfl):ET K X e (aaw m):=ET.mk fun hk=>PT.imp (a3l (h hk) he) av8
def j9(g:D->D->Option Rv)(m:M (D×D)):M Bool:=aaw (mOp g m).d
theorem kh{op:uP}{g:D->D->Option Rv}{m:M (D×D)}(ho:OpD K X (fY op) g)(h:E2 K X a b m)(hm:jF op b=false):ET K X (.Compare a [op] [b] pos) (j9 g m):=ET.mk fun hk=>by
 obtain⟨ta,tb,ha,hb,h⟩:=h hk;refine PT.imp (az0 (ho hk) ha hb hm) fun σ H Q t =>?_
 obtain⟨tg,F,ρ,k,ρ',G,em,q⟩:=t;obtain⟨d1,ρ1,e1,em⟩:=bw em;obtain⟨e3,rfl⟩:=ik em;obtain rfl:=apz e3;obtain⟨r,ρ2,e1,em⟩:=bw e1;obtain⟨er,rfl⟩:=kj em;refine ao4 h σ H _ ⟨tg,F,ρ,r,_,G,e1,fun v H' F' G' x w =>?_⟩
 cases r with
 | v d =>
  have er:d=.bl k:=er;subst er;have w:Is K F' (.bl k) v:=w;cases w;exact⟨k,rfl,q H' F' G' x⟩
 | fr l=>cases er
 | tf d l=>cases er
def afk(m:M Bool):M Bool:=m.bind fun k=>ret (!k)
theorem zg{m:M Bool}(h:ET K X a m):ET K X (.UnaryOp .Not a pos) (afk m):=ET.mk fun hk=>PT.imp (a3m (h hk)) fun σ H Q hq0=>by
 obtain⟨tg,F,ρ,k,ρ',G,em,q⟩:=hq0;obtain⟨d1,ρ1,e1,em⟩:=bw em;obtain⟨rfl,rfl⟩:=kj em;exact⟨tg,F,ρ,d1,_,G,e1,fun H' F' G' x=>q H' F' G' x⟩
def mOrB(m1 m2:M Bool):M Bool:=m1.bind fun k=>if k=true then ret true else m2
theorem aix{m:M Bool}(h:ET K X a m):EW K X (.BoolOp .Or [a] pos) m:=EW.mk fun hk=>a3i (h hk)
theorem aq2{m1 m2:M Bool}{rest:List dW}(h1:ET K X a m1)(h2:EW K X (.BoolOp .Or (b::rest) pos) m2):EW K X (.BoolOp .Or (a::b::rest) pos) (mOrB m1 m2):=EW.mk fun hk=>PW.imp (a8a (h1 hk) (h2 hk)) fun σ H Q hq0=>by
 obtain⟨tg,F,ρ,d,ρ',G,em,q⟩:=hq0;obtain⟨k,ρ1,e1,em⟩:=bw em;refine⟨tg,F,ρ,k,_,G,e1,fun H' F' G' x =>?_⟩
 cases k with
 | false=>exact iteF ⟨tg,F',_,d,ρ',G',em,fun H2 F2 G2 x2=>q H2 F2 G2 (x.trans x2)⟩
 | true =>
  obtain⟨rfl,rfl⟩:=kj (show ret true _=_ from em)
  exact iteT (q H' F' G' x)
def alr(f g:Int->Int->Bool)(m1 m2 m3:M D):M D:=m1.bind fun x=>m2.bind fun y=>match x,y with
 | .int i,.int j=>if f i j=true then m3.bind fun z=>match z with
  | .int k=>ret (.bl (g j k))
  | _=>lift none
  else ret (.bl false)
 | _,_=>lift none
theorem avc{f g:Int->Int->Bool}{m1 m2 m3:M D}(σ:L2.St)(H:Hp)(Q:VK)(t:T K (relD K) (alr f g m1 m2 m3) σ H Q) :
  ayc (rI0 fun i j=>.bl (f i j)) (rI0 fun i j=>.bl (g i j)) (T K (relD K) m1) (T K (relD K) m2) (T K (relD K) m3) σ H Q:=by
 obtain⟨tg,F,ρ,d,ρ',G,em,q⟩:=t;obtain⟨d1,ρ1,e1,em⟩:=bw em;obtain⟨d2,ρ2,e2,em⟩:=bw em;have bad:∀{ρ:Ro},(lift (none:Option D)) ρ=some (.ok d,ρ')->False:=fun z=>by
  obtain⟨z,_⟩:=ik z;cases z
 cases d1 with
 | int i =>
  cases d2 with
  | int j =>
   refine⟨tg,F,ρ,_,ρ1,G,e1,fun v H1 F1 G1 x1 r1=>⟨tg,F1,ρ1,_,ρ2,G1,e2,fun v2 H2 F2 G2 x2 r2 =>?_⟩⟩
   cases r1;cases r2;refine⟨i,j,rfl,rfl,f i j,rfl,?_⟩;have em:(if f i j=true then m3.bind fun z=>match z with
    | .int k=>ret (.bl (g j k))
    | _=>lift none
    else ret (.bl false)) ρ2=some (.ok d,ρ'):=em
   by_cases hf:f i j=true
   ·rw[if_pos hf] at em ⊢
    obtain⟨d3,ρ3,e3,em⟩:=bw em;refine⟨tg,F2,ρ2,d3,ρ3,G2,e3,fun v3 H3 F3 G3 x3 r3 =>?_⟩
    cases d3 with
    | int k =>
     obtain⟨rfl,rfl⟩:=kj (show ret (D.bl (g j k)) _=_ from em)
     cases r3;exact⟨j,k,rfl,rfl,q _ H3 F3 G3 ((x1.trans x2).trans x3) (.bl _)⟩
    | _=>exact(bad em).elim
   ·rw[if_neg hf] at em ⊢
    obtain⟨rfl,rfl⟩:=kj em;exact q _ H2 F2 G2 (x1.trans x2) (.bl _)
  | _=>exact(bad em).elim
 | _=>cases d2 <;> exact(bad em).elim
theorem apq{op op':uP}{f g:Int->Int->Bool}{m1 m2 m3:M D}(ho:OpR X (fY op) (rI0 fun i j=>.bl (f i j)))(ho':OpR X (fY op') (rI0 fun i j=>.bl (g i j)))(h1:EV K X a m1)(h2:EV K X b m2)(h3:EV K X c m3)
  (hm:lastMarks [op,op'] [b,c]=false:=by with_unfolding_all rfl):EV K X (.Compare a [op,op'] [b,c] pos) (alr f g m1 m2 m3):=EV.mk fun hk=>PE.imp (awn ho ho' (h1 hk) (h2 hk) (h3 hk) hm) avc
def mIf{α:Type}(m:M Bool)(m1 m2:M α):M α:=m.bind fun k=>if k=true then m1 else m2
theorem a9o{m:M Bool}{m1 m2:M Rv}(h:ET K X c m)(h1:ER K X a m1)(h2:ER K X b m2):ER K X (.IfExp c a b pos) (mIf m m1 m2):=ER.mk fun hk=>PE.imp (awk (h hk) (h1 hk) (h2 hk)) fun σ H Q hq0=>by
 obtain⟨tg,F,ρ,d,ρ',G,em,q⟩:=hq0;obtain⟨k,ρ1,e1,em⟩:=bw em;refine⟨tg,F,ρ,k,_,G,e1,fun H' F' G' x =>?_⟩
 have fin:∀{m':M Rv},m' ρ1=some (.ok d,ρ')->T K (relR K) m' σ H' Q:=fun{m'} e'=>⟨tg,F',ρ1,d,ρ',G',e',fun v H2 F2 G2 x2 r2=>q v H2 F2 G2 (x.trans x2) (by
  cases d with
  | v d=>exact r2
  | fr l =>
   obtain⟨a,vs,ev,ha,w⟩:=r2;refine⟨a,vs,ev,?_,w⟩;rcases ha with ha | ha
   ·exact .inl (x.there a ha)
   ·exact(x.own a ha).symm
  | tf d l =>
   obtain⟨t,u,a,vs,ev,ht,hd,ha,w⟩:=r2;refine⟨t,u,a,vs,ev,ht,hd,?_,w⟩;rcases ha with ha | ha
   ·exact .inl (x.there a ha)
   ·exact(x.own a ha).symm)⟩
 cases k with
 | true=>exact iteT (fin em)
 | false=>exact iteF (fin em)
end
section
variable{K:Fg9}{X:Cx}{e a b c:dW}{es:List dW}{pos p p2:Pos}
def TL(K:Fg9)(m:M (List D)):TA:=fun σ H Q=>∃tg F ρ ds ρ',Good K tg F H ρ σ/\m ρ=some (.ok ds,ρ')/\∀vs H' F',Good K tg F' H' ρ' σ->Ext (Own ρ σ) (Own ρ' σ) F H F' H'->IsL K F' ds vs->Q vs H'
structure ED (K:Fg9) (X:Cx) (es:List dW) (m:M (List D)):Prop where
 go:X.K=K->PA X es (TL K m)
instance {K:Fg9} {X:Cx} {es:List dW} {m:M (List D)}:CoeFun (ED K X es m) fun _=>X.K=K->PA X es (TL K m):=⟨ED.go⟩
theorem PA.imp{t t':TA}(h:PA X es t)(w:∀σ H Q,t' σ H Q->t σ H Q):PA X es t':=fun ps zv s σ H Q I q=>h ps zv s σ H Q I (w σ H Q q)
def mNil:M (List D):=ret []
def bh(m:M D)(ms:M (List D)):M (List D):=m.bind fun d=>ms.bind fun ds=>ret (d::ds)
theorem bz:ED K X [] mNil:=ED.mk fun _=>PA.imp aeh fun σ H Q hq0=>by
 obtain⟨tg,F,ρ,ds,ρ',G,em,q⟩:=hq0;obtain⟨rfl,rfl⟩:=kj em;exact q [] H F G (Ext.refl _ _ _) .nil
theorem ak{m:M D}{ms:M (List D)}(h:EV K X e m)(t:ED K X es ms)(hs:aX (e::es) X.env=(false,eval e X.env)::aX es X.env:=by rfl):ED K X (e::es) (bh m ms):=ED.mk fun hk=>PA.imp (tu (h hk) (t hk) hs) fun σ H Q hq0=>by
 obtain⟨tg,F,ρ,ds,ρ',G,em,q⟩:=hq0;obtain⟨d,ρ1,e1,em⟩:=bw em;obtain⟨r,ρ2,e2,em⟩:=bw em;obtain⟨rfl,rfl⟩:=kj em;exact⟨tg,F,ρ,d,ρ1,G,e1,fun v H1 F1 G1 x1 r1=>⟨tg,F1,ρ1,r,_,G1,e2,fun vs H2 F2 G2 x2 r2=>q _ H2 F2 G2 (x1.trans x2) (.cons (r1.mono x2.sub) r2)⟩⟩
def gTup(ds:List D):Option D:=if ds.length<=capS then some (.tup ds) else none
def gLst(ds:List D):Option Rv:=if ds.length<=capS then some (.fr ds) else none
def mTup(m:M (List D)):M D:=m.bind fun ds=>lift (gTup ds)
def mLst(m:M (List D)):M Rv:=m.bind fun ds=>lift (gLst ds)
theorem j6{k}{m:M (List D)}(h:ED K X es m):EV K X (.Tuple es k pos) (mTup m):=EV.mk fun hk=>PE.imp (a3w (h hk)) fun σ H Q hq0=>by
 obtain⟨tg,F,ρ,d,ρ',G,em,q⟩:=hq0;obtain⟨ds,ρ1,e1,em⟩:=bw em;obtain⟨e2,rfl⟩:=ik em;unfold gTup at e2;split at e2
 ·rename_i hz;cases e2;refine⟨tg,F,ρ,ds,_,G,e1,fun vs H1 F1 G1 x1 r1=>⟨by rw[<-r1.length];exact ahv hz,fun p hp=>q _ _ _ (G1.new hp _) (x1.trans (G1.newX hp _)) (.tup gw (r1.mono (Same.new (G1.freeF hp) _)))⟩⟩
 ·cases e2
theorem lr{m:M (List D)}(h:ED K X es m):ER K X (.List es pos) (mLst m):=ER.mk fun hk=>PE.imp (a4b (h hk)) fun σ H Q hq0=>by
 obtain⟨tg,F,ρ,d,ρ',G,em,q⟩:=hq0;obtain⟨ds,ρ1,e1,em⟩:=bw em;obtain⟨e2,rfl⟩:=ik em;unfold gLst at e2;split at e2
 ·rename_i hz;cases e2;refine⟨tg,F,ρ,ds,_,G,e1,fun vs H1 F1 G1 x1 r1=>⟨by rw[<-r1.length];exact ahv hz,fun p hp=>q _ _ _ (G1.fresh hp _) (x1.trans (G1.freshX hp _)) ⟨p,vs,rfl,.inl (x1.there p hp),G1.freeF hp,gw,r1,fun z=>G1.own_ne hp z rfl⟩⟩⟩
 ·cases e2
theorem axu{x:Str}{n:Int}{j1 j2:Nat}{p1 p2:Pos}:EV K X (.Dict [some (.Constant (.str x) j1 p1)] [.Constant (.int n) j2 p2] pos) (ret (.dct [(mU x,.int n)])):=EV.mk fun _=>PE.imp awl fun σ H Q hq0=>by
 obtain⟨tg,F,ρ,d,ρ',G,em,q⟩:=hq0;obtain⟨rfl,rfl⟩:=kj em;exact fun p hp=>q _ _ _ (G.new hp _) (G.newX hp _) (.dct gw (.cons (.int n) .nil))
inductive BorL (K:Fg9) (F H:Hp):List D->List V->Prop
 | nil:BorL K F H [] []
 | cons {d:D} {v:V} {ds:List D} {vs:List V} (h:Bor K F H d v) (t:BorL K F H ds vs):BorL K F H (d::ds) (v::vs)
def TA'(K:Fg9)(m:M (List D)):TA:=fun σ H Q=>∃tg F ρ ds ρ',Good K tg F H ρ σ/\m ρ=some (.ok ds,ρ')/\∀vs H' F',Good K tg F' H' ρ' σ->Ext (Own ρ σ) (Own ρ' σ) F H F' H'->BorL K F' H' ds vs->Q vs H'
structure EA (K:Fg9) (X:Cx) (es:List dW) (m:M (List D)):Prop where
 go:X.K=K->PA X es (TA' K m)
instance {K:Fg9} {X:Cx} {es:List dW} {m:M (List D)}:CoeFun (EA K X es m) fun _=>X.K=K->PA X es (TA' K m):=⟨EA.go⟩
def ir(i:Nat)(ms:M (List D)):M (List D):=(dw i).bind fun _=>ms.bind fun ds=>(dw i).bind fun d=>ret (d::ds)
theorem fc:EA K X [] mNil:=EA.mk fun _=>PA.imp aeh fun σ H Q hq0=>by
 obtain⟨tg,F,ρ,ds,ρ',G,em,q⟩:=hq0;obtain⟨rfl,rfl⟩:=kj em;exact q [] H F G (Ext.refl _ _ _) .nil
theorem ea_v{m:M D}{ms:M (List D)}(h:EV K X e m)(t:EA K X es ms)(hs:aX (e::es) X.env=(false,eval e X.env)::aX es X.env:=by rfl):EA K X (e::es) (bh m ms):=EA.mk fun hk=>PA.imp (tu (h hk) (t hk) hs) fun σ H Q hq0=>by
 obtain⟨tg,F,ρ,ds,ρ',G,em,q⟩:=hq0;obtain⟨d,ρ1,e1,em⟩:=bw em;obtain⟨r,ρ2,e2,em⟩:=bw em;obtain⟨rfl,rfl⟩:=kj em;exact⟨tg,F,ρ,d,ρ1,G,e1,fun v H1 F1 G1 x1 r1=>⟨tg,F1,ρ1,r,_,G1,e2,fun vs H2 F2 G2 x2 r2=>q _ H2 F2 G2 (x1.trans x2) (.cons (.inl (r1.mono x2.sub)) r2)⟩⟩
theorem ea_n{i:Nat}{ms:M (List D)}(h:PE X e (tVar i))(t:EA K X es ms)(hs:aX (e::es) X.env=(false,eval e X.env)::aX es X.env:=by rfl):EA K X (e::es) (ir i ms):=EA.mk fun hk=>PA.imp (tu h (t hk) hs) fun σ H Q hq0=>by
 obtain⟨tg,F,ρ,ds,ρ',G,em,q⟩:=hq0;obtain⟨d0,ρ0,e0,em⟩:=bw em;obtain⟨r,ρ2,e2,em⟩:=bw em;obtain⟨d,ρ1,e1,em⟩:=bw em;obtain⟨rfl,rfl⟩:=kj em;obtain⟨rfl,v,hv,_⟩:=sy G e0;exact⟨v,hv,tg,F,ρ0,r,_,G,e2,fun vs H2 F2 G2 x2 r2=>by
  obtain⟨rfl,v',hv',b'⟩:=sy G2 e1;rw[hv] at hv';cases hv';exact q _ H2 F2 G2 x2 (.cons b' r2)⟩
def rcOf(K:Fg9)(g:List D->Option Rv):List V->Hp->VK->Prop:=fun vs H Q=>∃tg F ρ σ ds r,Good K tg F H ρ σ/\BorL K F H ds vs/\g ds=some r/\Res K tg F H ρ σ r Q
structure CallD (K:Fg9) (X:Cx) (f:aG) (g:List D->Option Rv):Prop where
 go:X.K=K->abv X f (rcOf K g)
instance {K:Fg9} {X:Cx} {f:aG} {g:List D->Option Rv}:CoeFun (CallD K X f g) fun _=>X.K=K->abv X f (rcOf K g):=⟨CallD.go⟩
def jd(g:List D->Option Rv)(m:M (List D)):M Rv:=m.bind fun ds=>lift (g ds)
theorem ou{O O1 O2:aZ->Prop}{F H F1 H1 F2 H2:Hp}{r:Rv}{v:V}(x:Ext O O1 F H F1 H1)(h:relR K r v H1 O1 F2 H2 O2):relR K r v H O F2 H2 O2:=by
 cases r with
 | v d=>exact h
 | fr l =>
  obtain⟨a,vs,ev,ha,w⟩:=h;refine⟨a,vs,ev,?_,w⟩;rcases ha with ha | ha
  ·exact .inl (x.there a ha)
  ·exact(x.own a ha).symm
 | tf d l =>
  obtain⟨t,u,a,vs,ev,ht,hd,ha,w⟩:=h;refine⟨t,u,a,vs,ev,ht,hd,?_,w⟩;rcases ha with ha | ha
  ·exact .inl (x.there a ha)
  ·exact(x.own a ha).symm
theorem apv{g:List D->Option Rv}{m:M (List D)}(σ:L2.St)(H:Hp)(Q:VK)(t:T K (relR K) (jd g m) σ H Q):tCB (rcOf K g) (TA' K m) σ H Q:=by
 obtain⟨tg,F,ρ,r,ρ',G,em,q⟩:=t;obtain⟨ds,ρ1,e1,em⟩:=bw em;obtain⟨e2,rfl⟩:=ik em;exact⟨tg,F,ρ,ds,_,G,e1,fun vs H' F' G' x' bl=>⟨tg,F',_,σ,ds,r,G',bl,e2,fun v H2 F2 G2 x2 rr=>q v H2 F2 G2 (x'.trans x2) (ou x' rr)⟩⟩
section
variable{x:Str}{id Ty:String}{g:List D->Option Rv}{m:M (List D)}
theorem dg(hc:CallD K X (.builtin id) g)(hg:Gl X x)(hm:X.mg x=none)(hv:bT x=some (.builtin id))(ha:EA K X (e::es) m)(hn:x ≠ "__name__" := by decide)(hdb:(x==("__debug__" : Str))=false:=by decide)
  (he:aX (e::es) X.env=(false,eval e X.env)::aX es X.env:=by rfl) (hpl:(jB pos (aX es X.env)).any (·.1)=false:=by rfl):ER K X (.Call (.Name x p) (e::es) [] pos) (jd g m):=ER.mk fun hk=>PE.imp (aeg (hc hk) hg hm hv (ha hk) hn hdb he hpl) apv
theorem jl(hc:CallD K X (.type Ty) g)(hg:Gl X x)(hm:X.mg x=none)(hv:bT x=some (.type Ty))(ha:EA K X (e::es) m)(hn:x ≠ "__name__" := by decide)(hdb:(x==("__debug__" : Str))=false:=by decide)
  (he:aX (e::es) X.env=(false,eval e X.env)::aX es X.env:=by rfl) (hpl:(jB pos (aX es X.env)).any (·.1)=false:=by rfl):ER K X (.Call (.Name x p) (e::es) [] pos) (jd g m):=ER.mk fun hk=>PE.imp (aef (hc hk) hg hm hv (ha hk) hn hdb he hpl) apv
end
theorem BorL.one{F H:Hp}{d:D}{vs:List V}(h:BorL K F H [d] vs):∃v,vs=[v]/\Bor K F H d v:=by
 cases h with
 | cons h t=>cases t;exact⟨_,rfl,h⟩
theorem BorL.two{F H:Hp}{d d':D}{vs:List V}(h:BorL K F H [d,d'] vs):∃v v',vs=[v,v']/\Bor K F H d v/\Bor K F H d' v':=by
 cases h with
 | cons h t =>
  obtain⟨v',rfl,h'⟩:=t.one;exact⟨_,_,rfl,h,h'⟩
def g1(f:D->Option Rv):List D->Option Rv
 | [d]=>f d
 | _=>none
def g2(f:D->D->Option Rv):List D->Option Rv
 | [d,d']=>f d d'
 | _=>none
theorem cd_one{f:D->Option Rv}{w:aG} (h:X.K=K->∀(zv:List (aZ×Obj)) (s:aJ) (σ0:L2.St) (H:Hp) (x:V) (u:aG) (Q:VK) (tg:Nat->aZ) (F:Hp) (ρ:Ro) (σ:L2.St) (d:D) (r:Rv),Inv X zv σ0 H s->RelV x u->Good K tg F H ρ σ->Bor K F H d x->f d=some r->Res K tg F H ρ σ r Q ->
  bK (bR X.prog X.w) X.A (call w [u]) (EP X zv σ0 Q) X.xe s):CallD K X w (g1 f):=CallD.mk fun hk=>by
 intro zv s σ0 H xs us Q I r ⟨tg,F,ρ,σ,ds,rv,G,bl,eg,q⟩
 match ds,eg with
 | [d],eg =>
  obtain⟨v,rfl,bv⟩:=bl.one;obtain⟨u,rfl,ru⟩:=vals1 r;exact h hk zv s σ0 H v u Q tg F ρ σ d rv I ru G bv eg q
theorem jz:CallD K X (.builtin "len") (g1 fun d=>(itemsD d).map fun l=>.v (.int l.length)):=cd_one fun hk zv s σ0 H x u Q tg F ρ σ d r I ru G bd eg q=>by
 subst hk;cases e:itemsD d with
 | none=>rw[e] at eg;cases eg
 | some l =>
  rw[e] at eg;cases eg;obtain⟨a,vs,rfl,hl,hs⟩:=agu G.sub e bd;have q':=Res.same G q (.int _);rw[hl.length] at q';exact ame zv s σ0 H [.ref a] [u] Q I (.cons ru .nil) ⟨a,vs,rfl,hs,q'⟩
def abt:List D->Option (List Bool)
 | []=>some []
 | .bl b::r=>(abt r).map (b :: ·)
 | _::_=>none
theorem amj:∀{l:List D} {bs:List Bool},abt l=some bs->l=bs.map D.bl
 | [],_,h=>by cases h;rfl
 | .bl b::r,bs,h=>by
  have h':(abt r).map (b :: ·)=some bs:=h;cases e:abt r with
  | none=>rw[e] at h';cases h'
  | some t =>
   rw[e] at h';cases h';rw[amj e];rfl
 | .non::_,_,h=>by cases h
 | .int _::_,_,h=>by cases h
 | .str _::_,_,h=>by cases h
 | .tup _::_,_,h=>by cases h
 | .lst _::_,_,h=>by cases h
 | .kst _::_,_,h=>by cases h
 | .dct _::_,_,h=>by cases h
@[simp] theorem ai2(bs:List Bool):abt (bs.map D.bl)=some bs:=by
 induction bs with
 | nil=>rfl
 | cons b r ih=>show(abt (r.map D.bl)).map (b :: ·)=_;rw[ih];rfl
def gAll:D->Option Rv
 | .lst l=>(abt l).map fun bs=>.v (.bl (bs.all id))
 | _=>none
theorem ay3(hc:X.calm=true):CallD K X (.builtin "all") (g1 gAll):=cd_one fun hk zv s σ0 H x u Q tg F ρ σ d r I ru G bd eg q=>by
 subst hk;cases d with
 | lst l =>
  have eg:(abt l).map (fun bs=>Rv.v (.bl (bs.all id)))=some r:=eg
  cases e:abt l with
  | none=>rw[e] at eg;cases eg
  | some bs =>
   rw[e] at eg;cases eg;obtain⟨a,vs,rfl,ea,hl⟩:=bd.lst G.sub;rw[amj e] at hl;rw[hl.bl_inv] at ea;exact ax0 hc zv s σ0 H [.ref a] [u] Q I (.cons ru .nil) ⟨a,bs,rfl,SqL.of ea,Res.same G q (.bl _)⟩
 | _=>cases eg
def axl:D->Option Rv
 | .int i=>some (.v (.int i))
 | .bl k=>some (.v (.int (if k then 1 else 0)))
 | _=>none
theorem a6i:CallD K X (.type "int") (g1 axl):=cd_one fun hk zv s σ0 H x u Q tg F ρ σ d r I ru G bd eg q=>by
 cases d with
 | int i =>
  cases eg;obtain rfl:=bd.int;exact amg zv s σ0 H [_] [u] Q I (.cons ru .nil) (.inl ⟨i,rfl,Res.same G q (.int _)⟩)
 | bl k =>
  cases eg;obtain rfl:=bd.bl;exact amg zv s σ0 H [_] [u] Q I (.cons ru .nil) (.inr ⟨k,rfl,Res.same G q (.int _)⟩)
 | _=>cases eg
theorem yq:CallD K X (.type "tuple") (g1 fun d=>(itemsD d).map fun l=>.v (.tup l)):=cd_one fun hk zv s σ0 H x u Q tg F ρ σ d r I ru G bd eg q=>by
 subst hk;cases d with
 | tup l =>
  cases eg;obtain⟨a,vs,rfl,ea,hl⟩:=bd.tup;exact abn zv s σ0 H [_] [u] Q I (.cons ru .nil) ⟨a,vs,rfl,.inr ⟨SqT.of (G.sub _ _ ea),Res.same G q (.tup ea hl)⟩⟩
 | lst l =>
  cases eg;obtain⟨a,vs,rfl,ea,hl⟩:=bd.lst G.sub;exact abn zv s σ0 H [_] [u] Q I (.cons ru .nil) ⟨a,vs,rfl,.inl ⟨SqL.of ea,fun p hp=>Res.tup G q hl hp⟩⟩
 | kst l =>
  cases eg;obtain⟨a,vs,rfl,ea,hl⟩:=bd.kst;exact abn zv s σ0 H [_] [u] Q I (.cons ru .nil) ⟨a,vs,rfl,.inl ⟨L2.Same.seq G.sub ea,fun p hp=>Res.tup G q hl hp⟩⟩
 | _=>cases eg
theorem ad4:CallD K X (.type "list") (g1 fun d=>(itemsD d).map fun l=>.fr l):=cd_one fun hk zv s σ0 H x u Q tg F ρ σ d r I ru G bd eg q=>by
 subst hk;cases e:itemsD d with
 | none=>rw[e] at eg;cases eg
 | some l =>
  rw[e] at eg;cases eg;obtain⟨a,vs,rfl,hl,hs⟩:=agu G.sub e bd;exact amd zv s σ0 H [_] [u] Q I (.cons ru .nil) ⟨a,vs,rfl,hs,fun p hp=>Res.lst G q hl hp⟩
theorem ay1{f:D->D->Option Rv}{w:aG} (h:X.K=K->∀(zv:List (aZ×Obj)) (s:aJ) (σ0:L2.St) (H:Hp) (x y:V) (u v:aG) (Q:VK) (tg:Nat->aZ) (F:Hp) (ρ:Ro) (σ:L2.St) (d d':D) (r:Rv),Inv X zv σ0 H s->RelV x u->RelV y v->Good K tg F H ρ σ->Bor K F H d x->Bor K F H d' y->f d d'=some r->Res K tg F H ρ σ r Q ->
  bK (bR X.prog X.w) X.A (call w [u,v]) (EP X zv σ0 Q) X.xe s):CallD K X w (g2 f):=CallD.mk fun hk=>by
 intro zv s σ0 H xs us Q I r ⟨tg,F,ρ,σ,ds,rv,G,bl,eg,q⟩
 match ds,eg with
 | [d,d'],eg =>
  obtain⟨v,v',rfl,bv,bv'⟩:=bl.two;obtain⟨u,w,rfl,ru,rw'⟩:=vals2 r;exact h hk zv s σ0 H v v' u w Q tg F ρ σ d d' rv I ru rw' G bv bv' eg q
theorem ay2(hc:X.calm=true):CallD K X (.builtin "max") (g2 (gInt fun i j=>some (if j > i then j else i))):=ay1 fun hk zv s σ0 H x y u v Q tg F ρ σ d d' r I ru rv G bd bd' eg q=>by
 unfold gInt at eg;split at eg
 ·cases eg;obtain rfl:=bd.int;obtain rfl:=bd'.int;exact avj hc zv s σ0 H [_,_] [u,v] Q I (.cons ru (.cons rv .nil)) ⟨_,_,rfl,Res.same G q (.int _)⟩
 ·cases eg
theorem amh:abv X (.builtin "divmod") (fun xs H Q=>∃i j,xs=[.int i,.int j]/\(0 < j/\j < 1000000000000000000000000000000000000000000000000000000000000)/\∀p,H p=none->Q (.ref p) (upd H p (.tup [.int (i / j),.int (i % j)]))):=by
 intro zv s σ H xs us Q I r h;obtain⟨i,j,rfl,hj,q⟩:=h;obtain⟨u,w',rfl,⟨t,rfl⟩,⟨t',rfl⟩⟩:=vals2 r;have h1:=hj.1;refine divmod_int (by omega) ?_ (.inl (a4t hj.1 hj.2))
 rw[tL i (by omega),tK i (by omega)]
 refine⟨.ref s.heap.objs.size,_,?_,rfl,q _ (I.hok.fresh (aL _))⟩;exact I.laid (fun b o e=>aD _ e) (aL _) ⟨by simp only[cG,yM];rw[iV];decide,[.int (i / j) s.toks,.int (i % j) (s.toks+1)],.cons ⟨_,rfl⟩ (.cons ⟨_,rfl⟩ .nil),⟨_,aO s.heap rfl,rfl,rfl,0,rfl⟩⟩
def akb:D->D->Option Rv
 | .int i,.int j=>if 0 < j/\j < 1000000000000000000000000000000000000000000000000000000000000 then some (.v (.tup [.int (i / j),.int (i % j)])) else none
 | _,_=>none
theorem avf:CallD K X (.builtin "divmod") (g2 akb):=ay1 fun hk zv s σ0 H x y u v Q tg F ρ σ d d' r I ru rv G bd bd' eg q=>by
 unfold akb at eg;split at eg
 ·split at eg
  ·rename_i hc;cases eg;obtain rfl:=bd.int;obtain rfl:=bd'.int;exact amh zv s σ0 H [_,_] [u,v] Q I (.cons ru (.cons rv .nil)) ⟨_,_,rfl,hc,fun p hp=>Res.tup G q (.cons (.int _) (.cons (.int _) .nil)) hp⟩
  ·cases eg
 ·cases eg
inductive Ty where
 | int | bool | tuple | list | str | dict
def Ty.nm:Ty->String
 | .int => "int" | .bool => "bool" | .tuple => "tuple" | .list => "list" | .str => "str" | .dict => "dict"
def tyD:D->aG
 | .non=>.type "NoneType"
 | .bl _=>.type "bool"
 | .int _=>.type "int"
 | .str _=>.type "str"
 | .tup _=>.type "tuple"
 | .lst _=>.type "list"
 | .kst _=>.type "list"
 | .dct _=>.type "dict"
 | .exn _ _=>.type "NoneType"
def isTy:Ty->D->Bool
 | .int,.int _=>true
 | .int,.bl _=>true
 | .bool,.bl _=>true
 | .tuple,.tup _=>true
 | .list,.lst _=>true
 | .list,.kst _=>true
 | .str,.str _=>true
 | .dict,.dct _=>true
 | _,_=>false
theorem ayq(t:Ty)(d:D):gW K (tyD d) (.type t.nm)=some (isTy t d):=by
 cases d <;> cases t <;> kernel_rfl
theorem avk{X:Cx}:abv X (.builtin "isinstance") (fun xs H Q=>∃F d x t,xs=[x,.ty (Ty.nm t)]/\Same F H/\Bor X.K F H d x/\Q (.bl (isTy t d)) H):=by
 intro zv s σ H xs us Q I r ⟨F,d,x,t,e,g,h,q⟩;subst e;obtain⟨u,w',rfl,r1,r2⟩:=vals2 r;obtain rfl:w'=jR t.nm:=r2;have fin:∀tk,EP X zv σ Q (.bool (isTy t d)) { s with toks:=tk }:=fun tk=>⟨.bl _,H,I.tok tk,rfl,q⟩
 have go:TyOf X.K H x (tyD d)->bK (bR X.prog X.w) X.A (call (.builtin "isinstance") [u,.type t.nm]) (EP X zv σ Q) X.xe s:=fun ty=>at4 I r1 ty (ayq t d) fin
 cases d with
 | non=>obtain rfl:=h.non;exact go .non
 | bl b=>obtain rfl:=h.bl;exact go (.bl b)
 | int b=>obtain rfl:=h.int;exact go (.int b)
 | str b=>obtain rfl:=h.str;exact go (.str b)
 | tup b=>obtain⟨a,vs,rfl,e,_⟩:=h.tup;exact go (.tup (g _ _ e))
 | lst b=>obtain⟨a,vs,rfl,e,_⟩:=h.lst g;exact go (.lst e)
 | kst b =>
  obtain⟨a,vs,rfl,e,_⟩:=h.kst;cases(show u=dJ a from r1)
  obtain⟨its,_,pl,_⟩:=I.list (L2.Same.seq g e);obtain⟨o,ho,hc,n,hd⟩:=pl.isList;exact eH rE I.kIn ⟨o,ho,hc⟩ (ayq t (.kst b)) (fun z=>nomatch z) fin
 | dct b =>
  rcases h with h | ⟨a,vs,l',e1,_⟩
  ·cases h with
   | dct e h=>exact go (.dK (g _ _ e))
  ·cases e1
 | exn c fs =>
  rcases h with h | ⟨a,vs,l',e1,_⟩
  ·cases h with
   | @exn a C c dx fs e hc hk hf =>
    cases(show u=dJ a from r1)
    obtain⟨⟨oe,ws,h1,h2,h3,h4⟩,_⟩:=(show xm X.prog X.w H s.heap a (.ext (exO a C dx)) from I.hok a _ (g _ _ e))
    have hno:nO oe=true:=by unfold nO;rw[h4]
    have ia:∃ox od,jK s.heap a ox C od:=by
     rcases hf with⟨rfl,_⟩ | ⟨d,rfl,hd⟩
     ·exact⟨oe,none,h1,h2,hno,by rw[h3];trivial⟩
     ·obtain⟨mA,⟨od,_,_,e1,_⟩,_⟩:=(show xm X.prog X.w H s.heap d (.xd _) from I.hok d _ (g _ _ hd))
      exact⟨oe,some od,h1,h2,hno,by rw[h3];exact e1⟩
    have kq:gW X.K (.ref C) (.type t.nm)=some false:=by
     have h5:gU X.K (.ref C) (.type t.nm)=some false:=hk.no _ (by cases t <;> simp[Ty.nm])
     have h6:yI t.nm=true:=by cases t <;> kernel_rfl
     unfold gW yZ;rw[if_neg (by simp)]
     show(if yI t.nm=true then gU X.K (.ref C) (.type t.nm) else none)=some false
     rw[if_pos h6];exact h5
    have e7:isTy t (.exn c fs)=false:=by cases t <;> rfl
    exact eH (apd hk) I.kIn ia kq (fun z=>nomatch z) fun tk=>e7▸fin tk
  ·cases e1
def mIsi(t:Ty)(m:M D):M D:=m.bind fun d=>ret (.bl (isTy t d))
theorem al8{t:Ty}{tn:dW}{m:M D}{x:Str}(ht:PE X tn (tC (.ty t.nm)))(hg:Gl X x)(hm:X.mg x=none)(hv:bT x=some (.builtin "isinstance"))(h:EB K X e m)(hn:x ≠ "__name__" := by decide)(hdb:(x==("__debug__" : Str))=false:=by decide)
  (h1:aX [tn] X.env=(false,eval tn X.env)::aX [] X.env:=by rfl) (he:aX [e,tn] X.env=(false,eval e X.env)::aX [tn] X.env:=by rfl) (hpl:(jB pos (aX [tn] X.env)).any (·.1)=false:=by rfl) :
  EV K X (.Call (.Name x p) [e,tn] [] pos) (mIsi t m):=EV.mk fun hk=>by
 refine PE.imp (aeg avk hg hm hv (tu (h hk) (tu ht aeh h1) he) hn hdb he hpl) fun σ H Q ⟨tg,F,ρ,d,ρ',G,em,q⟩ =>?_
 obtain⟨d1,ρ1,e1,em⟩:=bw em;obtain⟨rfl,rfl⟩:=kj em;subst hk;exact⟨tg,F,ρ,d1,_,G,e1,fun v H' F' G' x bv=>⟨F',d1,v,t,rfl,G'.sub,bv,q _ H' F' G' x (.bl _)⟩⟩
def gIx(d i:D):Option Rv:=match i with
 | .int k=>(itemsD d).bind fun l=>(atI l k).map fun x=>.v x
 | _=>none
theorem a6o{F:Hp}{l:List D}{vs:List V}{k:Int}{d:D}(h:IsL K F l vs)(e:atI l k=some d):∃v,atI vs k=some v/\Is K F d v:=by
 unfold atI at e ⊢
 rw[h.length] at e;cases q:ixN vs.length k with
 | none=>rw[q] at e;cases e
 | some j =>
  rw[q] at e;obtain⟨v,e1,e2⟩:=h.get (i:=j) e;exact⟨v,e1,e2⟩
theorem ixd:X.K=K->IxR X (rOf K gIx):=fun hk=>by
 intro value slice zv s σ0 H x y v u Q I rx ry ⟨tg,F,ρ,σ,d1,d2,r,G,b1,b2,eg,q⟩ hs;subst hk;cases d2 with
 | int k =>
  have eg:(itemsD d1).bind (fun l=>(atI l k).map fun x=>Rv.v x)=some r:=eg
  cases e:itemsD d1 with
  | none=>rw[e] at eg;cases eg
  | some l =>
   rw[e] at eg;have eg:(atI l k).map (fun x=>Rv.v x)=some r:=eg
   cases e2:atI l k with
   | none=>rw[e2] at eg;cases eg
   | some d =>
    rw[e2] at eg;cases eg;obtain⟨a,vs,rfl,hl,hq⟩:=agu G.sub e b1;obtain rfl:=b2.int;obtain⟨z,hz,iz⟩:=a6o hl e2;rcases hq with hq | hq
    ·exact a06 value slice zv s σ0 H _ _ v u Q I rx ry ⟨a,vs,k,z,rfl,rfl,hq,hz,Res.same G q iz⟩ hs
    ·exact a5l value slice zv s σ0 H _ _ v u Q I rx ry ⟨a,vs,k,z,rfl,rfl,hq,hz,Res.same G q iz⟩ hs
 | _=>cases eg
theorem j5{m:M (D×D)}(h:E2 K X a b m)(hs:avx b):ER K X (.Subscript a b pos) (mOp gIx m):=ER.mk fun hk=>by
 obtain⟨ta,tb,ha,hb,h⟩:=h hk;exact PE.imp (a8h (ixd hk) ha hb hs) (ao4 h)
def TOp(K:Fg9)(m:M (Option Int)):TO:=fun σ H Q=>∃tg F ρ o ρ',Good K tg F H ρ σ/\m ρ=some (.ok o,ρ')/\∀H' F',Good K tg F' H' ρ' σ->Ext (Own ρ σ) (Own ρ' σ) F H F' H'->Q o H'
structure EO (K:Fg9) (X:Cx) (e:Option dW) (m:M (Option Int)):Prop where
 go:X.K=K->PO X e (TOp K m)
instance {K:Fg9} {X:Cx} {e:Option dW} {m:M (Option Int)}:CoeFun (EO K X e m) fun _=>X.K=K->PO X e (TOp K m):=⟨EO.go⟩
theorem PO.imp{eo:Option dW}{t t':TO}(h:PO X eo t)(w:∀σ H Q,t' σ H Q->t σ H Q):PO X eo t':=fun zv s σ H Q I q=>h zv s σ H Q I (w σ H Q q)
theorem auu:EO K X none (ret none):=EO.mk fun _=>PO.imp az7 fun σ H Q hq0=>by
 obtain⟨tg,F,ρ,o,ρ',G,em,q⟩:=hq0;obtain⟨rfl,rfl⟩:=kj em;exact q H F G (Ext.refl _ _ _)
def asI:D->Option Int
 | .int i=>some i
 | _=>none
theorem apy{d:D}{k:Int}(h:asI d=some k):d=.int k:=by
 cases d with
 | int b=>cases h;rfl
 | _=>cases h
def aqu(m:M D):M (Option Int):=m.bind fun d=>lift ((asI d).map some)
theorem akh{m:M D}(h:EV K X e m):EO K X (some e) (aqu m):=EO.mk fun hk=>PO.imp (az6 (h hk)) fun σ H Q hq0=>by
 obtain⟨tg,F,ρ,o,ρ',G,em,q⟩:=hq0;obtain⟨d,ρ1,e1,em⟩:=bw em;obtain⟨e2,rfl⟩:=ik em;refine⟨tg,F,ρ,d,_,G,e1,fun v H' F' G' x r =>?_⟩
 cases d with
 | int i =>
  cases e2;cases r;exact⟨i,rfl,q H' F' G' x⟩
 | _=>cases e2
def cutD(l:List D)(lo hi:Option Int):List D:=(l.drop (HT.sIx l.length 0 lo)).take (HT.sIx l.length l.length hi - HT.sIx l.length 0 lo)
theorem au6{F:Hp}{l:List D}{vs:List V}(h:IsL K F l vs)(lo hi:Option Int):IsL K F (cutD l lo hi) (cutV vs lo hi):=by
 unfold cutD cutV;rw[h.length];exact(h.drop _).take _
def gCut(d:D)(lo hi:Option Int):Option Rv:=match d with
 | .tup l=>some (.v (.tup (cutD l lo hi)))
 | .lst l=>some (.fr (cutD l lo hi))
 | .kst l=>some (.fr (cutD l lo hi))
 | _=>none
def rsOf(K:Fg9):V->Option Int->Option Int->Hp->VK->Prop:=fun x lo hi H Q=>∃tg F ρ σ d r,Good K tg F H ρ σ/\Bor K F H d x/\gCut d lo hi=some r/\Res K tg F H ρ σ r Q
theorem sld(hk:X.K=K):SlR X (rsOf K):=by
 intro zv s σ0 H x v vl vu lo hi sl Q I rx hs pl pu ⟨tg,F,ρ,σ,d,r,G,bd,eg,q⟩;subst hk;cases d with
 | tup l =>
  cases eg;obtain⟨a,vs,rfl,ea,hl⟩:=bd.tup
  by_cases hw:HT.sIx vs.length 0 lo=0/\HT.sIx vs.length vs.length hi=vs.length
  ·have ec:cutD l lo hi=l:=by
    unfold cutD;rw[hl.length,hw.1,hw.2,zB,Nat.sub_zero,<-hl.length,mH]
   rw[ec] at q;cases rx;obtain⟨its,r,ht,hz⟩:=I.tuple (SqT.of (G.sub _ _ ea));have hlen:its.toArray.size=vs.length:=by rw[aY];exact r.length.symm
   refine⟨"tuple", _,fB.lookup,ht.typeIs,?_⟩;exact adx ht hs pl pu (by rw[hlen];exact hw.1) (by rw[hlen];exact hw.2) ⟨.ref a,H,I,rfl,Res.same G q (.tup ea hl)⟩
  ·exact a3c zv s σ0 H _ v vl vu lo hi sl Q I rx hs pl pu ⟨a,vs,rfl,SqT.of (G.sub _ _ ea),hw,fun p hp=>Res.tup G q (au6 hl lo hi) hp⟩
 | lst l =>
  cases eg;obtain⟨a,vs,rfl,ea,hl⟩:=bd.lst G.sub;exact asd zv s σ0 H _ v vl vu lo hi sl Q I rx hs pl pu ⟨a,vs,rfl,SqL.of ea,fun p hp=>Res.lst G q (au6 hl lo hi) hp⟩
 | kst l =>
  cases eg;obtain⟨a,vs,rfl,ea,hl⟩:=bd.kst;exact asd zv s σ0 H _ v vl vu lo hi sl Q I rx hs pl pu ⟨a,vs,rfl,L2.Same.seq G.sub ea,fun p hp=>Res.lst G q (au6 hl lo hi) hp⟩
 | _=>cases eg
def mCut(m:M D)(ml mh:M (Option Int)):M Rv:=m.bind fun d=>ml.bind fun lo=>mh.bind fun hi=>lift (gCut d lo hi)
def a04(i:Nat)(ml mh:M (Option Int)):M Rv:=(dw i).bind fun _=>ml.bind fun lo=>mh.bind fun hi=>(dw i).bind fun d=>lift (gCut d lo hi)
theorem ayw{m:M D}{ml mh:M (Option Int)}{lo hi:Option dW}(h:EV K X a m)(hl:EO K X lo ml)(hh:EO K X hi mh):ER K X (.Subscript a (.Slice lo hi none p2) pos) (mCut m ml mh):=ER.mk fun hk=>PE.imp (ao0 (sld hk) (h hk) (hl hk) (hh hk)) fun σ H Q hq0=>by
 obtain⟨tg,F,ρ,r,ρ',G,em,q⟩:=hq0;obtain⟨d,ρ1,e1,em⟩:=bw em;obtain⟨o1,ρ2,e2,em⟩:=bw em;obtain⟨o2,ρ3,e3,em⟩:=bw em;obtain⟨e4,rfl⟩:=ik em;refine⟨tg,F,ρ,d,ρ1,G,e1,fun v H1 F1 G1 x1 r1=>⟨tg,F1,ρ1,o1,ρ2,G1,e2,fun H2 F2 G2 x2=>⟨tg,F2,ρ2,o2,_,G2,e3,fun H3 F3 G3 x3 =>?_⟩⟩⟩
 exact⟨tg,F3,_,σ,d,r,G3,.inl ((r1.mono x2.sub).mono x3.sub),e4,fun v' H4 F4 G4 x4 rr=>q v' H4 F4 G4 (((x1.trans x2).trans x3).trans x4) (ou ((x1.trans x2).trans x3) rr)⟩
theorem a1r{i:Nat}{ml mh:M (Option Int)}{lo hi:Option dW}(h:PE X a (tVar i))(hl:EO K X lo ml)(hh:EO K X hi mh):ER K X (.Subscript a (.Slice lo hi none p2) pos) (a04 i ml mh):=ER.mk fun hk=>PE.imp (ao0 (sld hk) h (hl hk) (hh hk)) fun σ H Q hq0=>by
 obtain⟨tg,F,ρ,r,ρ',G,em,q⟩:=hq0;obtain⟨d0,ρ0,e0,em⟩:=bw em;obtain⟨o1,ρ2,e2,em⟩:=bw em;obtain⟨o2,ρ3,e3,em⟩:=bw em;obtain⟨d,ρ4,e1,em⟩:=bw em;obtain⟨e4,rfl⟩:=ik em;obtain⟨rfl,v,hv,_⟩:=sy G e0;refine⟨v,hv,tg,F,ρ0,o1,ρ2,G,e2,fun H2 F2 G2 x2=>⟨tg,F2,ρ2,o2,_,G2,e3,fun H3 F3 G3 x3 =>?_⟩⟩
 obtain⟨rfl,v',hv',b'⟩:=sy G3 e1;rw[hv] at hv';cases hv';exact⟨tg,F3,_,σ,d,r,G3,b',e4,fun v' H4 F4 G4 x4 rr=>q v' H4 F4 G4 ((x2.trans x3).trans x4) (ou (x2.trans x3) rr)⟩
end
inductive Fl where
 | nx | ret (r:Rv) | brk | cont | exc (x:Exn)
abbrev Sd:=Ro->Option (Fl×Ro)
section
variable{K:Fg9}{X:Cx}{e a b c tgt:dW}{es:List dW}{pos p p2:Pos}{st:iM}{ss:List iM}
def FlOk(K:Fg9)(tg:Nat->aZ)(ρ:Ro)(σ:L2.St)(F H:Hp)(E:Ends)(fl:Fl)(ρ':Ro):Prop:=match fl with
 | .nx=>∀σ' H' F',Good K tg F' H' ρ' σ'->Ext (Own ρ σ) (Own ρ' σ') F H F' H'->E.nx σ' H'
 | .brk=>∀σ' H' F',Good K tg F' H' ρ' σ'->Ext (Own ρ σ) (Own ρ' σ') F H F' H'->E.bk σ' H'
 | .cont=>∀σ' H' F',Good K tg F' H' ρ' σ'->Ext (Own ρ σ) (Own ρ' σ') F H F' H'->E.ct σ' H'
 | .ret r=>∀v σ' H' F',Good K tg F' H' ρ' σ'->Ext (Own ρ σ) (Own ρ' σ') F H F' H'->relR K r v H (Own ρ σ) F' H' (Own ρ' σ')->E.rt v H'
 | .exc _=>False
def TSd(K:Fg9)(g:Sd):TS:=fun E σ H=>∃tg F ρ fl ρ',Good K tg F H ρ σ/\g ρ=some (fl,ρ')/\FlOk K tg ρ σ F H E fl ρ'
structure SV (K:Fg9) (X:Cx) (st:iM) (g:Sd):Prop where
 go:X.K=K->PS X st (TSd K g)
instance {K:Fg9} {X:Cx} {st:iM} {g:Sd}:CoeFun (SV K X st g) fun _=>X.K=K->PS X st (TSd K g):=⟨SV.go⟩
structure SVs (K:Fg9) (X:Cx) (ss:List iM) (g:Sd):Prop where
 go:X.K=K->PSs X ss (TSd K g)
instance {K:Fg9} {X:Cx} {ss:List iM} {g:Sd}:CoeFun (SVs K X ss g) fun _=>X.K=K->PSs X ss (TSd K g):=⟨SVs.go⟩
theorem PS.imp{t t':TS}(h:PS X st t)(w:∀E σ H,t' E σ H->t E σ H):PS X st t':=fun zv s σ H E I q=>h zv s σ H E I (w E σ H q)
theorem PSs.imp{t t':TS}(h:PSs X ss t)(w:∀E σ H,t' E σ H->t E σ H):PSs X ss t':=fun zv s σ H E I q=>h zv s σ H E I (w E σ H q)
theorem FlOk.back{tg:Nat->aZ}{ρ ρ1 ρ':Ro}{σ σ1:L2.St}{F H F1 H1:Hp}{E:Ends}{fl:Fl}(x:Ext (Own ρ σ) (Own ρ1 σ1) F H F1 H1)(h:FlOk K tg ρ σ F H E fl ρ'):FlOk K tg ρ1 σ1 F1 H1 E fl ρ':=by
 cases fl with
 | nx=>exact fun σ' H' F' G' x'=>h σ' H' F' G' (x.trans x')
 | brk=>exact fun σ' H' F' G' x'=>h σ' H' F' G' (x.trans x')
 | cont=>exact fun σ' H' F' G' x'=>h σ' H' F' G' (x.trans x')
 | ret r=>exact fun v σ' H' F' G' x' rr=>h v σ' H' F' G' (x.trans x') (ou x rr)
 | exc _=>exact h
def dNx:Sd:=fun ρ=>some (.nx,ρ)
noncomputable def dSeq(g k:Sd):Sd:=fun ρ=>match g ρ with
 | some (.nx,ρ1)=>k ρ1
 | r=>r
theorem jq:SVs K X [] dNx:=SVs.mk fun _=>PSs.imp az1 fun E σ H hq0=>by
 obtain⟨tg,F,ρ,fl,ρ',G,em,q⟩:=hq0;cases em;exact q σ H F G (Ext.refl _ _ _)
theorem bc{g:Sd}(h:SV K X st g):SVs K X [st] g:=SVs.mk fun hk=>asu (h hk)
theorem ao{g k:Sd}(h:SV K X st g)(t:SVs K X ss k):SVs K X (st::ss) (dSeq g k):=SVs.mk fun hk=>PSs.imp (awf (h hk) (t hk)) fun E σ H hq0=>by
 obtain⟨tg,F,ρ,fl,ρ',G,em,q⟩:=hq0;unfold dSeq at em;split at em
 ·rename_i ρ1 e1;exact⟨tg,F,ρ,.nx,ρ1,G,e1,fun σ' H' F' G' x=>⟨tg,F',ρ1,fl,ρ',G',em,q.back x⟩⟩
 ·rename_i hn;refine⟨tg,F,ρ,fl,ρ',G,em,?_⟩;cases fl with
  | nx=>exact absurd em (hn ρ')
  | brk=>exact q
  | cont=>exact q
  | ret r=>exact q
  | exc _=>exact q
noncomputable def dM{α:Type}(m:M α)(k:α->Sd):Sd:=fun ρ=>match m ρ with
 | some (.ok x,ρ1)=>k x ρ1
 | some (.exc x,ρ1)=>some (.exc x,ρ1)
 | none=>none
theorem yp{α:Type}{m:M α}{k:α->Sd}{ρ ρ':Ro}{fl:Fl}{P:Prop}(h:dM m k ρ=some (fl,ρ'))(hx:FlOk K tg ρ0 σ0 F0 H0 E0' fl ρ')(go:∀x ρ1,m ρ=some (.ok x,ρ1)->k x ρ1=some (fl,ρ')->P):P:=by
 unfold dM at h;split at h
 ·exact go _ _ (by assumption) h
 ·cases h;exact(show False from hx).elim
 ·cases h
noncomputable def dRet(m:M Rv):Sd:=dM m fun r ρ=>some (.ret r,ρ)
theorem fj{m:M Rv}(h:ER K X e m):SV K X (.Return (some e) pos) (dRet m):=SV.mk fun hk=>PS.imp (a3p (h hk)) fun E σ H ⟨tg,F,ρ,fl,ρ',G,em,q⟩=>yp em q fun r ρ1 e1 em=>by
 cases em;exact⟨tg,F,ρ,r,_,G,e1,fun v H' F' G' x rr=>q v σ H' F' G' x rr⟩
noncomputable def dIf(m:M Bool)(g k:Sd):Sd:=dM m fun z=>if z=true then g else k
theorem xn{m:M Bool}{g k:Sd}{ss':List iM}(h:ET K X c m)(h1:SVs K X ss g)(h2:SVs K X ss' k):SV K X (.If c ss ss' pos) (dIf m g k):=SV.mk fun hk=>PS.imp (a8d (h hk) (h1 hk) (h2 hk)) fun E σ H ⟨tg,F,ρ,fl,ρ',G,em,q⟩=>yp em q fun z ρ1 e1 em=>by
 refine⟨tg,F,ρ,z,ρ1,G,e1,fun H' F' G' x =>?_⟩
 cases z with
 | true=>exact iteT ⟨tg,F',ρ1,fl,ρ',G',em,q.back x⟩
 | false=>exact iteF ⟨tg,F',ρ1,fl,ρ',G',em,q.back x⟩
def agc{α:Type}(m:M α):Sd:=dM m fun _ ρ=>some (.nx,ρ)
theorem uy{m:M Rv}(h:ER K X e m)(hs:mD e none pos.line X.env=pure false:=by rfl):SV K X (.Expr e pos) (agc m):=SV.mk fun hk=>PS.imp (az4 (h hk) hs) fun E σ H ⟨tg,F,ρ,fl,ρ',G,em,q⟩=>yp em q fun r ρ1 e1 em=>by
 cases em;exact⟨tg,F,ρ,r,_,G,e1,fun v H' F' G' x rr=>q σ H' F' G' x⟩
section
variable{tg:Nat->aZ}{F H:Hp}{ρ:Ro}{σ:L2.St}
theorem anc{i:Nat}{s:Sl}{v:V}{b:aZ}(hl:ρ.length=σ.length)(h:Own (dC ρ i s) (dC σ i (some v)) b):Own ρ σ b∨((∃t l,s=.own t l)/\v=.ref b):=by
 obtain⟨j,⟨t,l,e⟩,q⟩:=h;rw[bG] at e q
 by_cases hj:i=j
 ·subst hj;rw[if_pos rfl] at e q;split at e
  ·rename_i hi;rw[if_pos (by rw[<-hl];exact hi)] at q
   cases e;cases q;exact .inr ⟨⟨t,l,rfl⟩,rfl⟩
  ·cases e
 ·rw[if_neg hj] at e q;exact .inl ⟨j,⟨t,l,e⟩,q⟩
theorem Good.put(G:Good K tg F H ρ σ){s:Sl}{v:V}(i:Nat)(h:SlOk K tg F H s (some v))(n:∀t l a,s=.own t l->v=.ref a->¬Own ρ σ a):Good K tg F H (dC ρ i s) (dC σ i (some v)) where
 sub:=G.sub
 len:=by rw[dD,dD];exact G.len
 sl:=fun j s' o e q=>by
  rw[bG] at e q
  by_cases hj:i=j
  ·subst hj;rw[if_pos rfl] at e q;split at e
   ·rename_i hi;rw[if_pos (by rw[<-G.len];exact hi)] at q
    cases e;cases q;exact h
   ·cases e
  ·rw[if_neg hj] at e q;exact G.sl j s' o e q
 inj:=fun j k a ⟨⟨t,l,e⟩,q⟩ ⟨⟨t',l',e'⟩,q'⟩=>by
  rw[bG] at e q e' q'
  by_cases hj:i=j
  ·subst hj;rw[if_pos rfl] at e q
   by_cases hk:i=k
   ·exact hk
   ·rw[if_neg hk] at e' q';split at e
    ·rename_i hi;rw[if_pos (by rw[<-G.len];exact hi)] at q
     cases e;cases q;exact absurd ⟨k,⟨t',l',e'⟩,q'⟩ (n t l a rfl rfl)
    ·cases e
  ·rw[if_neg hj] at e q
   by_cases hk:i=k
   ·subst hk;rw[if_pos rfl] at e' q';split at e'
    ·rename_i hi;rw[if_pos (by rw[<-G.len];exact hi)] at q'
     cases e';cases q';exact absurd ⟨j,⟨t,l,e⟩,q⟩ (n t' l' a rfl rfl)
    ·cases e'
   ·rw[if_neg hk] at e' q';exact G.inj j k a ⟨⟨t,l,e⟩,q⟩ ⟨⟨t',l',e'⟩,q'⟩
def Rv.sl:Rv->Sl
 | .v d=>.val d
 | .fr l=>.own none l
 | .tf _ _=>.emp
theorem Good.store{F0 H0:Hp}{O:aZ->Prop}(G:Good K tg F H ρ σ)(x:Ext O (Own ρ σ) F0 H0 F H){r:Rv}{v:V}(i:Nat)(h:relR K r v H0 O F H (Own ρ σ)) :
  Good K tg F H (dC ρ i r.sl) (dC σ i (some v))/\Ext O (Own (dC ρ i r.sl) (dC σ i (some v))) F0 H0 F H:=by
 cases r with
 | v d =>
  refine⟨G.put i ⟨v,rfl,h⟩ (fun t l a e=>by cases e),x.sub,x.new,x.keep,fun b w =>?_,x.there⟩
  rcases anc G.len w with w | ⟨⟨t,l,e⟩,_⟩
  ·exact x.own b w
  ·cases e
 | fr l =>
  obtain⟨a,vs,rfl,ha,hf,hh,hl,hn⟩:=h;refine⟨G.put i ⟨a,vs,rfl,hf,hh,hl,fun k e=>by cases e⟩ (fun t l' b _ e2=>by cases e2;exact hn),x.sub,x.new,x.keep,fun b w =>?_,x.there⟩
  rcases anc G.len w with w | ⟨_,e⟩
  ·exact x.own b w
  ·cases e;exact ha.symm
 | tf d l =>
  refine⟨G.put i trivial (fun t l a e=>by cases e),x.sub,x.new,x.keep,fun b w =>?_,x.there⟩
  rcases anc G.len w with w | ⟨⟨t,l,e⟩,_⟩
  ·exact x.own b w
  ·cases e
end
def dSet(i:Nat)(m:M Rv):Sd:=dM m fun r ρ=>some (.nx,dC ρ i r.sl)
theorem dq{i:Nat}{x:Str}{m:M Rv}(hN:X.N.Nodup)(hi:X.N[i]? = some x)(hx:Loc X.env.scope x)(h:ER K X e m)(hs:mD e (some (.Name x p)) pos.line X.env=pure false:=by rfl)(hf:X.fn x=true∨X.env.scope.names.lookup x=some .local:=by first | exact .inl rfl | exact .inr rfl | assumption) :
  SV K X (.Assign [.Name x p] e pos) (dSet i m):=SV.mk fun hk=>PS.imp (a3o hN hi hx (h hk) hs hf) fun E σ H ⟨tg,F,ρ,fl,ρ',G,em,q⟩=>yp em q fun r ρ1 e1 em=>by
 cases em;refine⟨tg,F,ρ,r,ρ1,G,e1,fun v H' F' G' x rr =>?_⟩
 obtain⟨G2,x2⟩:=G'.store x i rr;exact q _ H' F' G2 x2
def TGd(K:Fg9)(b:D->Ro->Option Ro):TG:=fun v σ H Q=>∃tg F ρ d ρ',Good K tg F H ρ σ/\Is K F d v/\b d ρ=some ρ'/\∀σ' H' F',Good K tg F' H' ρ' σ'->Ext (Own ρ σ) (Own ρ' σ') F H F' H'->Q σ' H'
structure GV (K:Fg9) (X:Cx) (e:dW) (b:D->Ro->Option Ro):Prop where
 go:X.K=K->PG X e (TGd K b)
instance {K:Fg9} {X:Cx} {e:dW} {b:D->Ro->Option Ro}:CoeFun (GV K X e b) fun _=>X.K=K->PG X e (TGd K b):=⟨GV.go⟩
theorem PG.imp{t t':TG}(h:PG X e t)(w:∀v σ H Q,t' v σ H Q->t v σ H Q):PG X e t':=fun zv s σ H v u Q I r q=>h zv s σ H v u Q I r (w v σ H Q q)
def di(i:Nat):D->Ro->Option Ro:=fun d ρ=>some (dC ρ i (.val d))
theorem Good.storeV{tg:Nat->aZ}{F H:Hp}{ρ:Ro}{σ:L2.St}(G:Good K tg F H ρ σ){d:D}{v:V}(i:Nat)(h:Is K F d v):Good K tg F H (dC ρ i (.val d)) (dC σ i (some v))/\Ext (Own ρ σ) (Own (dC ρ i (.val d)) (dC σ i (some v))) F H F H :=
 G.store (r:=.v d) (Ext.refl _ _ _) i h
theorem dj{i:Nat}{x:Str}(hN:X.N.Nodup)(hi:X.N[i]? = some x)(hx:Loc X.env.scope x)(hf:X.fn x=true∨X.env.scope.names.lookup x=some .local:=by first | exact .inl rfl | exact .inr rfl | assumption):GV K X (.Name x pos) (di i):=GV.mk fun _=>PG.imp (a0d hN hi hx hf) fun v σ H Q hq0=>by
 obtain⟨tg,F,ρ,d,ρ',G,h,em,q⟩:=hq0;cases em;obtain⟨G2,x2⟩:=G.storeV i h;exact q _ H F G2 x2
def TGsd(K:Fg9)(b:List D->Ro->Option Ro):TGs:=fun vs σ H Q=>∃tg F ρ ds ρ',Good K tg F H ρ σ/\IsL K F ds vs/\b ds ρ=some ρ'/\∀σ' H' F',Good K tg F' H' ρ' σ'->Ext (Own ρ σ) (Own ρ' σ') F H F' H'->Q σ' H'
structure GVs (K:Fg9) (X:Cx) (es:List dW) (b:List D->Ro->Option Ro):Prop where
 go:X.K=K->PGs X es (TGsd K b)
instance {K:Fg9} {X:Cx} {es:List dW} {b:List D->Ro->Option Ro}:CoeFun (GVs K X es b) fun _=>X.K=K->PGs X es (TGsd K b):=⟨GVs.go⟩
theorem PGs.imp{t t':TGs}(h:PGs X es t)(w:∀v σ H Q,t' v σ H Q->t v σ H Q):PGs X es t':=fun zv s σ H v u Q I r q=>h zv s σ H v u Q I r (w v σ H Q q)
def bNil:List D->Ro->Option Ro:=fun ds ρ=>match ds with
 | []=>some ρ
 | _=>none
def lq(b:D->Ro->Option Ro)(bs:List D->Ro->Option Ro):List D->Ro->Option Ro:=fun ds ρ=>match ds with
 | d::r=>(b d ρ).bind (bs r)
 | _=>none
theorem aal:GVs K X [] bNil:=GVs.mk fun _=>PGs.imp a0c fun vs σ H Q hq0=>by
 obtain⟨tg,F,ρ,ds,ρ',G,h,em,q⟩:=hq0;cases ds with
 | nil=>cases em;cases h;exact⟨rfl,q σ H F G (Ext.refl _ _ _)⟩
 | cons _ _=>cases em
theorem jo{b:D->Ro->Option Ro}{bs:List D->Ro->Option Ro}(h1:GV K X e b)(h2:GVs K X es bs)(hs:(jJ (e::es) X.env).map (·.2)=qI e X.env::(jJ es X.env).map (·.2):=by rfl):GVs K X (e::es) (lq b bs):=GVs.mk fun hk=>PGs.imp (awi (h1 hk) (h2 hk) hs) fun vs σ H Q hq0=>by
 obtain⟨tg,F,ρ,ds,ρ',G,h,em,q⟩:=hq0;cases h with
 | nil=>cases em
 | @cons d v ds vs hd ht =>
  have em:(b d ρ).bind (bs ds)=some ρ':=em;cases e1:b d ρ with
  | none=>rw[e1] at em;cases em
  | some ρ1 =>
   rw[e1] at em;exact⟨v,vs,rfl,tg,F,ρ,d,ρ1,G,hd,e1,fun σ' H' F' G' x=>⟨tg,F',ρ1,ds,ρ',G',ht.mono x.sub,em,fun σ2 H2 F2 G2 x2=>q σ2 H2 F2 G2 (x.trans x2)⟩⟩
def bTup(n:Nat)(bs:List D->Ro->Option Ro):D->Ro->Option Ro:=fun d ρ=>match d with
 | .tup l=>if l.length=n then bs l ρ else none
 | _=>none
theorem ac8{k n:Nat}{bs:List D->Ro->Option Ro}(hc:X.calm=true)(h:GVs K X es bs)(hn:(jJ es X.env).length=n:=by rfl)(hst:(jJ es X.env).findIdx? (·.1)=none:=by rfl):GV K X (.Tuple es k pos) (bTup n bs):=GV.mk fun hk=>PG.imp (a3t hc (h hk) hn hst) fun v σ H Q hq0=>by
 obtain⟨tg,F,ρ,d,ρ',G,hd,em,q⟩:=hq0;cases hd with
 | @tup a vs ds e hl =>
  have em:(if ds.length=n then bs ds ρ else none)=some ρ':=em
  split at em
  ·rename_i hz;exact⟨a,vs,rfl,SqT.of (G.sub _ _ e),by rw[<-hl.length];exact hz,tg,F,ρ,ds,ρ',G,hl,em,q⟩
  ·cases em
 | _=>cases em
def dAsg(m:M D)(b:D->Ro->Option Ro):Sd:=dM m fun d ρ=>(b d ρ).map fun ρ'=>(.nx,ρ')
theorem ar6{m:M D}{b:D->Ro->Option Ro}(h:EV K X e m)(hg:GV K X tgt b)(hs:swapsWithSole [tgt] e pos.line X.env=pure false:=by rfl)(hw:swappedStores [tgt] e X.env=pure none:=by rfl)
  (h1:(jJ [tgt] X.env).map (·.2)=[qI tgt X.env]:=by rfl):SV K X (.Assign [tgt] e pos) (dAsg m b):=SV.mk fun hk=>PS.imp (ayf (h hk) (hg hk) hs hw h1) fun E σ H ⟨tg,F,ρ,fl,ρ',G,em,q⟩=>yp em q fun d ρ1 e1 em=>by
 refine⟨tg,F,ρ,d,ρ1,G,e1,fun v H' F' G' x r =>?_⟩
 cases e2:b d ρ1 with
 | none=>rw[e2] at em;cases em
 | some ρ2 =>
  rw[e2] at em;cases em;exact⟨tg,F',ρ1,d,_,G',r,e2,fun σ2 H2 F2 G2 x2=>q σ2 H2 F2 G2 (x.trans x2)⟩
def dPar(i j:Nat)(m:M (List D)):Sd:=dM m fun ds ρ=>match ds with
 | [d,d']=>some (.nx,dC (dC ρ i (.val d)) j (.val d'))
 | _=>none
theorem a3a{i j:Nat}{x y:Str}{px py pt:Pos}{kt k2 pt2}{m:M (List D)}(hc:X.calm=true)(hN:X.N.Nodup)(hi:X.N[i]? = some x)(hj:X.N[j]? = some y)(hij:i≠j)
  (hx:X.env.scope.names.lookup x=some .local) (hy:X.env.scope.names.lookup y=some .local) (h:ED K X [a,b] m)
  (hw:swappedStores [.Tuple [.Name x px,.Name y py] kt pt] (.Tuple [a,b] k2 pt2) X.env=pure (some [x,y]):=by rfl)
  (hs:swapsWithSole [.Tuple [.Name x px,.Name y py] kt pt] (.Tuple [a,b] k2 pt2) pos.line X.env=pure false:=by rfl) :
  SV K X (.Assign [.Tuple [.Name x px,.Name y py] kt pt] (.Tuple [a,b] k2 pt2) pos) (dPar i j m):=SV.mk fun hk=>PS.imp (a3q hc hN hi hj hij hx hy (h hk) hw hs) fun E σ H ⟨tg,F,ρ,fl,ρ',G,em,q⟩=>yp em q fun ds ρ1 e1 em=>by
 refine⟨tg,F,ρ,ds,ρ1,G,e1,fun vs H' F' G' x r =>?_⟩
 match ds,em with
 | [d,d'],em =>
  cases em;cases r with
  | @cons _ v _ _ h1 r =>
   cases r with
   | @cons _ v' _ _ h2 r =>
    cases r;obtain⟨G2,x2⟩:=G'.storeV i h1;obtain⟨G3,x3⟩:=G2.storeV j h2;exact⟨v,v',rfl,q _ H' F' G3 ((x.trans x2).trans x3)⟩
theorem Good.mut{tg:Nat->aZ}{F H:Hp}{ρ:Ro}{σ:L2.St}(G:Good K tg F H ρ σ){i:Nat}{t:Option Nat}{l l':List D}{a:aZ}{ys:List V}(e:(ρ:List Sl)[i]? = some (.own t l))(q:σ[i]? = some (some (.ref a)))(h:IsL K F l' ys) :
  Good K tg F (upd H a (.lst ys)) (dC ρ i (.own t l')) σ/\Ext (Own ρ σ) (Own (dC ρ i (.own t l')) σ) F H F (upd H a (.lst ys)):=by
 obtain⟨a',vs,e1,hf,hh,hl,ht⟩:=G.sl i _ _ e q;cases e1;have ow:∀j b,Owns (dC ρ i (.own t l')) σ j b->Owns ρ σ j b:=fun j b ⟨⟨t2,l2,e2⟩,q2⟩=>by
  rw[bG] at e2
  by_cases hj:i=j
  ·subst hj;exact⟨⟨t,l,e⟩,q2⟩
  ·rw[if_neg hj] at e2;exact⟨⟨t2,l2,e2⟩,q2⟩
 have me:Own ρ σ a:=⟨i,⟨t,l,e⟩,q⟩;refine⟨⟨fun b o z =>?_,by rw[dD];exact G.len,fun j s o e2 q2 =>?_,fun j k b w1 w2=>G.inj j k b (ow _ _ w1) (ow _ _ w2)⟩,Same.refl F,fun _ _ z=>.inl z,fun b o z n =>?_,fun b ⟨j,w⟩=>.inl ⟨j,ow j b w⟩,fun b z =>?_⟩
 ·have hb:b≠a:=fun z2=>by
   subst z2;rw[hf] at z;cases z
  rw[cu hb];exact G.sub b o z
 ·rw[bG] at e2
  by_cases hj:i=j
  ·subst hj;rw[if_pos rfl] at e2;split at e2
   ·cases e2;rw[q] at q2;cases q2;exact⟨a,ys,rfl,hf,gw,h,ht⟩
   ·cases e2
  ·rw[if_neg hj] at e2;have z:=G.sl j s o e2 q2;cases s with
   | emp=>trivial
   | val d=>exact z
   | box c fs =>
    obtain⟨b,C,dx,fvs,e1,e2,e3,e4⟩:=z;have hb:b≠a:=fun z2=>by
     subst z2;rw[e3] at hh;cases hh
    exact⟨b,C,dx,fvs,e1,e2,by rw[cu hb];exact e3,e4⟩
   | own t2 l2 =>
    obtain⟨b,ws,e3,hf3,hh3,hl3,ht3⟩:=z;have hb:b≠a:=fun z2=>by
     subst z2;exact hj (G.inj i j b ⟨⟨t,l,e⟩,q⟩ ⟨⟨t2,l2,e2⟩,by rw[q2,e3]⟩)
    exact⟨b,ws,e3,hf3,by rw[cu hb];exact hh3,hl3,ht3⟩
 ·have hb:b≠a:=fun z2=>n (z2▸me)
  rw[cu hb];exact z
 ·by_cases hb:b=a
  ·subst hb;rw[gw] at z;cases z
  ·rw[cu hb] at z;exact z
def mOwn(i:Nat):M (List D):=fun ρ=>match ρ[i]? with
 | some (.own _ l)=>some (.ok l,ρ)
 | _=>none
theorem ag3{tg:Nat->aZ}{F H:Hp}{ρ ρ':Ro}{σ:L2.St}(G:Good K tg F H ρ σ){i:Nat}{l:List D}(em:mOwn i ρ=some (.ok l,ρ')):ρ'=ρ/\∃t a xs,(ρ:List Sl)[i]? = some (.own t l)/\σ[i]? = some (some (.ref a))/\H a=some (.lst xs)/\IsL K F l xs:=by
 unfold mOwn at em;split at em
 ·rename_i t l' e';cases em;obtain⟨o,ho,a,vs,rfl,hf,hh,hl,_⟩:=G.at e';exact⟨rfl,t,a,vs,e',ho,hh,hl⟩
 ·cases em
def aeo(i:Nat)(l':List D):M Unit:=fun ρ=>match ρ[i]? with
 | some (.own t _)=>some (.ok (),dC ρ i (.own t l'))
 | _=>none
def mMut(i:Nat)(g:List D->List D->Option (D×List D))(ms:M (List D)):M D:=(mOwn i).bind fun _=>ms.bind fun ds=>(mOwn i).bind fun l=>(lift (g l ds)).bind fun r=>(aeo i r.2).bind fun _=>ret r.1
def MutD(K:Fg9)(r:V->List V->Hp->VK->Prop)(g:List D->List D->Option (D×List D)):Prop :=
 ∀(F H:Hp) (a:aZ) (xs vs:List V) (l ds:List D) (d:D) (l':List D) (Q:VK),Same F H->H a=some (.lst xs)->xs.length<=capS->IsL K F l xs->IsL K F ds vs->g l ds=some (d,l')->(∀v ys,Is K F d v->IsL K F l' ys->Q v (upd H a (.lst ys)))->r (.ref a) vs H Q
theorem anp{tg:Nat->aZ}{F H:Hp}{ρ ρ2:Ro}{σ:L2.St}(G:Good K tg F H ρ σ){i:Nat}{l':List D}{u:Unit}{a:aZ}{ys:List V}(e:aeo i l' ρ=some (.ok u,ρ2))(q:σ[i]? = some (some (.ref a)))(h:IsL K F l' ys) :
  Good K tg F (upd H a (.lst ys)) ρ2 σ/\Ext (Own ρ σ) (Own ρ2 σ) F H F (upd H a (.lst ys)):=by
 unfold aeo at e;split at e
 ·rename_i t l e';cases e;exact G.mut e' q h
 ·cases e
theorem apo{i:Nat}{name:Str}{id:String}{r:V->List V->Hp->VK->Prop}{g:List D->List D->Option (D×List D)}{ms:M (List D)}{apos cpos:Pos}(hr:MutD K r g)(slot:Slot "list" name id)(hty:typeOf (.builtin id)=pure (.type "method_descriptor"))(hm:MtR X id r)(ho:PE X a (tVar i))(ha:ED K X (e::es) ms)
  (hbase:attributeBase a name X.env (eval a X.env)=eval a X.env:=by rfl)
  (hfew:((jB cpos (aX (e::es) X.env)).all (fun x => !x.1)&&(backToKw cpos (keywordEach [] X.env)).all (fun x=>x.1.isSome)
   && decide ((e::es).length+([]:List qO).length+(if ([]:List qO).isEmpty then 0 else 1) < 30))=true:=by rfl)
  (hline:(apos.endLine==cpos.line)=true:=by rfl) (hs:aX (e::es) X.env=(false,eval e X.env)::aX es X.env:=by rfl) (hplain:(jB cpos (aX es X.env)).any (·.1)=false:=by rfl) :
  EV K X (.Call (.Attribute a name apos) (e::es) [] cpos) (mMut i g ms):=EV.mk fun hk=>by
 intro zv s σ H Q I ⟨tg,F,ρ,d,ρ',G,em,q⟩;obtain⟨l0,ρ0,e0,em1⟩:=bw em;obtain⟨ds,ρ1,e1,em2⟩:=bw em1;obtain⟨l,ρ2,e2,em3⟩:=bw em2;obtain⟨x,ρ3,e3,em4⟩:=bw em3;obtain⟨u,ρ4,e4,em5⟩:=bw em4;obtain⟨rfl,rfl⟩:=kj em5;obtain⟨eg,rfl⟩:=ik e3;obtain⟨rfl,t0,b,xs0,es0,hv,hh0,hl0⟩:=ag3 G e0;refine awo (r:=fun x vs H Q=>(∀b xs,x=.ref b->H b=some (.lst xs)->xs.length<=capS)->r x vs H Q) oO slot hty (fun zv s σ H x xs v us Q I rx rv h=>hm zv s σ H x xs v us Q I rx rv (h fun b xs _ hb =>?_)) ho (ha hk) hbase hfew hline hs hplain zv s σ H Q I ?_
 ·obtain⟨z,_⟩:=I.lstM hb;rw[iV] at z;exact z
 refine⟨_,hv,.inl ⟨rfl,_,SqL.of hh0⟩,tg,F,ρ0,ds,ρ1,G,e1,fun vs H1 F1 G1 x1 r1 cap =>?_⟩
 obtain⟨rfl,t,a',xs,es',hv',hh,hl⟩:=ag3 G1 e2;rw[hv] at hv';cases hv';refine hr F1 H1 _ xs vs l ds x.1 x.2 Q G1.sub hh (cap _ _ rfl hh) hl r1 eg fun w ys iw il =>?_
 obtain⟨G2,x2⟩:=anp G1 e4 hv il;exact q w _ F1 G2 (x1.trans x2) iw
def afq(l ds:List D):Option (D×List D):=match ds with
 | [d]=>if l.length < capS then some (.non,l++[d]) else none
 | _=>none
theorem acs:MutD K ass afq:=by
 intro F H a xs vs l ds d l' Q g hh hc hl hd eg q
 match ds,eg with
 | [d1],eg =>
  have eg:(if l.length < capS then some (D.non,l++[d1]) else none)=some (d,l'):=eg
  split at eg
  ·rename_i hz;cases eg;cases hd with
   | cons h t =>
    cases t;exact⟨a,xs,_,rfl,rfl,hh,by rw[iV,<-hl.length];exact hz,q _ _ .non (hl.append (.cons h .nil))⟩
  ·cases eg
def dSub(i:Nat)(mi m:M D):Sd:=dM m fun d=>dM (mOwn i) fun _=>dM mi fun k=>dM (mOwn i) fun l=>dM (lift ((asI k).bind (ixN l.length))) fun j=>dM (aeo i (l.set j d)) fun _=>dNx
theorem aie{i:Nat}{mi m:M D}(h:EV K X e m)(ho:PE X a (tVar i))(hi:EV K X b mi)(hs:swapsWithSole [.Subscript a b p] e pos.line X.env=pure false:=by rfl)(hw:swappedStores [.Subscript a b p] e X.env=pure none:=by rfl)
  (h1:(jJ [.Subscript a b p] X.env).map (·.2)=[qI (.Subscript a b p) X.env]:=by rfl)
  (ha:∀v,qI (.Subscript a b p) X.env v=(do
   let ov <-nJ [v] (eval a X.env)
   let iv <-nJ [v,ov] (eval b X.env)
   standAt p
   nJ [v,ov,iv] (setItem ov iv v)
   release [v,ov,iv] []):=by intro _;rfl):SV K X (.Assign [.Subscript a b p] e pos) (dSub i mi m):=SV.mk fun hk=>PS.imp (ayf (h hk) (a3u ho (hi hk) set_list ha) hs hw h1) fun E σ H ⟨tg,F,ρ,fl,ρ',G,em,q⟩ =>
 yp em q fun d ρ1 e1 em=>yp em q fun l0 ρ0 e0 em=>yp em q fun k ρ2 e2 em=>yp em q fun l ρ3 e3 em=>yp em q fun j ρ4 e4 em=>yp em q fun u ρ5 e5 em=>by
 cases em;obtain⟨e6,rfl⟩:=ik e4;refine⟨tg,F,ρ,d,ρ1,G,e1,fun v H1 F1 G1 x1 r1 =>?_⟩
 obtain⟨rfl,t0,a0,xs0,es0,hv,hh0,hl0⟩:=ag3 G1 e0;refine⟨_,hv,tg,F1,_,k,ρ2,G1,e2,fun w H2 F2 G2 x2 r2 =>?_⟩
 obtain⟨rfl,t,a1,xs,es1,hv',hh,hl⟩:=ag3 G2 e3;rw[hv] at hv';cases hv';cases ek:asI k with
 | none=>rw[ek] at e6;cases e6
 | some n =>
  rw[ek] at e6;obtain rfl:=apy ek;cases r2;obtain⟨G3,x3⟩:=anp G2 e5 hv (hl.set (r1.mono x2.sub) j);exact⟨_,xs,n,j,rfl,rfl,hh,by rw[<-hl.length];exact e6,q _ _ F2 G3 ((x1.trans x2).trans x3)⟩
end
section
variable{K:Fg9}{X:Cx}{e a b c tgt iter elt:dW}{es:List dW}{pos p p2:Pos}{st:iM}{ss:List iM}
theorem _root_.Mn.ItOf.imp{J:It}{xs:List V}{S S':Hp->Prop}(Z:ItOf J xs S)(h:∀H,S' H->S H):ItOf J xs S':=⟨fun i H q=>Z.go i H (h H q),fun i H x H' q=>Z.yld i H x H' (h H q),fun i H q=>Z.stop i H (h H q)⟩
def Alt(K:Fg9)(F:Hp)(d:D)(x:V)(H H':Hp):Prop:=(H'=H/\Is K F d x)∨∃q vs ds,H q=none/\x=.ref q/\H'=upd H q (.tup vs)/\d=.tup ds/\IsL K F ds vs
structure ItD (K:Fg9) (J:It) (l:List D) (F:Hp):Prop where
 go:∀i H,Same F H->i < l.length->J.go i H
 yld:∀i H x H' d,Same F H->J.yld i H x H'->l[i]? = some d->Alt K F d x H H'
 stop:∀H,Same F H->J.stop l.length H
theorem ItD.of{J:It}{l:List D}{vs:List V}{F:Hp}(il:IsL K F l vs)(Z:ItOf J vs fun H2=>Same F H2):ItD K J l F where
 go:=fun i H s hi=>Z.go i H s (by rw[<-il.length];exact hi)
 yld:=fun i H x H' d s y hd=>by
  obtain⟨v,hv,iv⟩:=il.get hd;obtain⟨e,z⟩:=Z.yld i H x H' s y;have:=z (aQ.mp hv).1;rw[hv] at this;cases this;exact .inl ⟨e,iv⟩
 stop:=fun H s=>Z.stop _ H s (by rw[<-il.length];exact aL _)
theorem ap0{tg:Nat->aZ}{O:aZ->Prop}{F H F1 F2 H2 H3:Hp}{ρ2:Ro}{σ2:L2.St}{d:D}{x:V}(G2:Good K tg F2 H2 ρ2 σ2)(x2:Ext O (Own ρ2 σ2) F H F2 H2)(s2:Same F1 F2)(a:Alt K F1 d x H2 H3) :
  ∃F3,Good K tg F3 H3 ρ2 σ2/\Ext O (Own ρ2 σ2) F H F3 H3/\Same F1 F3/\Is K F3 d x/\Ext (Own ρ2 σ2) (Own ρ2 σ2) F2 H2 F3 H3:=by
 rcases a with⟨rfl,id⟩ | ⟨q,vs,ds,hq,rfl,rfl,rfl,il⟩
 ·exact⟨F2,G2,x2,s2,id.mono s2,Ext.refl _ _ _⟩
 ·have z:=G2.newX hq (.tup vs);exact⟨_,G2.new hq _,x2.trans z,s2.trans z.sub,.tup gw (il.mono (s2.trans z.sub)),z⟩
theorem a1l{J:It}{l:List D}{F:Hp}(Z:ItD K J l F){g:TG}{tb:TS}{D':Ends}{σ:L2.St}{H:Hp}(Pv:Nat->L2.St->Hp->Prop)(h0:Pv 0 σ H)(hl:∀i σ H,i<=l.length->Pv i σ H->Same F H)
  (hs:∀i d x σ H H',l[i]? = some d->Pv i σ H->Alt K F d x H H'->g x σ H' fun σ2 H2=>tb { D' with nx:=Pv (i+1),ct:=Pv (i+1),bk:=D'.nx } σ2 H2) (hd:∀σ H,Pv l.length σ H->D'.nx σ H) :
  ∃W:Nat->Nat->L2.St->Hp->Prop,(∃m,W 0 m σ H)/\∀i m σ H,W i m σ H ->
   (J.stop i H/\D'.nx σ H)∨(J.go i H/\∃N:L2.St->Hp->Prop,(∀σ' H',N σ' H'->∃m',m' < m/\W (i+1) m' σ' H')/\∀x H',J.yld i H x H'->g x σ H' fun σ2 H2=>tb { D' with nx:=N,ct:=N,bk:=D'.nx } σ2 H2):=by
 refine⟨fun i m σ H=>m=l.length - i/\i<=l.length/\Pv i σ H,⟨l.length,by simp,eF _,h0⟩,?_⟩
 rintro i m σ H ⟨rfl,hi,p⟩
 have q:=hl i σ H hi p
 by_cases hlt:i < l.length
 ·exact .inr ⟨Z.go i H q hlt,Pv (i+1),fun σ' H' p'=>⟨l.length - (i+1),by omega,rfl,hlt,p'⟩,fun x H' y=>hs i _ x σ H H' (aF hlt) p (Z.yld i H x H' _ q y (aF hlt))⟩
 ·have e:i=l.length:=by omega
  subst e;exact .inl ⟨Z.stop H q,hd σ H p⟩
theorem axx{J:It}{l:List D}{F:Hp}(Z:ItD K J l F){d:aZ}{g:TG}{ti:TT}{te:TE}{Q:VK}{σ0:L2.St}{H1:Hp}(Pv:Nat->List V->L2.St->Hp->Prop)(h0:Pv 0 [] σ0 (upd H1 d (.lst [])))
  (hl:∀i ys σ H,i<=l.length->Pv i ys σ H->Same F H/\H d=some (.lst ys))
  (hs:∀i e x ys σ H H' (M:List V->L2.St->Hp->Prop),l[i]? = some e->Pv i ys σ H->Alt K F e x H H'->(∀ys' σ' H',Pv (i+1) ys' σ' H'->M ys' σ' H') ->
   g x σ H' fun σ4 H4=>ti σ4 H4 fun b H5=>if b=true then te σ4 H5 fun y H6=>H6 d=some (.lst ys)/\ys.length < cJ/\M (ys++[y]) σ4 (upd H6 d (.lst (ys++[y]))) else M ys σ4 H5)
  (hd:∀ys σ H,Pv l.length ys σ H->Q (.ref d) H):a6s J g ti te Q d σ0 H1:=by
 refine⟨fun i m ys σ H=>m=l.length - i/\i<=l.length/\Pv i ys σ H,⟨l.length,by simp,eF _,h0⟩,?_⟩
 rintro i m ys σ H ⟨rfl,hi,p⟩
 obtain⟨q,e⟩:=hl i ys σ H hi p;refine⟨e,?_⟩
 by_cases hlt:i < l.length
 ·exact .inr ⟨Z.go i H q hlt,fun x H' y=>hs i _ x ys σ H H' (fun ys' σ' H'=>∃m',m' < l.length - i/\(m'=l.length - (i+1)/\i+1<=l.length/\Pv (i+1) ys' σ' H')) (aF hlt) p (Z.yld i H x H' _ q y (aF hlt)) fun ys' σ' H' p'=>⟨l.length - (i+1),by omega,rfl,hlt,p'⟩⟩
 ·have e:i=l.length:=by omega
  subst e;exact .inl ⟨Z.stop H q,hd ys σ H p⟩
def TIt(K:Fg9)(m:M (List D)):TI:=fun σ H R=>∃tg F ρ l ρ',Good K tg F H ρ σ/\m ρ=some (.ok l,ρ')/\∀J H' F',Good K tg F' H' ρ' σ->Ext (Own ρ σ) (Own ρ' σ) F H F' H'->ItD K J l F'->R J H'
structure IT (K:Fg9) (X:Cx) (tgt iter:dW) (m:M (List D)):Prop where
 go:X.K=K->PI X tgt iter (TIt K m)
instance {K:Fg9} {X:Cx} {tgt iter:dW} {m:M (List D)}:CoeFun (IT K X tgt iter m) fun _=>X.K=K->PI X tgt iter (TIt K m):=⟨IT.go⟩
def yh(m:M D):M (List D):=m.bind fun d=>lift (itemsD d)
theorem aaf{m:M D}(h:EV K X iter m):IT K X tgt iter (yh m):=IT.mk fun hk=>by
 intro zv s σ H R I ⟨tg,F,ρ,l,ρ',G,em,q⟩;obtain⟨d,ρ1,e1,em⟩:=bw em;obtain⟨e2,rfl⟩:=ik em;have h:=h hk;subst hk;cases d with
 | tup k =>
  cases e2;refine a3s h zv s σ H R I ⟨tg,F,ρ,_,_,G,e1,fun v H' F' G' x r =>?_⟩
  cases r with
  | @tup a vs _ e hl=>exact⟨a,rfl,⟨vs,SqT.of (G'.sub _ _ e)⟩,q _ H' F' G' x (.of hl (axc.imp fun H2 g=>SqT.of (g _ _ e)))⟩
 | lst k =>
  cases e2;refine as3 h zv s σ H R I ⟨tg,F,ρ,_,_,G,e1,fun v H' F' G' x r =>?_⟩
  cases r with
  | @lst a vs _ e hl=>exact⟨a,rfl,⟨vs,SqL.of (G'.sub _ _ e)⟩,q _ H' F' G' x (.of hl (apf.imp fun H2 g=>SqL.of (g _ _ e)))⟩
 | kst k =>
  cases e2;refine as3 h zv s σ H R I ⟨tg,F,ρ,_,_,G,e1,fun v H' F' G' x r =>?_⟩
  cases r with
  | @kst a vs _ e hl=>exact⟨a,rfl,⟨vs,L2.Same.seq G'.sub e⟩,q _ H' F' G' x (.of hl (apf.imp fun H2 g=>L2.Same.seq g e))⟩
 | _=>cases e2
def rangeD(lo:Int)(n:Nat):List D:=(aK n).map fun i=>D.int (lo+(i:Nat))
theorem ajo{F:Hp}(lo:Int)(n:Nat):IsL K F (rangeD lo n) (ups lo n):=by
 have e1:rangeD lo n=((aK n).map fun i=>lo+((i:Nat):Int)).map D.int:=by unfold rangeD;rw[dN];rfl
 have e2:ups lo n=((aK n).map fun i=>lo+((i:Nat):Int)).map V.int:=by unfold ups;rw[dN];rfl
 rw[e1,e2];exact agi _
theorem ard{j:Int}(h:j.natAbs < 4611686018427387904) : -2 ^ 62<=j/\j < 2 ^ 62:=by
 have e:(2:Int) ^ 62=4611686018427387904:=by decide
 rw[e];omega
def qt:List D->Option (List D)
 | [.int j]=>if j.natAbs < 4611686018427387904 then some (rangeD 0 j.toNat) else none
 | _=>none
def aj9:List D->Option (List D)
 | [.int i,.int j]=>if i.natAbs < 4611686018427387904/\j.natAbs < 4611686018427387904 then some (rangeD i (j - i).toNat) else none
 | _=>none
def mGet{α β:Type}(g:α->Option β)(m:M α):M β:=m.bind fun ds=>lift (g ds)
theorem qb{m:M (List D)}(hg:Gl X "range")(hm:X.mg "range" = none)(h:ED K X [a] m)(hs:aX [a] X.env=[(false,eval a X.env)]:=by rfl):IT K X tgt (.Call (.Name "range" p) [a] [] pos) (mGet qt m):=IT.mk fun hk=>by
 intro zv s σ H R I ⟨tg,F,ρ,l,ρ',G,em,q⟩;obtain⟨ds,ρ1,e1,em⟩:=bw em;obtain⟨e2,rfl⟩:=ik em;refine asz hg hm (h hk) hs zv s σ H R I ⟨tg,F,ρ,ds,_,G,e1,fun vs H' F' G' x r =>?_⟩
 unfold qt at e2;split at e2
 ·split at e2
  ·rename_i j hc;cases e2;cases r with
   | cons h t =>
    cases t;cases h;exact⟨_,rfl,(ard hc).1,(ard hc).2,q _ H' F' G' x (.of (ajo 0 _) (ape.imp fun _ _=>trivial))⟩
  ·cases e2
 ·cases e2
theorem aty{m:M (List D)}(hg:Gl X "range")(hm:X.mg "range" = none)(h:ED K X [a,b] m)(hs:aX [a,b] X.env=[(false,eval a X.env),(false,eval b X.env)]:=by rfl)(hs2:aX [b] X.env=[(false,eval b X.env)]:=by rfl):IT K X tgt (.Call (.Name "range" p) [a,b] [] pos) (mGet aj9 m):=IT.mk fun hk=>by
 intro zv s σ H R I ⟨tg,F,ρ,l,ρ',G,em,q⟩;obtain⟨ds,ρ1,e1,em⟩:=bw em;obtain⟨e2,rfl⟩:=ik em;refine asy hg hm (h hk) hs hs2 zv s σ H R I ⟨tg,F,ρ,ds,_,G,e1,fun vs H' F' G' x r =>?_⟩
 unfold aj9 at e2;split at e2
 ·split at e2
  ·rename_i i j hc;cases e2;cases r with
   | cons h t =>
    cases t with
    | cons h2 t =>
     cases t;cases h;cases h2;exact⟨_,_,rfl,⟨(ard hc.1).1,(ard hc.1).2,(ard hc.2).1,(ard hc.2).2⟩,q _ H' F' G' x (.of (ajo _ _) (ape.imp fun _ _=>trivial))⟩
  ·cases e2
 ·cases e2
noncomputable def forD(b:D->Ro->Option Ro)(g:Sd):List D->Sd
 | [],ρ=>some (.nx,ρ)
 | d::ds,ρ=>match b d ρ with
  | none=>none
  | some ρ1=>match g ρ1 with
   | some (.nx,ρ2)=>forD b g ds ρ2
   | some (.cont,ρ2)=>forD b g ds ρ2
   | some (.brk,ρ2)=>some (.nx,ρ2)
   | some (.ret r,ρ2)=>some (.ret r,ρ2)
   | some (.exc x,ρ2)=>some (.exc x,ρ2)
   | none=>none
def dFor(m:M (List D))(b:D->Ro->Option Ro)(g:Sd):Sd:=dM m (forD b g)
theorem aar{m:M (List D)}{b:D->Ro->Option Ro}{g:Sd}(hp:uW (bR X.prog X.w) X.A X.env X.xe)(hc:X.calm=true)(hi:IT K X tgt iter m)(hg:GV K X tgt b)(hb:SVs K X ss g)
  (hs:∀x,iB iter X.env x=pure x:=by intro _;rfl):SV K X (.For tgt iter ss [] pos) (dFor m b g):=SV.mk fun hk=>PS.imp (a3r hp hc (hi hk) (hg hk) (hb hk) hs) fun E σ H ⟨tg,F,ρ,fl,ρ',G,em,q⟩=>yp em q fun l ρ1 e1 em=>by
 refine⟨tg,F,ρ,l,ρ1,G,e1,fun J H1 F1 G1 x1 Z =>?_⟩
 refine a1l Z (fun i σ2 H2=>∃F2 ρ2,Good K tg F2 H2 ρ2 σ2/\Ext (Own ρ σ) (Own ρ2 σ2) F H F2 H2/\Same F1 F2/\forD b g (l.drop i) ρ2=some (fl,ρ')) ⟨F1,ρ1,G1,x1,Same.refl _,em⟩ (fun i σ2 H2 _ ⟨F2,ρ2,G2,_,s2,_⟩=>s2.trans G2.sub) ?_ ?_
 ·rintro i d x σ2 H2' H2 hd ⟨F2',ρ2,G2',x2',s2',em2⟩ al
  obtain⟨F2,G2,x2,s2,id,_⟩:=ap0 G2' x2' s2' al;have hlt:i < l.length:=(aQ.mp hd).1;have ed:l[i]=d:=(aQ.mp hd).2;rw[nQ hlt,ed] at em2;unfold forD at em2;split at em2
  ·cases em2
  ·rename_i ρ3 e3;refine⟨tg,F2,ρ2,d,ρ3,G2,id,e3,fun σ3 H3 F3 G3 x3 =>?_⟩
   have again:∀{ρ4:Ro},forD b g (l.drop (i+1)) ρ4=some (fl,ρ')->∀σ' H' F',Good K tg F' H' ρ4 σ'->Ext (Own ρ3 σ3) (Own ρ4 σ') F3 H3 F' H' ->
     ∃F2 ρ2,Good K tg F2 H' ρ2 σ'/\Ext (Own ρ σ) (Own ρ2 σ') F H F2 H'/\Same F1 F2/\forD b g (l.drop (i+1)) ρ2=some (fl,ρ') :=
    fun{ρ4} e4 σ' H' F' G' x'=>⟨F',ρ4,G',(x2.trans x3).trans x',(s2.trans x3.sub).trans x'.sub,e4⟩
   split at em2
   ·rename_i ρ4 e4;exact⟨tg,F3,ρ3,.nx,ρ4,G3,e4,again em2⟩
   ·rename_i ρ4 e4;exact⟨tg,F3,ρ3,.cont,ρ4,G3,e4,again em2⟩
   ·rename_i ρ4 e4;cases em2;exact⟨tg,F3,ρ3,.brk,_,G3,e4,fun σ' H' F' G' x'=>q σ' H' F' G' ((x2.trans x3).trans x')⟩
   ·rename_i r ρ4 e4;cases em2;exact⟨tg,F3,ρ3,.ret r,_,G3,e4,fun v σ' H' F' G' x' rr=>q v σ' H' F' G' ((x2.trans x3).trans x') (ou (x2.trans x3) rr)⟩
   ·cases em2;exact(show False from q).elim
   ·cases em2
 ·rintro σ2 H2 ⟨F2,ρ2,G2,x2,s2,em2⟩
  rw[uR (aL _)] at em2;cases em2;exact q σ2 H2 F2 G2 x2
noncomputable def whileD(c:M Bool)(g:Sd):Nat->Sd
 | 0,_=>none
 | n+1,ρ=>match c ρ with
  | some (.ok true,ρ1)=>match g ρ1 with
   | some (.nx,ρ2)=>whileD c g n ρ2
   | some (.cont,ρ2)=>whileD c g n ρ2
   | some (.brk,ρ2)=>some (.nx,ρ2)
   | some (.ret r,ρ2)=>some (.ret r,ρ2)
   | some (.exc x,ρ2)=>some (.exc x,ρ2)
   | none=>none
  | some (.ok false,ρ1)=>some (.nx,ρ1)
  | some (.exc x,ρ1)=>some (.exc x,ρ1)
  | none=>none
theorem acn{m:M Bool}{g:Sd}(n:Nat)(hp:uW (bR X.prog X.w) X.A X.env X.xe)(hc:ET K X c m)(hb:SVs K X ss g):SV K X (.While c ss [] pos) (whileD m g n):=SV.mk fun hk=>PS.imp (awg hp (hc hk) (hb hk)) fun E σ H hq0=>by
 obtain⟨tg,F,ρ,fl,ρ',G,em,q⟩:=hq0;refine⟨fun k σ2 H2=>∃F2 ρ2,Good K tg F2 H2 ρ2 σ2/\Ext (Own ρ σ) (Own ρ2 σ2) F H F2 H2/\whileD m g k ρ2=some (fl,ρ'),⟨n,F,ρ,G,Ext.refl _ _ _,em⟩,?_⟩
 rintro k σ2 H2 ⟨F2,ρ2,G2,x2,em2⟩
 cases k with
 | zero=>cases em2
 | succ k =>
  unfold whileD at em2;split at em2
  ·rename_i ρ3 e3;refine⟨tg,F2,ρ2,true,ρ3,G2,e3,fun H3 F3 G3 x3=>iteT ?_⟩
   refine⟨fun σ' H'=>∃F2 ρ2,Good K tg F2 H' ρ2 σ'/\Ext (Own ρ σ) (Own ρ2 σ') F H F2 H'/\whileD m g k ρ2=some (fl,ρ'),fun σ' H' h=>⟨k,kZ k,h⟩,?_⟩
   split at em2
   ·rename_i ρ4 e4;exact⟨tg,F3,ρ3,.nx,ρ4,G3,e4,fun σ' H' F' G' x'=>⟨F',ρ4,G',(x2.trans x3).trans x',em2⟩⟩
   ·rename_i ρ4 e4;exact⟨tg,F3,ρ3,.cont,ρ4,G3,e4,fun σ' H' F' G' x'=>⟨F',ρ4,G',(x2.trans x3).trans x',em2⟩⟩
   ·rename_i ρ4 e4;cases em2;exact⟨tg,F3,ρ3,.brk,_,G3,e4,fun σ' H' F' G' x'=>q σ' H' F' G' ((x2.trans x3).trans x')⟩
   ·rename_i r ρ4 e4;cases em2;exact⟨tg,F3,ρ3,.ret r,_,G3,e4,fun v σ' H' F' G' x' rr=>q v σ' H' F' G' ((x2.trans x3).trans x') (ou (x2.trans x3) rr)⟩
   ·cases em2;exact(show False from q).elim
   ·cases em2
  ·rename_i ρ3 e3;cases em2;exact⟨tg,F2,ρ2,false,_,G2,e3,fun H3 F3 G3 x3=>iteF (q σ2 H3 F3 G3 (x2.trans x3))⟩
  ·cases em2;exact(show False from q).elim
  ·cases em2
end
def alu(ρ:Ro)(i:Nat)(o:Option Nat)(d:Option D):Sl:=match o with
 | some j=>match ρ[j]? with
  | some (.val d)=>.val d
  | some (.own _ l)=>.own (some i) l
  | _=>.emp
 | none=>match d with
  | some d=>.val d
  | none=>.emp
def lend(ρ:Ro)(js:List (Option Nat))(ds:List (Option D)):Ro:=(zM js ds).mapIdx fun i p=>alu ρ i p.1 p.2
def okJs(ρ:Ro):List (Option Nat)->Bool
 | []=>true
 | none::r=>okJs ρ r
 | some j::r=>(match ρ[j]? with
  | some (.own _ _) => !r.contains (some j)
  | _=>true)&&okJs ρ r
theorem ajz{ρ:Ro}:∀{js:List (Option Nat)} {i i' j:Nat} {t:Option Nat} {l:List D},okJs ρ js=true->js[i]? = some (some j)->js[i']? = some (some j)->ρ[j]? = some (.own t l)->i=i'
 | [],_,_,_,_,_,_,h,_,_=>by simp at h
 | o::r,0,0,_,_,_,_,_,_,_=>rfl
 | o::r,0,i'+1,j,t,l,hk,h,h',e=>by
  simp at h h';subst h;unfold okJs at hk;rw[e,bH] at hk;have:=gQ h';simp[this] at hk
 | o::r,i+1,0,j,t,l,hk,h,h',e=>by
  simp at h h';subst h';unfold okJs at hk;rw[e,bH] at hk;have:=gQ h;simp[this] at hk
 | none::r,i+1,i'+1,j,t,l,hk,h,h',e=>by
  rw[ajz (js:=r) (i:=i) (i':=i') (j:=j) (by unfold okJs at hk;exact hk) (by simpa using h) (by simpa using h') e]
 | some k::r,i+1,i'+1,j,t,l,hk,h,h',e=>by
  unfold okJs at hk;rw[bH] at hk;rw[ajz (js:=r) (i:=i) (i':=i') (j:=j) hk.2 (by simpa using h) (by simpa using h') e]
def putS(js:List (Option Nat))(ps:Ro)(j:Nat)(s:Sl):Sl:=match js.findIdx? (fun o=>o==some j) with
 | none=>s
 | some i=>match s with
  | .own t _=>match ps[i]? with
   | some (.own (some i') l')=>if i'=i then .own t l' else .emp
   | _=>.emp
  | s=>s
def putB(ρ:Ro)(js:List (Option Nat))(ps:Ro):Ro:=ρ.mapIdx fun j s=>putS js ps j s
def tgOf(τ:L2.St)(i:Nat):aZ:=match τ[i]? with
 | some (some (.ref a))=>a
 | _=>0
section
variable{K:Fg9}{tg:Nat->aZ}{F H F' H':Hp}{ρ ps:Ro}{σ τ:L2.St}{js:List (Option Nat)}{ds:List (Option D)}{O':aZ->Prop}
theorem apa{i:Nat}{s:Sl}(h:(lend ρ js ds:List Sl)[i]? = some s):∃o d,js[i]? = some o/\ds[i]? = some d/\s=alu ρ i o d:=by
 unfold lend at h;rw[qF] at h;cases e:(zM js ds)[i]? with
 | none=>rw[e] at h;cases h
 | some p =>
  rw[e] at h;cases h;rw[nP] at e;exact⟨p.1,p.2,e.1,e.2,rfl⟩
theorem aw4{i:Nat}{t:Option Nat}{l:List D}(h:(lend ρ js ds:List Sl)[i]? = some (.own t l)):∃j t',js[i]? = some (some j)/\ρ[j]? = some (.own t' l)/\t=some i:=by
 obtain⟨o,d,e1,e2,e3⟩:=apa h;unfold alu at e3;cases o with
 | none=>cases d <;> cases e3
 | some j =>
  simp only at e3;cases e:ρ[j]? with
  | none=>rw[e] at e3;cases e3
  | some s =>
   rw[e] at e3;cases s with
   | emp=>cases e3
   | val _=>cases e3
   | box _ _=>cases e3
   | own t' l'=>cases e3;exact⟨j,t',e1,e,rfl⟩
structure Lent (K:Fg9) (F:Hp) (σ τ:L2.St) (js:List (Option Nat)) (ds:List (Option D)):Prop where
 l1:τ.length=js.length
 l2:ds.length=js.length
 h1:∀(i j:Nat) (o:Option V),js[i]? = some (some j)->σ[j]? = some o->τ[i]? = some o
 h2:∀(i:Nat) (d:D),js[i]? = some none->ds[i]? = some (some d)->∃v,τ[i]? = some (some v)/\Is K F d v
theorem Good.σ_at(G:Good K tg F H ρ σ){j:Nat}{s:Sl}(e:(ρ:List Sl)[j]? = some s):∃o,σ[j]? = some o:=by
 obtain⟨o,h,_⟩:=G.at e;exact⟨o,h⟩
theorem acw(G:Good K tg F H ρ σ)(L:Lent K F σ τ js ds){i:Nat}{a:aZ}(h:Owns (lend ρ js ds) τ i a):∃j,js[i]? = some (some j)/\Owns ρ σ j a:=by
 obtain⟨⟨t,l,e⟩,q⟩:=h;obtain⟨j,t',e1,e2,_⟩:=aw4 e;obtain⟨o,ho⟩:=G.σ_at e2;have:=L.h1 i j o e1 ho;rw[q] at this;cases this;exact⟨j,e1,⟨t',l,e2⟩,ho⟩
theorem acd(G:Good K tg F H ρ σ)(hk:okJs ρ js=true)(L:Lent K F σ τ js ds):Good K (tgOf τ) F H (lend ρ js ds) τ where
 sub:=G.sub
 len:=by
  unfold lend;rw[wK,sV,L.l2,L.l1];omega
 sl:=fun i s o e q=>by
  obtain⟨oj,d,e1,e2,rfl⟩:=apa e;unfold alu;cases oj with
  | none =>
   cases d with
   | none=>trivial
   | some d =>
    obtain⟨v,h1,h2⟩:=L.h2 i d e1 e2;rw[q] at h1;cases h1;exact⟨v,rfl,h2⟩
  | some j =>
   simp only;cases e3:ρ[j]? with
   | none=>trivial
   | some s =>
    obtain⟨o',ho,w⟩:=G.at e3;have:=L.h1 i j o' e1 ho;rw[q] at this;cases this;cases s with
    | emp=>trivial
    | val d=>exact w
    | box _ _=>trivial
    | own t l =>
     obtain⟨a,vs,rfl,hf,hh,hl,_⟩:=w;refine⟨a,vs,rfl,hf,hh,hl,fun k e =>?_⟩
     cases e;unfold tgOf;rw[q]
 inj:=fun i i' a w w'=>by
  obtain⟨j,e,v⟩:=acw G L w;obtain⟨j',e',v'⟩:=acw G L w';have:=G.inj j j' a v v';subst this;obtain⟨⟨t,l,z⟩,_⟩:=v;exact ajz hk e e' z
structure Fin (K:Fg9) (F' H':Hp) (τ:L2.St) (ps:Ro) (O':aZ->Prop):Prop where
 at':∀(i:Nat) (l:List D),(ps:List Sl)[i]? = some (.own (some i) l)->O' (tgOf τ i)/\F' (tgOf τ i)=none/\∃vs,H' (tgOf τ i)=some (.lst vs)/\IsL K F' l vs
theorem ajp{j:Nat}{s:Sl}(h:(putB ρ js ps:List Sl)[j]? = some s):∃s0:Sl,(ρ:List Sl)[j]? = some s0/\((∃t l,s0=Sl.own t l/\∃i:Nat,js[i]? = some (some j)/\((∃l',(ps:List Sl)[i]? = some (Sl.own (some i) l')/\s=Sl.own t l')∨s=Sl.emp)) ∨
  (s=s0/\∀t l,s0=Sl.own t l->∀i:Nat,js[i]? ≠ some (some j))):=by
 unfold putB at h;rw[qF] at h;cases e:(ρ:List Sl)[j]? with
 | none=>rw[e] at h;cases h
 | some s0 =>
  rw[e] at h;refine⟨s0,rfl,?_⟩;have h:putS js ps j s0=s:=bU h;unfold putS at h;cases ei:js.findIdx? (fun o=>o==some j) with
  | none =>
   rw[ei] at h;have h:s0=s:=h;refine .inr ⟨h.symm,fun _ _ _ i z =>?_⟩
   rw[tX] at ei;have:=ei _ (gQ z);simp at this
  | some i =>
   rw[ei] at h;cases s0 with
   | emp=>exact .inr ⟨(show Sl.emp=s from h).symm,fun t l z=>by cases z⟩
   | val d=>exact .inr ⟨(show Sl.val d=s from h).symm,fun t l z=>by cases z⟩
   | box c fs=>exact .inr ⟨(show Sl.box c fs=s from h).symm,fun t l z=>by cases z⟩
   | own t l =>
    refine .inl ⟨t,l,rfl,i,?_,?_⟩
    ·obtain⟨hi,hb,_⟩:=lQ.mp ei;rw[aF hi];exact congrArg some (eq_of_beq hb)
    ·have h:(match (ps:List Sl)[i]? with
      | some (.own (some i') l')=>if i'=i then Sl.own t l' else .emp
      | _=>.emp)=s:=h
     cases ep:(ps:List Sl)[i]? with
     | none=>rw[ep] at h;exact .inr h.symm
     | some sp =>
      rw[ep] at h;cases sp with
      | emp=>exact .inr h.symm
      | val _=>exact .inr h.symm
      | box _ _=>exact .inr h.symm
      | own t' l' =>
       cases t' with
       | none=>exact .inr h.symm
       | some i' =>
        have h2:(if i'=i then Sl.own t l' else .emp)=s:=h
        by_cases z:i'=i
        ·subst z;rw[if_pos rfl] at h2;exact .inl ⟨l',rfl,h2.symm⟩
        ·rw[if_neg z] at h2;exact .inr h2.symm
theorem ae3{j:Nat}{a:aZ}(h:Owns (putB ρ js ps) σ j a):Owns ρ σ j a:=by
 obtain⟨⟨t,l,e⟩,q⟩:=h;obtain⟨s0,e0,h | ⟨rfl,_⟩⟩:=ajp e
 ·obtain⟨t',l',rfl,i,_,⟨l2,_,z⟩ | z⟩:=h
  ·exact⟨⟨t',l',e0⟩,q⟩
  ·cases z
 ·exact⟨⟨t,l,e0⟩,q⟩
theorem ae4(G:Good K tg F H ρ σ)(L:Lent K F σ τ js ds)(x:Ext (Own (lend ρ js ds) τ) O' F H F' H')(s':Same F' H')(fin:Fin K F' H' τ ps O'):Good K tg F' H' (putB ρ js ps) σ where
 sub:=s'
 len:=by
  unfold putB;rw[wK];exact G.len
 sl:=fun j s o e q=>by
  obtain⟨s0,e0,h | ⟨rfl,hn⟩⟩:=ajp e
  ·obtain⟨t,l,rfl,i,ei,⟨l',ep,rfl⟩ | rfl⟩:=h
   ·obtain⟨a,vs,rfl,hf,hh,hl,ht⟩:=G.sl j _ _ e0 q;obtain⟨_,hf',ws,hh',hl'⟩:=fin.at' i l' ep;have:=L.h1 i j _ ei q;have et:tgOf τ i=a:=by
     unfold tgOf;rw[this]
    rw[et] at hf' hh';exact⟨a,ws,rfl,hf',hh',hl',ht⟩
   ·trivial
  ·have w:=G.sl j _ _ e0 q;cases s with
   | emp=>trivial
   | val d =>
    obtain⟨v,h1,h2⟩:=w;exact⟨v,h1,h2.mono x.sub⟩
   | box c fs =>
    obtain⟨a,C,dx,fvs,e1,e2,e3,e4,e7,e5,e6⟩:=w;have no:¬Own (lend ρ js ds) τ a:=fun⟨i,z⟩=>by
     obtain⟨j',_,v⟩:=acw G L z;obtain⟨_,vs,hv⟩:=G.ownAt ⟨j',v⟩;rw[e3] at hv;cases hv
    have hf:F' a=none:=by
     cases z:F' a with
     | none=>rfl
     | some o =>
      rcases x.new a o z with z | z | z
      ·rw[e2] at z;cases z
      ·rw[e3] at z;cases z
      ·exact absurd z no
    exact⟨a,C,dx,fvs,e1,hf,x.keep a _ e3 no,e4,e7,e5,fun f d h=>(e6 f d h).imp fun v h=>⟨h.1,h.2.mono x.sub⟩⟩
   | own t l =>
    obtain⟨a,vs,rfl,hf,hh,hl,ht⟩:=w;have no:¬Own (lend ρ js ds) τ a:=fun⟨i,z⟩=>by
     obtain⟨j',e1,v⟩:=acw G L z;have:=G.inj j' j a v ⟨⟨t,l,e0⟩,q⟩;subst this;exact hn t l rfl i e1
    refine⟨a,vs,rfl,?_,x.keep a _ hh no,hl.mono x.sub,ht⟩;cases z:F' a with
    | none=>rfl
    | some o =>
     rcases x.new a o z with z | z | z
     ·rw[hf] at z;cases z
     ·rw[hh] at z;cases z
     ·exact absurd z no
 inj:=fun i j a w w'=>G.inj i j a (ae3 w) (ae3 w')
theorem abd(G:Good K tg F H ρ σ)(L:Lent K F σ τ js ds){a:aZ}(h:Own (lend ρ js ds) τ a):Own ρ σ a:=by
 obtain⟨i,h⟩:=h;obtain⟨j,_,h⟩:=acw G L h;exact⟨j,h⟩
theorem agm(G:Good K tg F H ρ σ)(L:Lent K F σ τ js ds)(x:Ext (Own (lend ρ js ds) τ) O' F H F' H'):Ext (Own ρ σ) (Own (putB ρ js ps) σ) F H F' H' where
 sub:=x.sub
 new:=fun a o e=>by
  rcases x.new a o e with z | z | z
  ·exact .inl z
  ·exact .inr (.inl z)
  ·exact .inr (.inr (abd G L z))
 keep:=fun a o e n=>x.keep a o e fun z=>n (abd G L z)
 own:=fun a ⟨j,w⟩=>.inl ⟨j,ae3 w⟩
 there:=x.there
theorem avr(G:Good K tg F H ρ σ)(L:Lent K F σ τ js ds)(fin:Fin K F' H' τ ps O'){a:aZ}(ha:H a=none∨Own (lend ρ js ds) τ a)(hn:¬O' a):¬Own (putB ρ js ps) σ a:=fun⟨j,w⟩=>by
 have v:=ae3 w;obtain⟨⟨t,l2,e⟩,q⟩:=w;obtain⟨s0,e0,z | ⟨rfl,hno⟩⟩:=ajp e
 ·obtain⟨t',l',rfl,i,ei,⟨l3,ep,z⟩ | z⟩:=z
  ·have et:tgOf τ i=a:=by
    unfold tgOf;rw[L.h1 i j _ ei q]
   have:=(fin.at' i l3 ep).1;rw[et] at this;exact hn this
  ·cases z
 ·rcases ha with ha | ⟨i,z⟩
  ·obtain⟨a',vs',ea,_,e2,_⟩:=G.sl j _ _ e0 q;cases ea;rw[ha] at e2;cases e2
  ·obtain⟨j',e1,v'⟩:=acw G L z;have:=G.inj j' j a v' v;subst this;exact hno t l2 rfl i e1
theorem apw(G:Good K tg F H ρ σ)(L:Lent K F σ τ js ds)(fin:Fin K F' H' τ ps O'){r:Rv}{v:V}(h:relR K r v H (Own (lend ρ js ds) τ) F' H' O'):relR K r v H (Own ρ σ) F' H' (Own (putB ρ js ps) σ):=by
 cases r with
 | v d=>exact h
 | fr l =>
  obtain⟨a,vs,rfl,ha,hf,hh,hl,hn⟩:=h;exact⟨a,vs,rfl,ha.imp id (abd G L),hf,hh,hl,avr G L fin ha hn⟩
 | tf d l =>
  obtain⟨t,u,a,vs,rfl,ht,hd,ha,hf,hh,hl,hn⟩:=h;exact⟨t,u,a,vs,rfl,ht,hd,ha.imp id (abd G L),hf,hh,hl,avr G L fin ha hn⟩
end
abbrev Fd:=Ro->Option (Out Rv×Ro)
noncomputable def fnD(nl np:Nat)(g:Sd):Fd:=fun as=>match g (as++aU (nl - np) .emp) with
 | some (.ret r,ρ)=>some (.ok r,ρ.take np)
 | some (.nx,ρ)=>some (.ok (.v .non),ρ.take np)
 | some (.exc x,ρ)=>some (.exc x,ρ.take np)
 | _=>none
def spOf(K:Fg9)(n:Nat)(f:Fd):Sp:=fun vs H Q _=>vs.length=n/\∃F as r ps,Good K (tgOf (vs.map some)) F H as (vs.map some)/\f as=some (.ok r,ps) /\
 ∀v H' F' O',Same F' H'->Ext (Own as (vs.map some)) O' F H F' H'->Fin K F' H' (vs.map some) ps O'->relR K r v H (Own as (vs.map some)) F' H' O'->Q v H'
section
variable{K:Fg9}
theorem a0j{as:Ro}{τ:L2.St}{n:Nat}{a:aZ}(hl:as.length=τ.length)(h:Own (as++aU n .emp) (τ++aU n none) a):Own as τ a:=by
 obtain⟨i,⟨t,l,e⟩,q⟩:=h
 by_cases hi:i < as.length
 ·rw[cW hi] at e;rw[cW (by omega)] at q
  exact⟨i,⟨t,l,e⟩,q⟩
 ·rw[iQ (by omega),lO] at e
  split at e <;> cases e
theorem awr{as:Ro}{τ:L2.St}{n:Nat}{a:aZ}(hl:as.length=τ.length)(h:Own as τ a):Own (as++aU n .emp) (τ++aU n none) a:=by
 obtain⟨i,⟨t,l,e⟩,q⟩:=h;have hi:=(aQ.mp e).1;exact⟨i,⟨t,l,by rw[cW hi];exact e⟩,by rw[cW (by omega)];exact q⟩
theorem aav{as:Ro}{τ:L2.St}{n:Nat}(hl:as.length=τ.length):Own (as++aU n .emp) (τ++aU n none)=Own as τ:=funext fun a=>propext ⟨a0j hl,awr hl⟩
theorem Good.app{tg:Nat->aZ}{F H:Hp}{as:Ro}{τ:L2.St}(G:Good K tg F H as τ)(n:Nat):Good K tg F H (as++aU n .emp) (τ++aU n none) where
 sub:=G.sub
 len:=by rw[dF,dF,G.len,mF,mF]
 sl:=fun i s o e q=>by
  have hl:=G.len
  by_cases hi:i < as.length
  ·rw[cW hi] at e;rw[cW (by omega)] at q
   exact G.sl i s o e q
  ·rw[iQ (by omega),lO] at e
   split at e
   ·cases e;trivial
   ·cases e
 inj:=fun i j a w w'=>by
  have hl:=G.len;have f:∀k,Owns (as++aU n .emp) (τ++aU n none) k a->Owns as τ k a:=fun k ⟨⟨t,l,e⟩,q⟩=>by
   by_cases hi:k < as.length
   ·rw[cW hi] at e;rw[cW (by omega)] at q
    exact⟨⟨t,l,e⟩,q⟩
   ·rw[iQ (by omega),lO] at e
    split at e <;> cases e
  exact G.inj i j a (f i w) (f j w')
theorem a9l{P:cF}{w:dR}{mg:Str->Option aG}{base:fH}{x qual:Str}{st:iM}{f:aZ}{fd:fX}{N ps:List Str}{k:Nat}{g:Sd}(F:Fun K x qual st f fd)(S:FnScope N ps (au st))
  (body:∀(cdv:aG) (A:cQ) (outer:List Env) (s:aJ) (H:Hp) (E:XK),Room k (A.deeper (pB qual (au st) s.heap.objs.size f cdv))->SVs K (cxOf CX0 P w K mg base N qual (au st) f cdv A outer s H E).nox (jm st) g) :
  FnOk P w K mg base CX0 (k+1) f fd ps (spOf K ps.length (fnD N.length ps.length g)):=by
 refine F.ok S (fun vs H Q E h=>h.1) (fun cdv A outer s H vs Q E hr h=>⟨_,body cdv A outer s H E hr rfl,?_⟩)
 obtain⟨hn,F,as,r,ps',G,em,q⟩:=h;have hl:as.length=(vs.map some).length:=G.len;have G1:=G.app (N.length - vs.length);have es:start N vs=vs.map some++aU (N.length - vs.length) none:=rfl;rw[es];unfold fnD at em;rw[<-hn] at em;have fin:∀{ρ':Ro} {σ':L2.St} {F' H':Hp},Good K (tgOf (vs.map some)) F' H' ρ' σ'->Fin K F' H' (vs.map some) (ρ'.take vs.length) (Own ρ' σ'):=fun{ρ' σ' F' H'} G'=>⟨fun i l e=>by
  have hi:=(aQ.mp e).1;rw[gM] at hi;rw[lH (by omega)] at e
  obtain⟨o,ho,a,ws,rfl,hf,hh,hl,ht⟩:=G'.at e;rw[ht i rfl];exact⟨⟨i,⟨_,_,e⟩,ho⟩,hf,ws,hh,hl⟩⟩
 split at em
 ·rename_i r' ρ' e;cases em;refine⟨_,F,_,.ret r,ρ',G1,e,fun v σ' H' F' G' x' rr =>?_⟩
  rw[aav hl] at x' rr;exact q v H' F' (Own ρ' σ') G'.sub x' (fin G') rr
 ·rename_i ρ' e;cases em;refine⟨_,F,_,.nx,ρ',G1,e,fun σ' H' F' G' x' =>?_⟩
  rw[aav hl] at x';exact q .non H' F' (Own ρ' σ') G'.sub x' (fin G') .non
 ·cases em
 ·cases em
end
section
variable{K:Fg9}{X:Cx}{e a b c tgt iter elt:dW}{es:List dW}{pos p p2:Pos}
inductive AR (K:Fg9) (F:Hp) (σ:L2.St):List (Option Nat)->List (Option D)->List V->Prop
 | nil:AR K F σ [] [] []
 | ex {d:D} {v:V} {js:List (Option Nat)} {ds:List (Option D)} {vs:List V} (h:Is K F d v) (t:AR K F σ js ds vs):AR K F σ (none::js) (some d::ds) (v::vs)
 | nm {j:Nat} {v:V} {js:List (Option Nat)} {ds:List (Option D)} {vs:List V} (h:σ[j]? = some (some v)) (t:AR K F σ js ds vs):AR K F σ (some j::js) (none::ds) (v::vs)
theorem AR.lent{F:Hp}{σ:L2.St}:∀{js:List (Option Nat)} {ds:List (Option D)} {vs:List V},AR K F σ js ds vs->Lent K F σ (vs.map some) js ds
 | _,_,_,.nil=>⟨rfl,rfl,fun i j o h=>by simp at h,fun i d h=>by simp at h⟩
 | _,_,_,.ex h t=>by
  have L:=t.lent;refine⟨by simp[by simpa using L.l1],by simp[L.l2],fun i j o h q =>?_,fun i d h q =>?_⟩
  ·cases i with
   | zero=>simp at h
   | succ i=>simpa using L.h1 i j o (by simpa using h) q
  ·cases i with
   | zero=>simp at q;subst q;exact⟨_,rfl,‹_›⟩
   | succ i=>simpa using L.h2 i d (by simpa using h) (by simpa using q)
 | _,_,_,.nm h t=>by
  have L:=t.lent;refine⟨by simp[by simpa using L.l1],by simp[L.l2],fun i j o h' q =>?_,fun i d h' q =>?_⟩
  ·cases i with
   | zero =>
    simp at h';subst h';rw[h] at q;cases q;rfl
   | succ i=>simpa using L.h1 i j o (by simpa using h') q
  ·cases i with
   | zero=>simp at h'
   | succ i=>simpa using L.h2 i d (by simpa using h') (by simpa using q)
theorem AR.length{F:Hp}{σ:L2.St}{js:List (Option Nat)}{ds:List (Option D)}{vs:List V}(h:AR K F σ js ds vs):vs.length=js.length:=by
 have:=h.lent.l1
 simpa using this
def TAg(K:Fg9)(js:List (Option Nat))(m:M (List (Option D))):TA:=fun σ H Q=>∃tg F ρ ds ρ',Good K tg F H ρ σ/\m ρ=some (.ok ds,ρ')/\∀vs H' F',Good K tg F' H' ρ' σ->Ext (Own ρ σ) (Own ρ' σ) F H F' H'->AR K F' σ js ds vs->Q vs H'
structure EG (K:Fg9) (X:Cx) (es:List dW) (js:List (Option Nat)) (m:M (List (Option D))):Prop where
 go:X.K=K->PA X es (TAg K js m)
instance {K:Fg9} {X:Cx} {es:List dW} {js:List (Option Nat)} {m:M (List (Option D))}:CoeFun (EG K X es js m) fun _=>X.K=K->PA X es (TAg K js m):=⟨EG.go⟩
def ig:M (List (Option D)):=ret []
def bu(m:M D)(ms:M (List (Option D))):M (List (Option D)):=m.bind fun d=>ms.bind fun ds=>ret (some d::ds)
def gj(j:Nat)(ms:M (List (Option D))):M (List (Option D)):=(dw j).bind fun _=>ms.bind fun ds=>ret (none::ds)
theorem cg:EG K X [] [] ig:=EG.mk fun _=>PA.imp aeh fun σ H Q hq0=>by
 obtain⟨tg,F,ρ,ds,ρ',G,em,q⟩:=hq0;obtain⟨rfl,rfl⟩:=kj em;exact q [] H F G (Ext.refl _ _ _) .nil
theorem eg_v{m:M D}{js:List (Option Nat)}{ms:M (List (Option D))}(h:EV K X e m)(t:EG K X es js ms)(hs:aX (e::es) X.env=(false,eval e X.env)::aX es X.env:=by rfl):EG K X (e::es) (none::js) (bu m ms):=EG.mk fun hk=>PA.imp (tu (h hk) (t hk) hs) fun σ H Q hq0=>by
 obtain⟨tg,F,ρ,ds,ρ',G,em,q⟩:=hq0;obtain⟨d,ρ1,e1,em⟩:=bw em;obtain⟨r,ρ2,e2,em⟩:=bw em;obtain⟨rfl,rfl⟩:=kj em;exact⟨tg,F,ρ,d,ρ1,G,e1,fun v H1 F1 G1 x1 r1=>⟨tg,F1,ρ1,r,_,G1,e2,fun vs H2 F2 G2 x2 r2=>q _ H2 F2 G2 (x1.trans x2) (.ex (r1.mono x2.sub) r2)⟩⟩
theorem eg_n{j:Nat}{js:List (Option Nat)}{ms:M (List (Option D))}(h:PE X e (tVar j))(t:EG K X es js ms)(hs:aX (e::es) X.env=(false,eval e X.env)::aX es X.env:=by rfl):EG K X (e::es) (some j::js) (gj j ms):=EG.mk fun hk=>PA.imp (tu h (t hk) hs) fun σ H Q hq0=>by
 obtain⟨tg,F,ρ,ds,ρ',G,em,q⟩:=hq0;obtain⟨d0,ρ0,e0,em⟩:=bw em;obtain⟨r,ρ2,e2,em⟩:=bw em;obtain⟨rfl,rfl⟩:=kj em;obtain⟨rfl,v,hv,_⟩:=sy G e0;exact⟨v,hv,tg,F,ρ0,r,_,G,e2,fun vs H2 F2 G2 x2 r2=>q _ H2 F2 G2 x2 (.nm hv r2)⟩
noncomputable def mFn(f:Fd)(js:List (Option Nat))(ms:M (List (Option D))):M Rv:=ms.bind fun ds ρ=>if okJs ρ js=true then match f (lend ρ js ds) with
  | some (.ok r,ps)=>some (.ok r,putB ρ js ps)
  | some (.exc x,ps)=>some (.exc x,putB ρ js ps)
  | none=>none
 else none
theorem ayk{f:Fd}{js:List (Option Nat)}{ms:M (List (Option D))}{ρ ρ':Ro}{r:Rv}(h:mFn f js ms ρ=some (.ok r,ρ')):∃ds ρ1 ps,ms ρ=some (.ok ds,ρ1)/\okJs ρ1 js=true/\f (lend ρ1 js ds)=some (.ok r,ps)/\ρ'=putB ρ1 js ps:=by
 obtain⟨ds,ρ1,e1,em⟩:=bw h;have em:(if okJs ρ1 js=true then match f (lend ρ1 js ds) with
  | some (.ok r,ps)=>some (Out.ok r,putB ρ1 js ps)
  | some (.exc x,ps)=>some (.exc x,putB ρ1 js ps)
  | none=>none
  else none)=some (.ok r,ρ'):=em
 split at em
 ·rename_i hk;split at em
  ·rename_i r' ps e2;cases em;exact⟨ds,ρ1,ps,e1,hk,e2,rfl⟩
  ·cases em
  ·cases em
 ·cases em
theorem gr{f:Fd}{n k:Nat}{x:Str}{pn:List Str}{js:List (Option Nat)}{ms:M (List (Option D))}(F:Dfn X.prog X.w X.K X.mg X.base x pn k (spOf K n f))(hr:Room k X.A)(hg:Gl X x)(ha:EG K X (e::es) js ms)(hn:js.length=n:=by rfl)(hdb:(x==("__debug__" : Str))=false:=by decide)
  (he:aX (e::es) X.env=(false,eval e X.env)::aX es X.env:=by rfl) (hpl:(jB pos (aX es X.env)).any (·.1)=false:=by rfl):ER K X (.Call (.Name x p) (e::es) [] pos) (mFn f js ms):=ER.mk fun hk=>PE.imp (a8i F hr hg (ha hk) hdb he hpl) fun σ H Q hq0=>by
 obtain⟨tg,F,ρ,r,ρ',G,em,q⟩:=hq0;obtain⟨ds,ρ1,ps,e1,hj,e2,rfl⟩:=ayk em;refine⟨tg,F,ρ,ds,ρ1,G,e1,fun vs H1 F1 G1 x1 ar =>?_⟩
 have L:=ar.lent;show spOf K n f (vs++[]) H1 Q E0;rw[fO];refine⟨by rw[ar.length];exact hn,F1,_,r,ps,acd G1 hj L,e2,fun v H' F' O' s' x' fin rr =>?_⟩
 exact q v H' F' (ae4 G1 L x' s' fin) (x1.trans (agm G1 L x')) (ou x1 (apw G1 L fin rr))
structure EIf (K:Fg9) (X:Cx) (ifs:List dW) (m:M Bool):Prop where
 go:X.K=K->PIf X ifs (TB K m)
instance {K:Fg9} {X:Cx} {ifs:List dW} {m:M Bool}:CoeFun (EIf K X ifs m) fun _=>X.K=K->PIf X ifs (TB K m):=⟨EIf.go⟩
theorem qe:EIf K X [] (ret true):=EIf.mk fun _ zv s σ H Q I hq0=>by
 obtain⟨tg,F,ρ,k,ρ',G,em,q⟩:=hq0;obtain⟨rfl,rfl⟩:=kj em;exact az9 zv s σ H Q I (q H F G (Ext.refl _ _ _))
theorem an8{m:M Bool}(h:ET K X c m):EIf K X [c] m:=EIf.mk fun hk=>az8 (h hk)
noncomputable def compD(b:D->Ro->Option Ro)(mc:M Bool)(me:M D):List D->List D->M (List D)
 | [],ys=>ret ys
 | d::ds,ys=>fun ρ=>match b d ρ with
  | none=>none
  | some ρ1=>(mc.bind fun k=>if k=true then me.bind fun y=>compD b mc me ds (ys++[y]) else compD b mc me ds ys) ρ1
theorem aht{b:D->Ro->Option Ro}{mc:M Bool}{me:M D}:∀{l ys yf:List D} {ρ ρ':Ro},compD b mc me l ys ρ=some (.ok yf,ρ')->ys.length<=yf.length
 | [],ys,yf,ρ,ρ',h=>by
  obtain⟨rfl,_⟩:=kj (show ret ys ρ=_ from h)
  exact aL _
 | d::ds,ys,yf,ρ,ρ',h=>by
  unfold compD at h;split at h
  ·cases h
  ·obtain⟨k,ρ2,e2,h⟩:=bw h;split at h
   ·obtain⟨y,ρ3,e3,h⟩:=bw h;have:=aht h;rw[dF] at this;omega
   ·exact aht h
def ww(src:List (Option Nat))(mi:M (List D))(b:D->Ro->Option Ro)(mc:M Bool)(me:M D):M Rv:=mi.bind fun l ρ=>if okJs ρ src=true then match compD b mc me l [] (lend ρ src (src.map fun _=>none)) with
  | some (.ok ys,ps)=>if ys.length<=capS then some (.ok (.fr ys),putB ρ src ps) else none
  | some (.exc x,ps)=>some (.exc x,putB ρ src ps)
  | none=>none
 else none
theorem aw3{src:List (Option Nat)}{mi:M (List D)}{b:D->Ro->Option Ro}{mc:M Bool}{me:M D}{ρ ρ':Ro}{r:Rv}(h:ww src mi b mc me ρ=some (.ok r,ρ')):∃l ρ1 ys ps,mi ρ=some (.ok l,ρ1)/\okJs ρ1 src=true/\compD b mc me l [] (lend ρ1 src (src.map fun _=>none))=some (.ok ys,ps)/\ys.length<=capS/\r=.fr ys/\ρ'=putB ρ1 src ps:=by
 obtain⟨l,ρ1,e1,em⟩:=bw h;have em:(if okJs ρ1 src=true then match compD b mc me l [] (lend ρ1 src (src.map fun _=>none)) with
  | some (.ok ys,ps)=>if ys.length<=capS then some (Out.ok (Rv.fr ys),putB ρ1 src ps) else none
  | some (.exc x,ps)=>some (.exc x,putB ρ1 src ps)
  | none=>none
  else none)=some (.ok r,ρ'):=em
 split at em
 ·rename_i hk;split at em
  ·rename_i ys ps e2;split at em
   ·rename_i hz;cases em;exact⟨l,ρ1,ys,ps,e1,hk,e2,hz,rfl,rfl⟩
   ·cases em
  ·cases em
  ·cases em
 ·cases em
theorem asw{F:Hp}{σ:L2.St}(src:List (Option Nat)):Lent K F σ (pick src σ) src (src.map fun _=>none):=by
 refine⟨by simp[pick],by simp,fun i j o h q =>?_,fun i d h q =>?_⟩
 ·unfold pick;rw[bA,h];show some ((σ[j]?).bind id)=some o;rw[q];rfl
 ·rw[bA,h] at q;cases q
theorem Ext.upd{O O':aZ->Prop}{F H F' H':Hp}{d:aZ}{o:HO}(x:Ext O O' F H F' H')(h:H d=none):Ext O O' F H F' (upd H' d o) :=
 ⟨x.sub,x.new,fun a u e n=>by rw[cu (jn e h)];exact x.keep a u e n,x.own,fun a e=>by
  by_cases ha:a=d
  ·subst ha;exact h
  ·rw[cu ha] at e;exact x.there a e⟩
theorem Good.upd{tg:Nat->aZ}{F H:Hp}{ρ:Ro}{σ:L2.St}{d:aZ}(G:Good K tg F H ρ σ)(hf:F d=none)(hn:¬Own ρ σ d)(o:HO)(hi:∀C dx fs,H d≠some (.ins C dx fs)):Good K tg F (upd H d o) ρ σ :=
 G.grow (Same.refl F) (fun b u e=>by
  have hb:b≠d:=fun z=>by
   subst z;rw[hf] at e;cases e
  rw[cu hb];exact G.sub b u e) (fun a w=>⟨(G.ownAt w).1,by
  have hb:a≠d:=fun z=>hn (z▸w)
  rw[cu hb]⟩) fun a C dx fvs h1 h2=>⟨h1,by
  have hb:a≠d:=fun z=>hi C dx fvs (z▸h2)
  rw[cu hb]⟩
theorem akl{mi:M (List D)}{bb:D->Ro->Option Ro}{mc:M Bool}{me:M D}{src:List (Option Nat)}(σ:L2.St)(H:Hp)(Q:VK)(t:T K (relR K) (ww src mi bb mc me) σ H Q):av9 (TIt K mi) (TGd K bb) (TB K mc) (T K (relD K) me) src σ H Q:=by
 obtain⟨tg,F,ρ,r,ρ',G,em,q⟩:=t;obtain⟨l,ρ1,yf,ps,e1,hj,e2,hz,rfl,rfl⟩:=aw3 em;refine⟨tg,F,ρ,l,ρ1,G,e1,fun J H1 F1 G1 x1 Z dd hd =>?_⟩
 have L:Lent K F1 σ (pick src σ) src (src.map fun _=>none):=asw src
 have Gl:=acd G1 hj L;have own0:¬Own (lend ρ1 src (src.map fun _=>none)) (pick src σ) dd:=fun z=>Gl.own_ne hd z rfl
 refine axx Z (fun i ys σc Hc=>∃Fc ρc yd,Good K (tgOf (pick src σ)) Fc Hc ρc σc/\Ext (Own (lend ρ1 src (src.map fun _=>none)) (pick src σ)) (Own ρc σc) F1 H1 Fc Hc/\Fc dd=none/\¬Own ρc σc dd/\Hc dd=some (.lst ys)/\IsL K Fc yd ys/\compD bb mc me (l.drop i) yd ρc=some (.ok yf,ps))
  ⟨F1,_,[],Gl.upd (G1.freeF hd) own0 _ (fun _ _ _ z=>by rw[hd] at z;cases z),(Ext.refl _ _ _).upd hd,G1.freeF hd,own0,gw,.nil,e2⟩ ?_ ?_ ?_
 ·rintro i ys σc Hc _ ⟨Fc,ρc,yd,Gc,xc,_,_,hdd,_,_⟩
  exact⟨xc.sub.trans Gc.sub,hdd⟩
 ·rintro i d x ys σc Hc0 Hc M hdl ⟨Fc0,ρc,yd,Gc0,xc0,fd0,od0,hdd0,iy0,ec⟩ al hM
  obtain⟨Fc,Gc,xc,_,idl,xa⟩:=ap0 Gc0 xc0 xc0.sub al;have iy:=iy0.mono xa.sub;have hlt:i < l.length:=(aQ.mp hdl).1;have edl:l[i]=d:=(aQ.mp hdl).2;rw[nQ hlt,edl] at ec;unfold compD at ec;have step:∀{F2 H2:Hp} {ρ2 ρ3:Ro} {σ2 σ3:L2.St} {F3 H3:Hp},F2 dd=none->¬Own ρ2 σ2 dd->H2 dd=some (.lst ys)->Ext (Own ρ2 σ2) (Own ρ3 σ3) F2 H2 F3 H3->F3 dd=none/\¬Own ρ3 σ3 dd/\H3 dd=some (.lst ys):=fun{F2 H2 ρ2 ρ3 σ2 σ3 F3 H3} h1 h2 h3 x3=>by
   refine⟨?_,fun z =>?_,x3.keep _ _ h3 h2⟩
   ·cases z:F3 dd with
    | none=>rfl
    | some o =>
     rcases x3.new _ _ z with z | z | z
     ·rw[h1] at z;cases z
     ·rw[h3] at z;cases z
     ·exact absurd z h2
   ·rcases x3.own _ z with z | z
    ·exact h2 z
    ·rw[h3] at z;cases z
  obtain⟨fd,od,hdd⟩:=step fd0 od0 hdd0 xa;split at ec
  ·cases ec
  ·rename_i ρ2 eb;refine⟨_,Fc,ρc,d,ρ2,Gc,idl,eb,fun σ2 H2 F2 G2 x2 =>?_⟩
   obtain⟨k,ρ3,ek,ec⟩:=bw ec;obtain⟨fd2,od2,hdd2⟩:=step fd od hdd x2;refine⟨_,F2,ρ2,k,ρ3,G2,ek,fun H3 F3 G3 x3 =>?_⟩
   obtain⟨fd3,od3,hdd3⟩:=step fd2 od2 hdd2 x3;cases k with
   | false =>
    refine iteF (hM _ _ _ ⟨F3,ρ3,yd,G3,(xc.trans x2).trans x3,fd3,od3,hdd3,(iy.mono x2.sub).mono x3.sub,ec⟩)
   | true =>
    obtain⟨y,ρ4,ey,ec⟩:=bw ec;refine iteT ⟨_,F3,ρ3,y,ρ4,G3,ey,fun v H4 F4 G4 x4 iv =>?_⟩
    obtain⟨fd4,od4,hdd4⟩:=step fd3 od3 hdd3 x4;refine⟨hdd4,?_,hM _ _ _ ⟨F4,ρ4,yd++[y],G4.upd fd4 od4 _ (fun _ _ _ z=>by rw[hdd4] at z;cases z),(((xc.trans x2).trans x3).trans x4).upd hd,fd4,od4,gw,?_,ec⟩⟩
    ·have:=aht ec;rw[dF,iy.length] at this;rw[iV];exact bW (by simpa using kZ ys.length) (cL this hz)
    ·exact(((iy.mono x2.sub).mono x3.sub).mono x4.sub).append (.cons iv .nil)
 ·rintro ys σc Hc ⟨Fc,ρc,yd,Gc,xc,fd,od,hdd,iy,ec⟩
  rw[uR (aL _)] at ec;obtain⟨rfl,rfl⟩:=kj (show ret yd ρc=_ from ec)
  have fin:Fin K Fc Hc (pick src σ) ps (Own ps σc):=⟨fun i l' e=>by
   obtain⟨o,ho,a,ws,rfl,hf,hh,hl,ht⟩:=Gc.at e;rw[ht i rfl];exact⟨⟨i,⟨_,_,e⟩,ho⟩,hf,ws,hh,hl⟩⟩
  refine q _ Hc Fc (ae4 G1 L xc Gc.sub fin) (x1.trans (agm G1 L xc)) ⟨dd,ys,rfl,.inl (x1.there dd hd),fd,hdd,iy,fun⟨j,w⟩ =>?_⟩
  exact G1.own_ne hd ⟨j,ae3 w⟩ rfl
theorem qu{ifs:List dW}{scope:lX}{mi:M (List D)}{bb:D->Ro->Option Ro}{mc:M Bool}{me:M D}(fr N:List Str)(src:List (Option Nat))(hc:X.calm=true)(hi:IT K X tgt iter mi)
  (hg:∀fp s H,GV K (cxC X N scope fr fp s H) tgt bb) (ht:∀fp s H,EIf K (cxC X N scope fr fp s H) ifs mc) (he:∀fp s H,EV K (cxC X N scope fr fp s H) elt me)
  (hok:ai1 X.env X.N scope fr N src=true:=by rfl) (hkind:scope.kind=.function:=by rfl) (hclos:closureFor scope X.env=pure (ur X.env fr):=by rfl)
  (hs:∀x,iB iter X.env x=pure x:=by intro _;rfl):ER K X (.ListComp elt [⟨tgt,iter,ifs,0⟩] scope pos) (ww src mi bb mc me):=ER.mk fun hk=>by
 have hkc:∀fp s H,(cxC X N scope fr fp s H).K=K:=fun _ _ _=>hk
 refine PE.imp (a0f fr N src hc (hi hk) (fun fp s H=>(hg fp s H).go (hkc _ _ _)) (fun fp s H=>(ht fp s H).go (hkc _ _ _)) (fun fp s H=>(he fp s H).go (hkc _ _ _)) hok hkind hclos hs) akl
end
end Dn
namespace Mn
open L2
theorem az2{X:Cx}{tg iter elt:dW}{ifs:List dW}{scope:lX}{cpos pos px:Pos}{wi:TI}{g:TG}{ti:TT}{te:TE}{i:Nat}{x:Str}(fr N:List Str)(src:List (Option Nat))(hN:X.N.Nodup)(hxi:X.N[i]? = some x)(hx:Loc X.env.scope x)(hc:X.calm=true)(hi:PI X tg iter wi)
  (hg:∀fp s H,PG (cxC X N scope fr fp s H) tg g) (ht:∀fp s H,PIf (cxC X N scope fr fp s H) ifs ti) (he:∀fp s H,PE (cxC X N scope fr fp s H) elt te)
  (hsw:mD (.ListComp elt [⟨tg,iter,ifs,0⟩] scope cpos) (some (.Name x px)) pos.line X.env=pure true:=by rfl)
  (hok:ai1 X.env X.N scope fr N src=true:=by rfl) (hkind:scope.kind=.function:=by rfl) (hclos:closureFor scope X.env=pure (ur X.env fr):=by rfl)
  (hs:∀x,iB iter X.env x=pure x:=by intro _;rfl) (hf:X.fn x=true∨X.env.scope.names.lookup x=some .local:=by first | exact .inl rfl | exact .inr rfl | assumption) :
  PS X (.Assign [.Name x px] (.ListComp elt [⟨tg,iter,ifs,0⟩] scope cpos) pos) (tAsg (av9 wi g ti te src) (a1f i)):=by
 have C:=CompOk.of hok;intro zv s σ H D I h;rw[exec_Assign_Name_used _ _ _ _ hsw];refine aA (jE (aA ?_));show bK _ _ (comprehension (.ListComp elt [⟨tg,iter,ifs,0⟩] scope cpos) scope X.env (firstIterPos [⟨tg,iter,ifs,0⟩] cpos) (newList []) (firstAsync [⟨tg,iter,ifs,0⟩]) (firstIter [⟨tg,iter,ifs,0⟩] X.env) (some (qI (.Name x px) X.env)) >>= fun _=>pure ()) _ _ _
 refine aA (wpAny_comprehension_free (use:=some (qI (.Name x px) X.env)) (Q:=fun _ s'=>bK (bR X.prog X.w) X.A (pure ()) (fun _ s''=>bK (bR X.prog X.w) X.A (pure vC) (SP X zv D) X.xe s'') X.xe s') rfl hs hclos hkind C.loc (bC (hi zv s σ H _ I h) (fun v s1 h1=>bC h1 (fun itv s2 h2 =>?_) fun _ _ e=>e) fun _ _ e=>e))
 obtain⟨it,fp,tn,J,H2,e,I2,T,st2,f2,q2⟩:=h2;subst e;have hd0:H2 s2.heap.objs.size=none:=I2.hok.fresh (aL _);obtain⟨W,⟨m0,w0⟩,turn⟩:=q2 s2.heap.objs.size hd0;refine bZ ?_;generalize hs3:({ s2 with heap:=s2.heap.push { cls:=.type "list", dict:=none,data:=.seq ([]:List aG).toArray } }:aJ)=s3
 have keep2:∀b o,s2.heap.get? b=some o->s3.heap.get? b=some o:=fun b o e=>by rw[<-hs3];exact aD _ e
 have I3:Inv X zv σ (upd H2 s2.heap.objs.size (.lst [])) s3:=by
  rw[<-hs3];exact I2.laid (t':=s2.toks) (fun b u q=>aD _ q) (aL _) ⟨Nat.zero_le _,[],0,.nil,aO _ rfl⟩
 have ne0:∀b∈fp,b≠s2.heap.objs.size:=fun b hb=>by
  obtain⟨o,e,_⟩:=T.obj _ _ st2 b hb;exact bI (aP e)
 have f3:∀b∈fp,FpOk X zv (upd H2 s2.heap.objs.size (.lst [])) b:=fun b hb=>⟨by rw[cu (ne0 b hb)];exact(f2 b hb).1,(f2 b hb).2⟩
 have lt3:∀b∈fp,b < s3.heap.objs.size:=fun b hb=>by
  obtain⟨o,e,_⟩:=T.obj _ _ st2 b hb;exact aP (keep2 b o e)
 refine wpAny_newFunctionEnv C.cell (by intro y hy;simp at hy) (fun h₁ hns₁ hsb₁ =>?_) hkind
 have keep3:∀b o,s3.heap.get? b=some o->h₁.get? b=some o:=fun b o e=>hsb₁.extBut b o (bI (aP e)) (aD _ e)
 have st4:tn 0 h₁:=T.keep _ _ _ st2 fun b hb o e=>keep3 b o (keep2 b o e)
 have I4:=api (tk:=s3.toks+([]:List (Str×Value)).length) I3 C hkind f3 lt3 hns₁ keep3;have loop:=ahs (X:=cxC X N scope fr fp s3 (upd H2 s2.heap.objs.size (.lst []))) (iter:=iter) (scope:=scope) (pos:=cpos) (d:=s2.heap.objs.size) (Q:=fun v H1=>D.nx (σ.set i (some v)) H1)
  (R:=compPost (bR X.prog X.w) X.A X.xe (some (qI (.Name x px) X.env)) (fun _ s'=>bK (bR X.prog X.w) X.A (pure ()) (fun _ s''=>bK (bR X.prog X.w) X.A (pure vC) (SP X zv D) X.xe s'') X.xe s') (.ref s2.heap.objs.size) s3.heap.objs.size) hc rfl T
  (fun H' hn b hb=>⟨hn b hb,bI (lt3 b hb),I4.ok.exfs b hb,.inl hb,(I4.ok.exf b hb).2,fun p hp=>absurd (show p∈([]:List (aZ×Obj)) from hp) (by simp)⟩)
  (hg fp s3 _) (ht fp s3 _) (he fp s3 _) turn w0 I4 st4 (fun b hb=>(f3 b hb).1) (fun σ' H' s' I6 qn=>by
   obtain⟨m6,hn6,_⟩:=I6.loc;have fC:FpOk X zv H' s3.heap.objs.size:=I3.fpOk (aL _) I6.free;have I7:Inv X zv σ H' s':=apj I3 f3 I6 (xR ..);refine wpAny_assign_Name (akx I7 hN hxi hx (v:=.ref s2.heap.objs.size) rfl (fun s8 I8 ⟨a,sb,ha⟩ =>?_) hf)
   have hne:s3.heap.objs.size≠a:=by
    rcases ha with rfl | ha
    ·exact fC.2.1
    ·exact(fC.2.2.2.2.1 x a ha).symm
   obtain⟨o6,es6,ep6,g6,r6⟩:=hn6;refine⟨m6,⟨o6,es6,ep6,(sb.2 _ hne).trans g6,r6⟩,fun h9 sb9=>aH (aH ⟨_,H',?_,qn⟩)⟩
   exact I8.turned (t':=s8.toks) (it:=s3.heap.objs.size) (fun b o hb e=>(sb9.2 b hb).trans e) fC.1 fC.2.1 fC.2.2.2.1 fC.2.2.2.2.1 fC.2.2.2.2.2)
 exact codeAny_compStart_list loop (T.self _ 0 _ _ _ st4 loop)
end Mn
namespace Dn
open L2 Mn
section
variable{K:Fg9}{X:Cx}{tgt iter elt:dW}{pos p:Pos}
theorem amy{i:Nat}{x:Str}{ifs:List dW}{scope:lX}{cpos:Pos}{mi:M (List D)}{bb:D->Ro->Option Ro}{mc:M Bool}{me:M D}(fr N:List Str)(src:List (Option Nat))(hN:X.N.Nodup)(hxi:X.N[i]? = some x)(hx:Loc X.env.scope x)(hc:X.calm=true)(hi:IT K X tgt iter mi)
  (hg:∀fp s H,GV K (cxC X N scope fr fp s H) tgt bb) (ht:∀fp s H,EIf K (cxC X N scope fr fp s H) ifs mc) (he:∀fp s H,EV K (cxC X N scope fr fp s H) elt me)
  (hsw:mD (.ListComp elt [⟨tgt,iter,ifs,0⟩] scope cpos) (some (.Name x p)) pos.line X.env=pure true:=by rfl)
  (hok:ai1 X.env X.N scope fr N src=true:=by rfl) (hkind:scope.kind=.function:=by rfl) (hclos:closureFor scope X.env=pure (ur X.env fr):=by rfl)
  (hs:∀x,iB iter X.env x=pure x:=by intro _;rfl) (hf:X.fn x=true∨X.env.scope.names.lookup x=some .local:=by first | exact .inl rfl | exact .inr rfl | assumption) :
  SV K X (.Assign [.Name x p] (.ListComp elt [⟨tgt,iter,ifs,0⟩] scope cpos) pos) (dSet i (ww src mi bb mc me)):=SV.mk fun hk=>by
 have hkc:∀fp s H,(cxC X N scope fr fp s H).K=K:=fun _ _ _=>hk
 refine PS.imp (az2 fr N src hN hxi hx hc (hi hk) (fun fp s H=>(hg fp s H).go (hkc _ _ _)) (fun fp s H=>(ht fp s H).go (hkc _ _ _)) (fun fp s H=>(he fp s H).go (hkc _ _ _)) hsw hok hkind hclos hs hf) fun E σ H ⟨tg,F,ρ,fl,ρ',G,em,q⟩=>yp em q fun r ρ1 e1 em =>?_
 cases em;refine akl σ H _ ⟨tg,F,ρ,r,ρ1,G,e1,fun v H' F' G' x rr =>?_⟩
 obtain⟨G2,x2⟩:=G'.store x i rr;exact q _ H' F' G2 x2
end
@[irreducible] def fuel:Nat:=1000000000
section
variable{K:Fg9}{X:Cx}{e a b c:dW}{es:List dW}{pos p p2:Pos}
def isN:D->Bool
 | .non=>true
 | _=>false
def mIsN(neg:Bool)(m:M D):M D:=m.bind fun d=>ret (.bl (if neg then !isN d else isN d))
theorem a2b{F H:Hp}{d:D}{x:V}(h:Bor K F H d x):decide (x=.non)=isN d:=by
 rcases h with h | ⟨a,vs,l',rfl,rfl,_⟩
 ·cases h <;> first | rfl | (simp[isN])
 ·simp[isN]
theorem a07{neg:Bool}{m:M D}{t:TE->TE}(ht:∀te σ H Q,t te σ H Q=te σ H fun x H1=>Q (.bl (if neg then !decide (x=.non) else decide (x=.non))) H1)(σ:L2.St)(H:Hp)(Q:VK)(h:T K (relD K) (mIsN neg m) σ H Q):t (T K (relB K) m) σ H Q:=by
 rw[ht];obtain⟨tg,F,ρ,d,ρ',G,em,q⟩:=h;obtain⟨d1,ρ1,e1,em⟩:=bw em;obtain⟨rfl,rfl⟩:=kj em;refine⟨tg,F,ρ,d1,_,G,e1,fun v H' F' G' x r =>?_⟩
 show Q (.bl (if neg then !decide (v=.non) else decide (v=.non))) H'
 rw[a2b r];exact q _ H' F' G' x (.bl _)
theorem axd{neg:Bool}{m:M D}{t:TE->TE}(ht:∀te σ H Q,t te σ H Q=te σ H fun x H1=>Q (.bl (if neg then !decide (x=.non) else decide (x=.non))) H1)(σ:L2.St)(H:Hp)(Q:Bool->Hp->Prop)(h:TB K (aaw (mIsN neg m)) σ H Q):tB (t (T K (relB K) m)) σ H Q:=by
 obtain⟨tg,F,ρ,k,ρ',G,em,q⟩:=h;obtain⟨d1,ρ1,e1,em⟩:=bw em;obtain⟨e3,rfl⟩:=ik em;obtain rfl:=apz e3;refine a07 ht σ H _ ⟨tg,F,ρ,_,_,G,e1,fun v H' F' G' x r =>?_⟩
 cases r;exact⟨k,rfl,q H' F' G' x⟩
theorem aus{j:Nat}{m:M D}(h:EB K X a m):ET K X (.Compare a [.Is] [.Constant .none j p] p2) (aaw (mIsN false m)):=ET.mk fun hk=>PT.imp (a3n (a4f (h hk))) (axd (t:=tIsN) fun _ _ _ _=>rfl)
end
def aol(f:Fd):Prop:=∀ns:List Int,ns.length<=63->∃ps,f [.val (.kst (ns.map D.int))]=some (.ok (.v (.bl true)),ps)
theorem a3b{K:Fg9}{f:Fd}(h:aol f)(H:Hp)(a:aZ)(ns:List Int)(hn:ns.length<=63)(hS:SqL K H a (ns.map V.int)):spOf K 1 f [.ref a] H (fun v _=>v=.bl true) fun _ _ _=>False:=by
 obtain⟨ps,e⟩:=h ns hn;refine⟨rfl,H,_,_,ps,⟨Same.refl H,rfl,fun i s o e1 e2 =>?_,fun i j b ⟨⟨t,l,e1⟩,_⟩ _=>by cases i <;> simp at e1⟩,e,fun v H' F' O' _ _ _ rr =>?_⟩
 ·cases i with
  | zero =>
   simp at e1 e2;subst e1 e2;exact⟨_,rfl,.kst hS (agi ns)⟩
  | succ i=>simp at e1
 ·have rr:Is K F' (.bl true) v:=rr;cases rr;rfl
theorem walk{l:sJ}{q:cF}{loose:List Str}{XP:(Str->Option aG)->fH->Prop}{YP:dR->fH->Prop}{d:DefRec}{K:Params->Fg9}{f:Fd}{k:Nat}(ht:aol f)(hn:l.most=some 63)(hdf:d.params.defaults=[])(hr:Room k rB)
  (hY:∀(w:dR) (h:fH),YP w h->(K w.params).In h)
  (F:∀(w:dR) (mg:Str->Option aG) (fa:aZ) (h:fH),(K w.params).In h->h.Ns bB mg->mg d.name=some (.ref fa) ->
   ∃fd:fX,(∀(s:aJ) (u:aG),pA s fd ⟨[u],[]⟩ [("script", u)])/\∀base:fH,(K w.params).In base->base.Ns bB mg->FnOk l.prog w (K w.params) mg base CX0 k fa fd ["script"] (spOf (K w.params) 1 f)) :
  zK q loose XP YP l.row.toRowW d [] (fun f vs=>wV f vs) :=
 L2.azc (n:=63) (k:=k) (x := "script") (CX:=fun _=>CX0) (sp:=fun w=>spOf (K w.params) 1 f) hn (by decide) hdf hr hY F (fun _ H a ns hl _ hS=>a3b ht H a ns hl hS) fun _ _ _ _ _ z=>z
section
variable{α β:Type}(ρ:Ro)
@[simp] theorem a98(a:α):ret a ρ=some (.ok a,ρ):=rfl
@[simp] theorem a84(o:Option α):lift o ρ=match o with
 | some a=>some (.ok a,ρ)
 | none=>none:=rfl
@[simp] theorem a9y(m:M α)(k:α->M β):M.bind m k ρ=match m ρ with
 | some (.ok a,ρ1)=>k a ρ1
 | some (.exc x,ρ1)=>some (.exc x,ρ1)
 | none=>none:=rfl
@[simp] theorem v_ap(m:M D):M.v m ρ=(m.bind fun d=>ret (.v d)) ρ:=rfl
@[simp] theorem d_ap(m:M Rv):M.d m ρ=(m.bind fun r=>ret r.d) ρ:=rfl
@[simp] theorem baq(d:D):(Rv.v d).d=d:=rfl
@[simp] theorem a97(l:List D):(Rv.fr l).d=.lst l:=rfl
@[simp] theorem a96(d:D)(l:List D):(Rv.tf d l).d=.tup [d,.lst l]:=rfl
@[simp] theorem bap(d:D):(Rv.v d).sl=.val d:=rfl
@[simp] theorem a95(l:List D):(Rv.fr l).sl=.own none l:=rfl
@[simp] theorem a8r(i:Nat):mVar i ρ=match ρ[i]? with
 | some (.val d)=>some (.ok d,ρ)
 | some (.own none l)=>some (.ok (.lst l),ρ.set i (.val (.lst l)))
 | _=>none:=rfl
@[simp] theorem a6w(i:Nat):dw i ρ=match ρ[i]? with
 | some (.val d)=>some (.ok d,ρ)
 | some (.own _ l)=>some (.ok (.lst l),ρ)
 | _=>none:=rfl
@[simp] theorem a66(i:Nat):afl i ρ=match ρ[i]? with
 | some (.val d)=>some (.ok (.v d),ρ)
 | some (.own none l)=>some (.ok (.fr l),ρ.set i .emp)
 | _=>none:=rfl
@[simp] theorem a8t(i:Nat):mOwn i ρ=match ρ[i]? with
 | some (.own _ l)=>some (.ok l,ρ)
 | _=>none:=rfl
@[simp] theorem a4v(i:Nat)(l':List D):aeo i l' ρ=match ρ[i]? with
 | some (.own t _)=>some (.ok (),dC ρ i (.own t l'))
 | _=>none:=rfl
@[simp] theorem a6z(m1 m2:M D):iu m1 m2 ρ=(m1.bind fun x=>m2.bind fun y=>ret (x,y)) ρ:=rfl
@[simp] theorem a4w(i:Nat)(m2:M D):dh i m2 ρ=((dw i).bind fun _=>m2.bind fun y=>(dw i).bind fun x=>ret (x,y)) ρ:=rfl
@[simp] theorem bab(g:D->D->Option Rv)(m:M (D×D)):mOp g m ρ=(m.bind fun p=>lift (g p.1 p.2)) ρ:=rfl
@[simp] theorem baa(g:D->Option D)(m:M D):mUn g m ρ=(m.bind fun d=>lift (g d)) ρ:=rfl
@[simp] theorem a83(m1 m2:M D):mAnd m1 m2 ρ=(m1.bind fun d=>(lift (asB d)).bind fun k=>if k=true then m2 else ret (.bl false)) ρ:=rfl
@[simp] theorem a6x(m:M D):aaw m ρ=(m.bind fun d=>lift (asB d)) ρ:=rfl
@[simp] theorem a4u(g:D->D->Option Rv)(m:M (D×D)):j9 g m ρ=aaw (mOp g m).d ρ:=rfl
@[simp] theorem a65(m:M Bool):afk m ρ=(m.bind fun k=>ret (!k)) ρ:=rfl
@[simp] theorem a8u(m1 m2:M Bool):mOrB m1 m2 ρ=(m1.bind fun k=>if k=true then ret true else m2) ρ:=rfl
@[simp] theorem bac(m:M Bool)(m1 m2:M α):mIf m m1 m2 ρ=(m.bind fun k=>if k=true then m1 else m2) ρ:=rfl
@[simp] theorem baf(c:Prop)[Decidable c](m1 m2:M α):(if c then m1 else m2) ρ=if c then m1 ρ else m2 ρ:=by split <;> rfl
@[simp] theorem a89(c:Prop)[Decidable c](m1 m2:Sd):(if c then m1 else m2) ρ=if c then m1 ρ else m2 ρ:=by split <;> rfl
@[simp] theorem bao(b:Bool):asB (.bl b)=some b:=rfl
@[simp] theorem a93(b:Int):asI (.int b)=some b:=rfl
@[simp] theorem a9g(b:Bool):gNot (.bl b)=some (.bl (!b)):=rfl
@[simp] theorem a7e(b:Int):gNeg (.int b)=some (.int (-b)):=rfl
@[simp] theorem a7s(i j:Int):gAdd (.int i) (.int j)=some (.v (.int (i+j))):=rfl
@[simp] theorem a7q(l k:List D):gAdd (.tup l) (.tup k)=if l.length+k.length<=capS then some (.v (.tup (l++k))) else none:=rfl
@[simp] theorem a7r(l k:List D):gAdd (.lst l) (.lst k)=if l.length+k.length<=capS then some (.fr (l++k)) else none:=rfl
@[simp] theorem a7j(f:Int->Int->Option Int)(i j:Int):gInt f (.int i) (.int j)=(f i j).map fun k=>.v (.int k):=rfl
@[simp] theorem a9n(i j:Int):fSub i j=some (i - j):=rfl
@[simp] theorem a7h(i j:Int):gMul (.int i) (.int j)=(fMul i j).map fun k=>.v (.int k):=rfl
@[simp] theorem a7f(l:List D)(k:Int):gMul (.tup l) (.int k)=if k=1 then some (.v (.tup l)) else if l≠[]/\2<=k/\k < 9223372036854775808/\l.length*k.toNat<=capS then some (.v (.tup (aU k.toNat l).flatten)) else none:=rfl
@[simp] theorem a7g(l:List D)(k:Int):gMul (.lst l) (.int k)=if k.natAbs < 9223372036854775808/\l.length*k.toNat<=capS then some (.fr (aU k.toNat l).flatten) else none:=rfl
@[simp] theorem a7o(f:Int->Int->Bool)(i j:Int):gCmp f (.int i) (.int j)=some (.v (.bl (f i j))):=rfl
@[simp] theorem a8y(t:Ty)(m:M D):mIsi t m ρ=(m.bind fun d=>ret (.bl (isTy t d))) ρ:=rfl
@[simp] theorem a5c(f g:Int->Int->Bool)(m1 m2 m3:M D):alr f g m1 m2 m3 ρ=(m1.bind fun x=>m2.bind fun y=>match x,y with
 | .int i,.int j=>if f i j=true then m3.bind fun z=>match z with
  | .int k=>ret (.bl (g j k))
  | _=>lift none
  else ret (.bl false)
 | _,_=>lift none) ρ:=rfl
@[simp] theorem a8v:mNil ρ=some (.ok [],ρ):=rfl
@[simp] theorem a7a(m:M D)(ms:M (List D)):bh m ms ρ=(m.bind fun d=>ms.bind fun ds=>ret (d::ds)) ρ:=rfl
@[simp] theorem a5b(i:Nat)(ms:M (List D)):ir i ms ρ=((dw i).bind fun _=>ms.bind fun ds=>(dw i).bind fun d=>ret (d::ds)) ρ:=rfl
@[simp] theorem a8s(m:M (List D)):mTup m ρ=(m.bind fun ds=>lift (gTup ds)) ρ:=rfl
@[simp] theorem a8x(m:M (List D)):mLst m ρ=(m.bind fun ds=>lift (gLst ds)) ρ:=rfl
@[simp] theorem a7c(g:List D->Option Rv)(m:M (List D)):jd g m ρ=(m.bind fun ds=>lift (g ds)) ρ:=rfl
@[simp] theorem bai(f:D->Option Rv)(d:D):g1 f [d]=f d:=rfl
@[simp] theorem bah(f:D->D->Option Rv)(d d':D):g2 f [d,d']=f d d':=rfl
@[simp] theorem a5n(l:List D):itemsD (.tup l)=some l:=rfl
@[simp] theorem a5o(l:List D):itemsD (.lst l)=some l:=rfl
@[simp] theorem a5p(l:List D):itemsD (.kst l)=some l:=rfl
@[simp] theorem a7p(l:List D):gAll (.lst l)=(abt l).map fun bs=>.v (.bl (bs.all id)):=rfl
@[simp] theorem a5u(i:Int):axl (.int i)=some (.v (.int i)):=rfl
@[simp] theorem a7k(i:Bool):axl (.bl i)=some (.v (.int (if i then 1 else 0))):=rfl
@[simp] theorem a9i(d:D)(k:Int):gIx d (.int k)=(itemsD d).bind fun l=>(atI l k).map fun x=>.v x:=rfl
@[simp] theorem a82(m:M D)(ml mh:M (Option Int)):mCut m ml mh ρ=(m.bind fun d=>ml.bind fun lo=>mh.bind fun hi=>lift (gCut d lo hi)) ρ:=rfl
@[simp] theorem a69(i:Nat)(ml mh:M (Option Int)):a04 i ml mh ρ=((dw i).bind fun _=>ml.bind fun lo=>mh.bind fun hi=>(dw i).bind fun d=>lift (gCut d lo hi)) ρ:=rfl
@[simp] theorem a6y(m:M D):aqu m ρ=(m.bind fun d=>lift ((asI d).map some)) ρ:=rfl
@[simp] theorem a7l(l:List D)(lo hi:Option Int):gCut (.tup l) lo hi=some (.v (.tup (cutD l lo hi))):=rfl
@[simp] theorem a7m(l:List D)(lo hi:Option Int):gCut (.lst l) lo hi=some (.fr (cutD l lo hi)):=rfl
@[simp] theorem a7n(l:List D)(lo hi:Option Int):gCut (.kst l) lo hi=some (.fr (cutD l lo hi)):=rfl
@[simp] theorem a8z(neg:Bool)(m:M D):mIsN neg m ρ=(m.bind fun d=>ret (.bl (if neg then !isN d else isN d))) ρ:=rfl
@[simp] theorem a4x(m:M D):yh m ρ=(m.bind fun d=>lift (itemsD d)) ρ:=rfl
@[simp] theorem a81(g:α->Option β)(m:M α):mGet g m ρ=(m.bind fun ds=>lift (g ds)) ρ:=rfl
@[simp] theorem an4(j:Int):qt [.int j]=if j.natAbs < 4611686018427387904 then some (rangeD 0 j.toNat) else none:=rfl
@[simp] theorem a1e(i j:Int):aj9 [.int i,.int j]=if i.natAbs < 4611686018427387904/\j.natAbs < 4611686018427387904 then some (rangeD i (j - i).toNat) else none:=rfl
@[simp] theorem a1h(i j:Int):akb (.int i) (.int j)=if 0 < j/\j < 1000000000000000000000000000000000000000000000000000000000000 then some (.v (.tup [.int (i / j),.int (i % j)])) else none:=rfl
@[simp] theorem a8w(i:Nat)(g:List D->List D->Option (D×List D))(ms:M (List D)):mMut i g ms ρ=((mOwn i).bind fun _=>ms.bind fun ds=>(mOwn i).bind fun l=>(lift (g l ds)).bind fun r=>(aeo i r.2).bind fun _=>ret r.1) ρ:=rfl
@[simp] theorem a1k(l:List D)(d:D):afq l [d]=if l.length < capS then some (.non,l++[d]) else none:=rfl
@[simp] theorem a68:ig ρ=some (.ok [],ρ):=rfl
@[simp] theorem a4z(m:M D)(ms:M (List (Option D))):bu m ms ρ=(m.bind fun d=>ms.bind fun ds=>ret (some d::ds)) ρ:=rfl
@[simp] theorem a4y(j:Nat)(ms:M (List (Option D))):gj j ms ρ=((dw j).bind fun _=>ms.bind fun ds=>ret (none::ds)) ρ:=rfl
@[simp] theorem bae(f:Fd)(js:List (Option Nat))(ms:M (List (Option D))):mFn f js ms ρ=(ms.bind fun ds ρ=>if okJs ρ js=true then match f (lend ρ js ds) with
  | some (.ok r,ps)=>some (.ok r,putB ρ js ps)
  | some (.exc x,ps)=>some (.exc x,putB ρ js ps)
  | none=>none
 else none) ρ:=rfl
@[simp] theorem a7b(src:List (Option Nat))(mi:M (List D))(b:D->Ro->Option Ro)(mc:M Bool)(me:M D):ww src mi b mc me ρ=(mi.bind fun l ρ=>if okJs ρ src=true then match compD b mc me l [] (lend ρ src (src.map fun _=>none)) with
  | some (.ok ys,ps)=>if ys.length<=capS then some (.ok (.fr ys),putB ρ src ps) else none
  | some (.exc x,ps)=>some (.exc x,putB ρ src ps)
  | none=>none
 else none) ρ:=rfl
@[simp] theorem a6v:okJs ρ []=true:=rfl
@[simp] theorem a4r(r:List (Option Nat)):okJs ρ (none::r)=okJs ρ r:=rfl
@[simp] theorem a4q(j:Nat)(r:List (Option Nat)):okJs ρ (some j::r)=((match ρ[j]? with
  | some (.own _ _) => !r.contains (some j)
  | _=>true)&&okJs ρ r):=rfl
@[simp] theorem lend_eq(js:List (Option Nat))(ds:List (Option D)):lend ρ js ds=(zM js ds).mapIdx fun i p=>alu ρ i p.1 p.2:=rfl
@[simp] theorem a2j(i j:Nat)(d:Option D):alu ρ i (some j) d=match ρ[j]? with
  | some (.val d)=>.val d
  | some (.own _ l)=>.own (some i) l
  | _=>.emp:=rfl
@[simp] theorem a85(i:Nat)(d:D):alu ρ i none (some d)=.val d:=rfl
@[simp] theorem a86(i:Nat):alu ρ i none none=.emp:=rfl
@[simp] theorem a8c(js:List (Option Nat))(ps:Ro):putB ρ js ps=ρ.mapIdx fun j s=>putS js ps j s:=rfl
@[simp] theorem a8b(js:List (Option Nat))(ps:Ro)(j:Nat)(s:Sl):putS js ps j s=match js.findIdx? (fun o=>o==some j) with
 | none=>s
 | some i=>match s with
  | .own t _=>match ps[i]? with
   | some (.own (some i') l')=>if i'=i then .own t l' else .emp
   | _=>.emp
  | s=>s:=rfl
@[simp] theorem baj(nl np:Nat)(g:Sd):fnD nl np g ρ=match g (ρ++aU (nl - np) .emp) with
 | some (.ret r,ρ)=>some (.ok r,ρ.take np)
 | some (.nx,ρ)=>some (.ok (.v .non),ρ.take np)
 | some (.exc x,ρ)=>some (.exc x,ρ.take np)
 | _=>none:=rfl
@[simp] theorem bam:dNx ρ=some (.nx,ρ):=rfl
@[simp] theorem a9t(g k:Sd):dSeq g k ρ=match g ρ with
 | some (.nx,ρ1)=>k ρ1
 | r=>r:=rfl
@[simp] theorem bas(m:M α)(k:α->Sd):dM m k ρ=match m ρ with
 | some (.ok x,ρ1)=>k x ρ1
 | some (.exc x,ρ1)=>some (.exc x,ρ1)
 | none=>none:=rfl
@[simp] theorem a9u(m:M Rv):dRet m ρ=dM m (fun r ρ=>some (.ret r,ρ)) ρ:=rfl
@[simp] theorem ban(m:M Bool)(g k:Sd):dIf m g k ρ=dM m (fun z=>if z=true then g else k) ρ:=rfl
@[simp] theorem a7v(m:M α):agc m ρ=dM m (fun _ ρ=>some (.nx,ρ)) ρ:=rfl
@[simp] theorem a9s(i:Nat)(m:M Rv):dSet i m ρ=dM m (fun r ρ=>some (.nx,dC ρ i r.sl)) ρ:=rfl
@[simp] theorem a9x(m:M D)(b:D->Ro->Option Ro):dAsg m b ρ=dM m (fun d ρ=>(b d ρ).map fun ρ'=>(.nx,ρ')) ρ:=rfl
@[simp] theorem a9v(i j:Nat)(m:M (List D)):dPar i j m ρ=dM m (fun ds ρ=>match ds with
 | [d,d']=>some (.nx,dC (dC ρ i (.val d)) j (.val d'))
 | _=>none) ρ:=rfl
@[simp] theorem a9r(i:Nat)(mi m:M D):dSub i mi m ρ=(dM m fun d=>dM (mOwn i) fun _=>dM mi fun k=>dM (mOwn i) fun l=>dM (lift ((asI k).bind (ixN l.length))) fun j=>dM (aeo i (l.set j d)) fun _=>dNx) ρ:=rfl
@[simp] theorem a9w(m:M (List D))(b:D->Ro->Option Ro)(g:Sd):dFor m b g ρ=dM m (forD b g) ρ:=rfl
@[simp] theorem a7w(i:Nat)(d:D):di i d ρ=some (dC ρ i (.val d)):=rfl
@[simp] theorem a91:bNil [] ρ=some ρ:=rfl
@[simp] theorem a7x(b:D->Ro->Option Ro)(bs:List D->Ro->Option Ro)(d:D)(r:List D):lq b bs (d::r) ρ=(b d ρ).bind (bs r):=rfl
@[simp] theorem a90(n:Nat)(bs:List D->Ro->Option Ro)(l:List D):bTup n bs (.tup l) ρ=if l.length=n then bs l ρ else none:=rfl
end
section
variable(c:Prop)[Decidable c](b:Bool)(ρ:Ro)
@[simp] theorem a88:(if c then some (Out.ok (D.bl b),ρ) else some (Out.ok (D.bl false),ρ))=some (.ok (.bl (decide c&&b)),ρ):=by by_cases h:c <;> simp[h]
end
@[simp] theorem cz{n:Nat}(h:n<=1000):n<=capS:=cL h (by decide)
@[simp] theorem a9f(ds:List D):gTup ds=if ds.length<=capS then some (.tup ds) else none:=rfl
@[simp] theorem a9h(ds:List D):gLst ds=if ds.length<=capS then some (.fr ds) else none:=rfl
@[simp] theorem aog{α:Type}(l:List α)(f:α->Bool):abt (l.map fun d=>D.bl (f d))=some (l.map f):=by
 have:=ai2 (l.map f);rw[dN] at this;exact this
def abe(s:Sl):List D->Sl
 | []=>s
 | d::r=>abe (.val d) r
theorem uo{me:M D}{rest:Ro}{f:D->D}:∀{l:List D} {ys:List D} {s:Sl},(∀d∈l,me (.val d::rest)=some (.ok (f d),.val d::rest))->compD (di 0) (ret true) me l ys (s::rest)=some (.ok (ys++l.map f),abe s l::rest)
 | [],ys,s,_=>by simp[compD,abe]
 | d::r,ys,s,h=>by
  have h1:=h d (aR ..);have ih:=uo (me:=me) (rest:=rest) (f:=f) (l:=r) (ys:=ys++[f d]) (s:=.val d) fun x hx=>h x (aN _ hx)
  simp[compD,h1,ih,abe]
theorem xg{mc:M Bool}{me:M D}{rest:Ro}{p:D->Bool}{f:D->D}:∀{l:List D} {ys:List D} {s:Sl},(∀d∈l,mc (.val d::rest)=some (.ok (p d),.val d::rest))->(∀d∈l,p d=true->me (.val d::rest)=some (.ok (f d),.val d::rest)) ->
  compD (di 0) mc me l ys (s::rest)=some (.ok (ys++(l.filter p).map f),abe s l::rest)
 | [],ys,s,_,_=>by simp[compD,abe]
 | d::r,ys,s,hc,h=>by
  have h0:=hc d (aR ..);cases hp:p d with
  | true =>
   have h1:=h d (aR ..) hp;have ih:=xg (mc:=mc) (me:=me) (rest:=rest) (p:=p) (f:=f) (l:=r) (ys:=ys++[f d]) (s:=.val d) (fun x hx=>hc x (aN _ hx)) fun x hx=>h x (aN _ hx)
   simp[compD,h0,h1,ih,abe,hp]
  | false =>
   have ih:=xg (mc:=mc) (me:=me) (rest:=rest) (p:=p) (f:=f) (l:=r) (ys:=ys) (s:=.val d) (fun x hx=>hc x (aN _ hx)) fun x hx=>h x (aN _ hx)
   simp[compD,h0,ih,abe,hp]
@[simp] theorem a7u(b:D->Ro->Option Ro)(g:Sd)(ρ:Ro):forD b g [] ρ=some (.nx,ρ):=rfl
theorem mj(b:D->Ro->Option Ro)(g:Sd)(d:D)(ds:List D)(ρ:Ro):forD b g (d::ds) ρ=match b d ρ with
  | none=>none
  | some ρ1=>match g ρ1 with
   | some (.nx,ρ2)=>forD b g ds ρ2
   | some (.cont,ρ2)=>forD b g ds ρ2
   | some (.brk,ρ2)=>some (.nx,ρ2)
   | some (.ret r,ρ2)=>some (.ret r,ρ2)
   | some (.exc x,ρ2)=>some (.exc x,ρ2)
   | none=>none:=rfl
@[simp] theorem a9m{α:Type}(p:α->Bool)(a:α)(l:List α):qT p (a::l)=if p a=true then some 0 else (qT p l).map (· + 1):=by
 rw[List.findIdx?_cons]
@[simp] theorem bak{α:Type}(p:α->Bool):qT p ([]:List α)=none:=rfl
theorem au7(ns:List Int)(lo hi:Option Int):∃ms:List Int,cutD (ns.map D.int) lo hi=ms.map D.int/\ms.length<=ns.length:=by
 refine⟨(ns.drop (HT.sIx ns.length 0 lo)).take (HT.sIx ns.length ns.length hi - HT.sIx ns.length 0 lo),?_,?_⟩
 ·unfold cutD;rw[aW,uK,zN]
 ·rw[gM,lA];omega
theorem abh{b:D->Ro->Option Ro}{g:Sd}(Inv:Nat->Ro->Prop):∀{l:List D} {ρ:Ro} (k:Nat),Inv k ρ->(∀i d ρ,l[i]? = some d->Inv (k+i) ρ->∃ρ1 ρ2,b d ρ=some ρ1/\(g ρ1=some (.nx,ρ2)∨g ρ1=some (.cont,ρ2))/\Inv (k+i+1) ρ2) ->
  ∃ρ',forD b g l ρ=some (.nx,ρ')/\Inv (k+l.length) ρ'
 | [],ρ,k,h0,_=>⟨ρ,rfl,h0⟩
 | d::r,ρ,k,h0,hs=>by
  obtain⟨ρ1,ρ2,e1,e2,h1⟩:=hs 0 d ρ rfl h0;obtain⟨ρ',e3,h3⟩:=abh (b:=b) (g:=g) Inv (l:=r) (ρ:=ρ2) (k+1) h1 fun i x ρ hx hi=>by
   have:=hs (i+1) x ρ (by simpa using hx) ((show k+(i+1)=k+1+i by omega)▸hi)
   have e:k+(i+1)+1=k+1+i+1:=by omega
   rw[e] at this;exact this
  refine⟨ρ',?_,?_⟩
  ·rw[mj,e1];rcases e2 with e2 | e2 <;> simp only[e2] <;> exact e3
  ·have e:k+(d::r).length=k+1+r.length:=by simp;omega
   rw[e];exact h3
theorem uq{b:D->Ro->Option Ro}{mc:M Bool}{me:M D}(Inv:Nat->List D->Ro->Prop):∀{l:List D} {ys:List D} {ρ:Ro} (k:Nat),Inv k ys ρ ->
  (∀i d ys ρ,l[i]? = some d->Inv (k+i) ys ρ->∃ρ1 ρ2 z,b d ρ=some ρ1/\mc ρ1=some (.ok z,ρ2)/\((z=false/\Inv (k+i+1) ys ρ2)∨(z=true/\∃y ρ3,me ρ2=some (.ok y,ρ3)/\Inv (k+i+1) (ys++[y]) ρ3))) ->
  ∃ys' ρ',compD b mc me l ys ρ=some (.ok ys',ρ')/\Inv (k+l.length) ys' ρ'
 | [],ys,ρ,k,h0,_=>⟨ys,ρ,rfl,h0⟩
 | d::r,ys,ρ,k,h0,hs=>by
  obtain⟨ρ1,ρ2,z,e1,e2,h1⟩:=hs 0 d ys ρ rfl h0;have nxt:∀{ys':List D} {ρ':Ro},Inv (k+0+1) ys' ρ'->∃ys2 ρ2,compD b mc me r ys' ρ'=some (.ok ys2,ρ2)/\Inv (k+1+r.length) ys2 ρ2:=fun{ys' ρ'} hi =>
   uq (b:=b) (mc:=mc) (me:=me) Inv (l:=r) (ys:=ys') (ρ:=ρ') (k+1) hi fun i x ys ρ hx hi=>by
    have:=hs (i+1) x ys ρ (by simpa using hx) ((show k+(i+1)=k+1+i by omega)▸hi)
    have e:k+(i+1)+1=k+1+i+1:=by omega
    rw[e] at this;exact this
  have el:k+(d::r).length=k+1+r.length:=by simp;omega
  rw[el];rcases h1 with⟨rfl,h1⟩ | ⟨rfl,y,ρ3,e3,h1⟩
  ·obtain⟨ys2,ρ4,e4,h4⟩:=nxt h1;exact⟨ys2,ρ4,by simp[compD,e1,e2,e4],h4⟩
  ·obtain⟨ys2,ρ4,e4,h4⟩:=nxt h1;exact⟨ys2,ρ4,by simp[compD,e1,e2,e3,e4],h4⟩
@[simp] theorem a9j(neg:Bool)(a b:Int):gEq neg (.int a) (.int b)=some (.v (.bl (if neg then !(a==b) else (a==b)))):=rfl
@[simp] theorem bag(neg:Bool)(a b:Bool):gEq neg (.bl a) (.bl b)=some (.v (.bl (if neg then !(a==b) else (a==b)))):=rfl
section
variable{K:Fg9}{X:Cx}{e a b c:dW}{es:List dW}{pos p p2:Pos}
def ac4:List D->Option (List Int)
 | []=>some []
 | .int i::r=>(ac4 r).map (i :: ·)
 | _::_=>none
theorem aj6:∀{l:List D} {ns:List Int},ac4 l=some ns->l=ns.map D.int
 | [],_,h=>by cases h;rfl
 | .int b::r,bs,h=>by
  have h':(ac4 r).map (b :: ·)=some bs:=h;cases e:ac4 r with
  | none=>rw[e] at h';cases h'
  | some t =>
   rw[e] at h';cases h';rw[aj6 e];rfl
 | .non::_,_,h=>by cases h
 | .bl _::_,_,h=>by cases h
 | .str _::_,_,h=>by cases h
 | .tup _::_,_,h=>by cases h
 | .lst _::_,_,h=>by cases h
 | .kst _::_,_,h=>by cases h
 | .dct _::_,_,h=>by cases h
@[simp] theorem al0(ns:List Int):ac4 (ns.map D.int)=some ns:=by
 induction ns with
 | nil=>rfl
 | cons b r ih=>show(ac4 (r.map D.int)).map (b :: ·)=_;rw[ih];rfl
def insI(x:Int):List Int->List Int
 | []=>[x]
 | y::r=>if x<=y then x::y::r else y::insI x r
def sortI:List Int->List Int
 | []=>[]
 | x::r=>insI x (sortI r)
theorem insI_perm(x:Int):∀l:List Int,(insI x l).Perm (x::l)
 | []=>.refl _
 | y::r=>by
  unfold insI;split
  ·exact .refl _
  ·exact((insI_perm x r).cons y).trans (.swap x y r)
theorem sortI_perm:∀l:List Int,(sortI l).Perm l
 | []=>.refl _
 | x::r=>(insI_perm x (sortI r)).trans ((sortI_perm r).cons x)
theorem ahe(x:Int):∀{l:List Int},l.Pairwise (· <= ·)->(insI x l).Pairwise (· <= ·)
 | [],_=>by simp[insI]
 | y::r,h=>by
  unfold insI;rw[fZ] at h;split
  ·rename_i hxy;rw[fZ,fZ];refine⟨fun z hz =>?_,h⟩
   rcases bD.mp hz with rfl | hz
   ·exact hxy
   ·exact rN hxy (h.1 z hz)
  ·rename_i hxy;rw[fZ];refine⟨fun z hz =>?_,ahe x h.2⟩
   rcases bD.mp ((insI_perm x r).mem_iff.mp hz) with rfl | hz
   ·omega
   ·exact h.1 z hz
theorem afv:∀l:List Int,(sortI l).Pairwise (· <= ·)
 | []=>.nil
 | x::r=>ahe x (afv r)
theorem aig:∀{l k:List Int},l.Perm k->l.Pairwise (· <= ·)->k.Pairwise (· <= ·)->l=k
 | [],k,h,_,_=>h.nil_eq
 | x::r,[],h,_,_=>absurd h.length_eq (by simp)
 | x::r,y::t,h,hl,hk=>by
  rw[fZ] at hl hk;have e:x=y:=by
   have h1:x∈y::t:=h.mem_iff.mp (aR ..);have h2:y∈x::r:=h.mem_iff.mpr (aR ..);rcases bD.mp h1 with h1 | h1
   ·exact h1
   ·rcases bD.mp h2 with h2 | h2
    ·exact h2.symm
    ·have a:=hk.1 x h1;have b:=hl.1 y h2;omega
  subst e;rw[aig ((List.perm_cons x).mp h) hl.2 hk.2]
theorem awb{l k:List Int}(h:l.Perm k)(hs:l.Pairwise (· <= ·)):l=sortI k:=aig (h.trans (sortI_perm k).symm) hs (afv k)
theorem afu:∀{ns:List Int} {us:List aG},oV us ns->Vals (ns.map V.int) us
 | _,_,.nil=>.nil
 | _,_,.cons n t h=>.cons ⟨t,rfl⟩ (afu h)
end
section
variable{K:Fg9}{X:Cx}{e a b c:dW}{es:List dW}{pos p p2:Pos}
def ae2(lt:Int->Int->Bool):List Int->Int
 | []=>0
 | x::r=>r.foldl (fun m y=>if lt y m=true then y else m) x
theorem avq(lt:Int->Int->Bool)(ns:List Int):∀k,k < ns.length->qN (fun i j=>lt (ns.getD i 0) (ns.getD j 0)) k<=k/\ns.getD (qN (fun i j=>lt (ns.getD i 0) (ns.getD j 0)) k) 0=ae2 lt (ns.take (k+1))
 | 0,h=>by
  cases ns with
  | nil=>simp at h
  | cons x r=>exact⟨Nat.le_refl _,rfl⟩
 | k+1,h=>by
  obtain⟨h1,h2⟩:=avq lt ns k (by omega)
  have ht:ns.take (k+1+1)=ns.take (k+1)++[ns.getD (k+1) 0]:=by
   rw[xG,aF h];simp[List.getD,aF h]
  have hb:ae2 lt (ns.take (k+1+1))=if lt (ns.getD (k+1) 0) (ae2 lt (ns.take (k+1)))=true then ns.getD (k+1) 0 else ae2 lt (ns.take (k+1)):=by
   rw[ht];cases ns with
   | nil=>simp at h
   | cons x r=>simp[ae2,List.foldl_append]
  have ha:qN (fun i j=>lt (ns.getD i 0) (ns.getD j 0)) (k+1)=if lt (ns.getD (k+1) 0) (ns.getD (qN (fun i j=>lt (ns.getD i 0) (ns.getD j 0)) k) 0)=true then k+1 else qN (fun i j=>lt (ns.getD i 0) (ns.getD j 0)) k:=rfl
  rw[hb,<-h2,ha]
  by_cases hc:lt (ns.getD (k+1) 0) (ns.getD (qN (fun i j=>lt (ns.getD i 0) (ns.getD j 0)) k) 0)=true
  ·rw[if_pos hc,if_pos hc];exact⟨Nat.le_refl _,rfl⟩
  ·rw[if_neg hc,if_neg hc];exact⟨by omega,rfl⟩
theorem ax3(lt:Int->Int->Bool)(ns:List Int)(h:ns≠[]):qN (fun i j=>lt (ns.getD i 0) (ns.getD j 0)) (ns.length - 1) < ns.length/\ns.getD (qN (fun i j=>lt (ns.getD i 0) (ns.getD j 0)) (ns.length - 1)) 0=ae2 lt ns:=by
 have hl:0 < ns.length:=mY.mpr h;obtain⟨h1,h2⟩:=avq lt ns (ns.length - 1) (by omega)
 refine⟨by omega,?_⟩
 rw[h2,show ns.length - 1+1=ns.length by omega,mH]
def a5x(lt:Int->Int->Bool):D->Option Rv
 | .lst l=>(ac4 l).bind fun ns=>if ns=[] then none else some (.v (.int (ae2 lt ns)))
 | .tup l=>(ac4 l).bind fun ns=>if ns=[] then none else some (.v (.int (ae2 lt ns)))
 | _=>none
theorem an6{lt:Int->Int->Bool}{d:D}{r:Rv}(h:a5x lt d=some r):∃ns:List Int,ns≠[]/\r=.v (.int (ae2 lt ns))/\(d=.lst (ns.map D.int)∨d=.tup (ns.map D.int)):=by
 have go:∀l,(ac4 l).bind (fun ns=>if ns=[] then none else some (Rv.v (.int (ae2 lt ns))))=some r->∃ns:List Int,ns≠[]/\r=.v (.int (ae2 lt ns))/\l=ns.map D.int:=fun l h=>by
  cases e:ac4 l with
  | none=>rw[e] at h;cases h
  | some ns =>
   rw[e] at h;have h:(if ns=[] then none else some (Rv.v (.int (ae2 lt ns))))=some r:=h
   split at h
   ·cases h
   ·rename_i hn;cases h;exact⟨ns,hn,rfl,aj6 e⟩
 cases d with
 | lst l=>obtain⟨ns,h1,h2,rfl⟩:=go l h;exact⟨ns,h1,h2,.inl rfl⟩
 | tup l=>obtain⟨ns,h1,h2,rfl⟩:=go l h;exact⟨ns,h1,h2,.inr rfl⟩
 | _=>cases h
theorem ahd{ns:List Int}{its:List aG}(rv:Vals (ns.map V.int) its)(i:Nat)(v:aG)(h:its.toArray[i]? = some v):∃t,v=.int (ns.getD i 0) t:=by
 have h:its[i]? = some v:=by simpa using h
 have hi:i < its.length:=(aQ.mp h).1;have hl:=rv.length;rw[aW] at hl;have hi':i < ns.length:=by omega
 obtain⟨u,hu,t,rfl⟩:=rv.get (i:=i) (x:=V.int ns[i]) (by rw[bA,aF hi'];rfl)
 rw[h] at hu;cases hu;exact⟨t,by simp[List.getD,aF hi']⟩
def a1g:D->Option Rv:=a5x fun i j=>decide (i < j)
theorem a1x(hc:X.calm=true):CallD K X (.builtin "min") (g1 a1g):=cd_one fun hk zv s σ0 H x u Q tg F ρ σ d r I ru G bd eg q=>by
 subst hk;obtain⟨ns,hn,rfl,hd⟩:=an6 eg;have q':=Res.same G q (.int _);obtain⟨hb1,hb2⟩:=ax3 (fun i j=>decide (i < j)) ns hn
 have fin:∀{its:List aG} (rv:Vals (ns.map V.int) its) {v:aG} {h':fH} {tk:Nat},its.toArray[qN (fun i j=>decide (ns.getD i 0 < ns.getD j 0)) (its.toArray.size - 1)]? = some v->(∀b o,s.heap.get? b=some o->h'.get? b=some o)->EP X zv σ0 Q v { s with heap:=h',toks:=tk }:=fun{its} rv {v h' tk} hv hk=>by
  have hl:=rv.length;rw[aW] at hl;rw[aY,<-hl] at hv;obtain⟨t,rfl⟩:=ahd rv _ v hv;exact⟨.int (ae2 (fun i j=>decide (i < j)) ns),H,I.kept hk,⟨t,by rw[hb2]⟩,q'⟩
 rcases hd with rfl | rfl
 ·obtain⟨a,vs,rfl,ea,hl⟩:=bd.lst G.sub;rw[hl.int_inv] at ea;cases ru;obtain⟨its,rv,pl,_⟩:=I.list (SqL.of ea);have hl':=pl.isList;have hlt:a < s.heap.objs.size:=by obtain⟨_,e,_⟩:=hl';exact aP e
  have hlen:=rv.length;rw[aW] at hlen;refine call_min_walk (wpAny_pyIter_list hl' ⟨s.heap.objs.size,[s.heap.objs.size,a],[s.heap.objs.size],its.toArray.size,_,_,_,rfl,Walks.list (A:=X.A.in1) (I.ok.hd hc) _ a (bI hlt) its.toArray,
   ⟨⟨_,aO _ rfl,rfl,rfl⟩,hl'.push _⟩,fun b hb =>?_,?_,zQ (fun i=>ns.getD i 0) (fun i v=>ahd rv i v),fun v h' tk hP hk=>fin rv hP (uM hk)⟩)
  ·have hs:∀o:Obj,(s.heap.push o).objs.size=s.heap.objs.size+1:=fun o=>cH ..
   show b < (s.heap.push _).objs.size;rw[hs];rcases bD.mp hb with hb | hb
   ·exact hb▸Nat.lt_succ_self _
   ·have hb:b=a:=by simpa using hb
    exact hb▸Nat.lt_succ_of_lt hlt
  ·rw[aY,<-hlen];exact mY.mpr hn
 ·obtain⟨a,vs,rfl,ea,hl⟩:=bd.tup;rw[hl.int_inv] at ea;cases ru;obtain⟨its,rv,pl,_⟩:=I.tuple (SqT.of (G.sub _ _ ea));have hlt:a < s.heap.objs.size:=by obtain⟨_,e,_⟩:=pl;exact aP e
  have hlen:=rv.length;rw[aW] at hlen;refine call_min_walk (wpAny_pyIter_tuple pl ⟨s.heap.objs.size,[s.heap.objs.size,a],[s.heap.objs.size],its.toArray.size,_,_,_,rfl,Walks.tuple (A:=X.A.in1) (I.ok.hd hc) _ a (bI hlt) its.toArray,
   ⟨⟨_,aO _ rfl,rfl,rfl⟩,pl.push _⟩,fun b hb =>?_,?_,zQ (fun i=>ns.getD i 0) (fun i v=>ahd rv i v),fun v h' tk hP hk=>fin rv hP (uM hk)⟩)
  ·have hs:∀o:Obj,(s.heap.push o).objs.size=s.heap.objs.size+1:=fun o=>cH ..
   show b < (s.heap.push _).objs.size;rw[hs];rcases bD.mp hb with hb | hb
   ·exact hb▸Nat.lt_succ_self _
   ·have hb:b=a:=by simpa using hb
    exact hb▸Nat.lt_succ_of_lt hlt
  ·rw[aY,<-hlen];exact mY.mpr hn
end
section
variable{K:Fg9}{X:Cx}{e a b c:dW}{es:List dW}{pos p p2:Pos}
def rmOf(K:Fg9)(g:D->List D->Option D):V->List V->Hp->VK->Prop:=fun x vs H Q=>∃F d ds r,Same F H/\Bor K F H d x/\IsL K F ds vs/\g d ds=some r/\∀v,Is K F r v->Q v H
def a02(i:Nat)(g:D->List D->Option D)(ms:M (List D)):M D:=(dw i).bind fun d0=>(lift (match d0 with
 | .lst _=>some ()
 | _=>none)).bind fun _=>ms.bind fun ds=>(dw i).bind fun d=>lift (g d ds)
theorem auq{i:Nat}{name:Str}{id:String}{g:D->List D->Option D}{ms:M (List D)}{apos cpos:Pos}(slot:Slot "list" name id)(hty:typeOf (.builtin id)=pure (.type "method_descriptor"))(hm:X.K=K->MtR X id (rmOf K g))(ho:PE X a (tVar i))(ha:ED K X (e::es) ms)
  (hbase:attributeBase a name X.env (eval a X.env)=eval a X.env:=by rfl)
  (hfew:((jB cpos (aX (e::es) X.env)).all (fun x => !x.1)&&(backToKw cpos (keywordEach [] X.env)).all (fun x=>x.1.isSome)
   && decide ((e::es).length+([]:List qO).length+(if ([]:List qO).isEmpty then 0 else 1) < 30))=true:=by rfl)
  (hline:(apos.endLine==cpos.line)=true:=by rfl) (hs:aX (e::es) X.env=(false,eval e X.env)::aX es X.env:=by rfl) (hplain:(jB cpos (aX es X.env)).any (·.1)=false:=by rfl) :
  EV K X (.Call (.Attribute a name apos) (e::es) [] cpos) (a02 i g ms):=EV.mk fun hk=>PE.imp (awo oO slot hty (hm hk) ho (ha hk) hbase hfew hline hs hplain) fun σ H Q hq0=>by
 obtain⟨tg,F,ρ,d,ρ',G,em,q⟩:=hq0;obtain⟨d0,ρ0,e0,em1⟩:=bw em;obtain⟨u0,ρ9,e9,em2⟩:=bw em1;obtain⟨ds,ρ1,e1,em3⟩:=bw em2;obtain⟨d1,ρ2,e2,em4⟩:=bw em3;obtain⟨e3,rfl⟩:=ik em4;obtain⟨e9,rfl⟩:=ik e9;obtain⟨rfl,v,hv,bv⟩:=sy G e0;have ty:∃b,v=.ref b/\∃xs,SqL X.K H b xs:=by
  cases d0 with
  | lst l =>
   obtain⟨b,xs,rfl,hb,_⟩:=bv.lst G.sub;exact⟨b,rfl,xs,SqL.of hb⟩
  | _=>cases e9
 obtain⟨b,rfl,hty'⟩:=ty;refine⟨_,hv,.inl ⟨rfl,hty'⟩,tg,F,_,ds,ρ1,G,e1,fun vs H1 F1 G1 x1 r1 =>?_⟩
 obtain⟨rfl,v',hv',b'⟩:=sy G1 e2;rw[hv] at hv';cases hv';exact⟨F1,d1,ds,d,G1.sub,b',r1,e3,fun w iw=>q w H1 F1 G1 x1 iw⟩
def aue(d:D)(ds:List D):Option D:=match d,ds with
 | .lst l,[x]=>if okD 30 x&&l.all (okD 30) then some (.int (l.countP fun y=>eqD y x)) else none
 | _,_=>none
theorem ack{zv:List (aZ×Obj)}{σ:L2.St}{F H:Hp}{s:aJ}(I:Inv X zv σ H s)(g:Same F H){a:D}{n:Nat}:∀{ds:List D} {vs:List V} {us:List aG},IsL X.K F ds vs->ds.all (okD n)=true->Vals vs us ->
  us.countP (aan s.heap (toPy a))=ds.countP (fun y=>eqD y a)
 | _,_,_,.nil,_,r=>by cases r;rfl
 | _,_,_,.cons h t,k,r=>by
  rw[oU,bH] at k;cases r with
  | cons r1 r2 =>
   obtain⟨as,ra⟩:=aac I g h k.1 r1;obtain⟨c,p⟩:=aca _ _ k.1;rw[rY,rY,ack I g t k.2 r2,agj ra c];rfl
theorem awz(hu:X.A.units+64 < cLine):X.K=K->MtR X "list.count" (rmOf K aue):=fun hk=>by
 subst hk;intro zv s σ H x vs v us Q I rx rv ⟨F,d,ds,r,g,bd,il,eg,q⟩
 match d,ds,eg with
 | .lst l,[y],eg =>
  have eg:(if okD 30 y&&l.all (okD 30) then some (D.int (l.countP fun z=>eqD z y)) else none)=some r:=eg
  split at eg
  ·rename_i ho;rw[bH] at ho;cases eg;cases il with
   | cons hy t =>
    cases t;obtain⟨u,rfl,ru⟩:=rv.one;obtain⟨p,ws,rfl,ea,hl⟩:=bd.lst g;cases rx;obtain⟨its,rw',pl,_⟩:=I.list (SqL.of ea);obtain⟨as,ra⟩:=aac I g hy ho.1 ru;obtain⟨_,z⟩:=xj I g (a:=y) hl ho.2 rw';obtain⟨⟨cls,dd,data,sl⟩,h1,hc,n,hd⟩:=pl.isList;simp only at hc hd;subst hc hd;refine lD uG ⟨_,h1,rfl⟩ PySem.F.entry_list_count (PySem.F.args_list_count_2 _ _) (SeqAt.list_countAt p its.toArray n dd sl u (aan s.heap (toPy y))) ⟨h1,fun w hw =>?_,?_⟩
    ·exact vm (A:=X.A) hu ra ho.1 z w (by simpa using hw)
    ·refine⟨.int (l.countP fun z=>eqD z y),H,I.tok _,⟨s.toks,?_⟩,q _ (.int _)⟩
     rw[ack I g (a:=y) hl ho.2 rw']
  ·cases eg
def aud(d:D)(ds:List D):Option D:=match d,ds with
 | .tup l,[x]=>if okD 30 x&&l.all (okD 30) then some (.int (l.countP fun y=>eqD y x)) else none
 | _,_=>none
theorem atf(hu:X.A.units+64 < cLine):X.K=K->MtR X "tuple.count" (rmOf K aud):=fun hk=>by
 subst hk;intro zv s σ H x vs v us Q I rx rv ⟨F,d,ds,r,g,bd,il,eg,q⟩
 match d,ds,eg with
 | .tup l,[y],eg =>
  have eg:(if okD 30 y&&l.all (okD 30) then some (D.int (l.countP fun z=>eqD z y)) else none)=some r:=eg
  split at eg
  ·rename_i ho;rw[bH] at ho;cases eg;cases il with
   | cons hy t =>
    cases t;obtain⟨u,rfl,ru⟩:=rv.one;obtain⟨p,ws,rfl,ea,hl⟩:=bd.tup;cases rx;obtain⟨its,rw',pl,_⟩:=I.tuple (SqT.of (g _ _ ea));obtain⟨as,ra⟩:=aac I g hy ho.1 ru;obtain⟨_,z⟩:=xj I g (a:=y) hl ho.2 rw';obtain⟨⟨cls,dd,data,sl⟩,h1,hc,n,hd⟩:=pl;simp only at hc hd;subst hc hd;refine lD uB ⟨_,h1,rfl⟩ PySem.F.entry_tuple_count (PySem.F.args_tuple_count_2 _ _) (SeqAt.tuple_countAt p its.toArray n dd sl u (aan s.heap (toPy y))) ⟨h1,fun w hw =>?_,?_⟩
    ·exact vm (A:=X.A) hu ra ho.1 z w (by simpa using hw)
    ·refine⟨.int (l.countP fun z=>eqD z y),H,I.tok _,⟨s.toks,?_⟩,q _ (.int _)⟩
     rw[ack I g (a:=y) hl ho.2 rw']
  ·cases eg
theorem PE.or{t1 t2:TE}(h1:PE X e t1)(h2:PE X e t2):PE X e fun σ H Q=>t1 σ H Q∨t2 σ H Q:=fun zv s σ H Q I h=>h.elim (h1 zv s σ H Q I) (h2 zv s σ H Q I)
def akc(d:D)(ds:List D):Option D:=match d with
 | .lst _=>aue d ds
 | .tup _=>aud d ds
 | _=>none
def ao9(i:Nat)(ms:M (List D)):M D:=(dw i).bind fun d0=>ms.bind fun ds=>(dw i).bind fun d=>(lift (match d0,d with
 | .lst _,.lst _=>some ()
 | .tup _,.tup _=>some ()
 | _,_=>none)).bind fun _=>lift (akc d ds)
theorem akd{i:Nat}{ms:M (List D)}{apos cpos:Pos}(hu:X.A.units+64 < cLine)(ho:PE X a (tVar i))(ha:ED K X (e::es) ms)
  (hbase:attributeBase a "count" X.env (eval a X.env)=eval a X.env:=by rfl)
  (hfew:((jB cpos (aX (e::es) X.env)).all (fun x => !x.1)&&(backToKw cpos (keywordEach [] X.env)).all (fun x=>x.1.isSome)
   && decide ((e::es).length+([]:List qO).length+(if ([]:List qO).isEmpty then 0 else 1) < 30))=true:=by rfl)
  (hline:(apos.endLine==cpos.line)=true:=by rfl) (hs:aX (e::es) X.env=(false,eval e X.env)::aX es X.env:=by rfl) (hplain:(jB cpos (aX es X.env)).any (·.1)=false:=by rfl) :
  EV K X (.Call (.Attribute a "count" apos) (e::es) [] cpos) (ao9 i ms):=EV.mk fun hk=>PE.imp (PE.or (awo oO uG PySem.F.type_list_count (awz hu hk) ho (ha hk) hbase hfew hline hs hplain) (awo PySem.F.plainAttrs_tuple uB PySem.F.type_tuple_count (atf hu hk) ho (ha hk) hbase hfew hline hs hplain)) fun σ H Q hq0=>by
 obtain⟨tg,F,ρ,d,ρ',G,em,q⟩:=hq0;obtain⟨d0,ρ0,e0,em1⟩:=bw em;obtain⟨ds,ρ1,e1,em3⟩:=bw em1;obtain⟨d1,ρ2,e2,em4⟩:=bw em3;obtain⟨u0,ρ9,e9,em5⟩:=bw em4;obtain⟨e3,rfl⟩:=ik em5;obtain⟨g9,rfl⟩:=ik e9;obtain⟨rfl,v,hv,bv⟩:=sy G e0;cases d0 with
 | lst l =>
  cases d1 with
  | lst l1 =>
   obtain⟨b,xs,rfl,hb,_⟩:=bv.lst G.sub;refine .inl ⟨_,hv,.inl ⟨rfl,xs,SqL.of hb⟩,tg,F,_,ds,ρ1,G,e1,fun vs H1 F1 G1 x1 r1 =>?_⟩
   obtain⟨rfl,v',hv',b'⟩:=sy G1 e2;rw[hv] at hv';cases hv';exact⟨F1,.lst l1,ds,d,G1.sub,b',r1,e3,fun w iw=>q w H1 F1 G1 x1 iw⟩
  | _=>cases g9
 | tup l =>
  cases d1 with
  | tup l1 =>
   obtain⟨b,xs,rfl,hb,_⟩:=bv.tup;refine .inr ⟨_,hv,.inr (.inl ⟨rfl,.inr ⟨xs,G.sub _ _ hb⟩⟩),tg,F,_,ds,ρ1,G,e1,fun vs H1 F1 G1 x1 r1 =>?_⟩
   obtain⟨rfl,v',hv',b'⟩:=sy G1 e2;rw[hv] at hv';cases hv';exact⟨F1,.tup l1,ds,d,G1.sub,b',r1,e3,fun w iw=>q w H1 F1 G1 x1 iw⟩
  | _=>cases g9
 | _=>cases d1 <;> cases g9
def auc(d:D)(ds:List D):Option D:=match d,ds with
 | .lst l,[x]=>if okD 30 x&&l.all (okD 30) then (l.findIdx? fun y=>eqD y x).map fun i=>.int i else none
 | _,_=>none
theorem apx{zv:List (aZ×Obj)}{σ:L2.St}{F H:Hp}{s:aJ}(I:Inv X zv σ H s)(g:Same F H){a:D}{n:Nat}{ds:List D}{vs:List V}{us:List aG}(il:IsL X.K F ds vs)(k:ds.all (okD n)=true)(rv:Vals vs us)(i:Nat)(hi:i < us.length)(hd:i < ds.length) :
  aan s.heap (toPy a) us[i]=eqD ds[i] a:=by
 obtain⟨v,hv,iv⟩:=il.get (i:=i) (aF hd);obtain⟨u,hu,ru⟩:=rv.get hv;rw[aF hi] at hu;cases hu;have ko:okD n ds[i]=true:=fQ.mp k _ (cZ hd);obtain⟨as,ra⟩:=aac I g iv ko ru;rw[agj ra (aca _ _ ko).1];rfl
theorem ao5(hu:X.A.units+64 < cLine):X.K=K->MtR X "list.index" (rmOf K auc):=fun hk=>by
 subst hk;intro zv s σ H x vs v us Q I rx rv ⟨F,d,ds,r,g,bd,il,eg,q⟩
 match d,ds,eg with
 | .lst l,[y],eg =>
  have eg:(if okD 30 y&&l.all (okD 30) then (l.findIdx? fun z=>eqD z y).map (fun i=>D.int i) else none)=some r:=eg
  split at eg
  ·rename_i ho;rw[bH] at ho;cases ei:l.findIdx? (fun z=>eqD z y) with
   | none=>rw[ei] at eg;cases eg
   | some j =>
    rw[ei] at eg;cases eg;obtain⟨hj,hhit,hno⟩:=lQ.mp ei;cases il with
    | cons hy t =>
     cases t;obtain⟨u,rfl,ru⟩:=rv.one;obtain⟨p,ws,rfl,ea,hl⟩:=bd.lst g;cases rx;obtain⟨its,rw',pl,hz⟩:=I.list (SqL.of ea);have l1:=hl.length;have l2:=rw'.length;rw[iV] at hz;obtain⟨as,ra⟩:=aac I g hy ho.1 ru;obtain⟨_,z⟩:=xj I g (a:=y) hl ho.2 rw';obtain⟨⟨cls,dd,data,sl⟩,h1,hc,n,hd⟩:=pl.isList;simp only at hc hd;subst hc hd;have hj':j < its.toArray.size:=by rw[aY];omega
     refine lD oN ⟨_,h1,rfl⟩ PySem.F.entry_list_index (PySem.F.args_list_index_2 _ _) (SeqAt.list_indexAt p its.toArray n dd sl u (aan s.heap (toPy y)) j hj' (by omega) ?_ fun m hm hlt =>?_) ⟨h1,fun w hw =>?_,?_⟩
     ·have:=apx I g (a:=y) hl ho.2 rw' j (by omega) hj
      simpa[this] using hhit
     ·rw[aY] at hm;have:=apx I g (a:=y) hl ho.2 rw' m hm (by omega)
      have hn:=hno m hlt
      simpa[this] using hn
     ·exact vm (A:=X.A) hu ra ho.1 z w (by simpa using hw)
     ·exact⟨.int j,H,I.tok _,⟨_,rfl⟩,q _ (.int _)⟩
  ·cases eg
section
variable(ρ:Ro)
@[simp] theorem a67(i:Nat)(g:D->List D->Option D)(ms:M (List D)):a02 i g ms ρ=((dw i).bind fun d0=>(lift (match d0 with
 | .lst _=>some ()
 | _=>none)).bind fun _=>ms.bind fun ds=>(dw i).bind fun d=>lift (g d ds)) ρ:=rfl
@[simp] theorem a2l(l:List D)(x:D):aue (.lst l) [x]=if okD 30 x&&l.all (okD 30) then some (.int (l.countP fun y=>eqD y x)) else none:=rfl
@[simp] theorem a2k(l:List D)(x:D):auc (.lst l) [x]=if okD 30 x&&l.all (okD 30) then (l.findIdx? fun y=>eqD y x).map (fun i=>D.int i) else none:=rfl
end
end
end Dn
namespace En
open PySem PySem.Builtin
def It1(k:Bool)(h:fH)(it l:aZ)(i:Nat):Prop:=cond k (h.IsTupleIter it l i) (h.IsListIter it l i)
def Sq1(k:Bool)(h:fH)(l:aZ)(xs:Array aG):Prop:=cond k (h.IsTuple l xs) (h.IsList l xs)
section
variable{prog:cF}{w:dR}{A:cQ}{E:aG->aJ->Prop}{s:aJ}
theorem a0r{it t:aZ}{i:Nat}{xs:Array aG}{x:aG}{Q:aG->aJ->Prop}(h1:s.heap.IsTupleIter it t i)(h2:s.heap.IsTuple t xs)(hx:xs[i]? = some x)
  (q:∀h',h'.IsTupleIter it t (i+1)->fJ it s.heap h'->Q x { s with heap:=h' }):bK (bR prog w) A (SmallTypes.nextOf (.ref it)) Q E s:=by
 obtain⟨o1,e1,c1,d1⟩:=id h1;obtain⟨o2,e2,_,k2,d2⟩:=h2;have nn:¬((dJ t==cT)=true):=dG;unfold SmallTypes.nextOf;refine aA (eE (name:=jO "__next__") h1.typeIs kE (eY kE h1.typeIs tD ?_ (sG _)));refine aA (m:=field (.ref it) 0) (dZ e1 d1 (x:=.ref t) rfl ?_);show bK _ _ (if (dJ t==cT)=true then _ else (field (.ref it) 1 >>= _)) _ _ s;rw[if_neg nn]
 refine aA (m:=field (.ref it) 1) (dZ e1 d1 (x:=.int i 0) rfl ?_);refine aA (m:=seqItems? (.ref t)) (iU e2 d2 ?_);simp only[cD,hx];refine aA (fL e1 d1 (by simp) (aH ⟨x,rfl,aH (q _ ?_ (dI ..))⟩))
 refine⟨_,cC _ e1 (eV (bO d1 _)),(jV ..).trans c1,?_⟩;rw[bO d1];simp[jZ]
theorem a1t{it t:aZ}{i:Nat}{xs:Array aG}{Q:aG->aJ->Prop}(hh:A.handled=none)(h1:s.heap.IsTupleIter it t i)(h2:s.heap.IsTuple t xs)(hx:xs[i]? = none)
  (q:∀h' e,vY it s.heap h'->(∃o,h'.get? e=some o/\o.cls=.type "StopIteration")->E (.ref e) { s with heap:=h' }):bK (bR prog w) A (SmallTypes.nextOf (.ref it)) Q E s:=by
 obtain⟨o1,e1,c1,d1⟩:=id h1;obtain⟨o2,e2,_,k2,d2⟩:=h2;have nn:¬((dJ t==cT)=true):=dG;unfold SmallTypes.nextOf;refine aA (eE (name:=jO "__next__") h1.typeIs kE (eY kE h1.typeIs tD ?_ (sG _)));refine aA (m:=field (.ref it) 0) (dZ e1 d1 (x:=.ref t) rfl ?_);show bK _ _ (if (dJ t==cT)=true then _ else (field (.ref it) 1 >>= _)) _ _ s;rw[if_neg nn]
 refine aA (m:=field (.ref it) 1) (dZ e1 d1 (x:=.int i 0) rfl ?_);refine aA (m:=seqItems? (.ref t)) (iU e2 d2 ?_);simp only[cD,hx];refine aA (lB (aA (fL e1 d1 (by simp) ?_)))
 refine aA (m:=newExc (.type "StopIteration") []) ?_;simp only[newExc,newTuple];refine aA (bZ ?_ (by size_fits))
 refine aA (m:=firstArgMember _ _) (wpAny_of_eq (a:=cT) (by first | rfl | (simp only[firstArgMember];rfl)) (bZ ?_ (by size_fits)))
 simp only[raiseNew];refine aA (wpAny_handled ?_);first | rw[show A.in1.handled=none from hh] | rw[hh]
 refine aA (aH (wpAny_throw (q _ _ ?_ ⟨_,aO _ rfl,rfl⟩)));exact((dI ..).extBut.push _).push _
theorem src(hh:A.handled=none)(k:Bool)(it l:aZ)(ne:l≠it)(xs:Array aG):Draws prog w A it [it,l] xs.size (fun i v=>xs[i]? = some v) (fun i h=>It1 k h it l i/\Sq1 k h l xs):=by
 cases k with
 | false=>exact Draws.list hh it l ne xs
 | true=>exact{
   live:=fun _ _ z=>let ⟨o,e,_⟩:=z.1;⟨o,e⟩
   frame:=fun _ _ _ z kk=>⟨(let ⟨o,e,r⟩:=z.1;⟨o,kk it (by simp) o e,r⟩),(let ⟨o,e,r⟩:=z.2;⟨o,kk l (by simp) o e,r⟩)⟩
   item:=fun i s Q E hi z q=>a0r z.1 z.2 (x:=xs[i]) (by simp[hi]) fun h' z' sb=>q _ h' s.toks (by simp[hi]) ⟨z',Heap.IsTuple.extBut z.2 sb.extBut ne⟩ sb
   done:=fun s Q E z q=>a1t hh z.1 z.2 (by simp) q }
theorem It1.at{k:Bool}{h h':fH}{it l:aZ}{i:Nat}(x:It1 k h it l i)(e:∀o,h.get? it=some o->h'.get? it=some o):It1 k h' it l i:=by
 cases k <;> exact(let ⟨o,z,r⟩:=x;⟨o,e _ z,r⟩)
theorem It1.got{k:Bool}{h:fH}{it l:aZ}{i:Nat}(x:It1 k h it l i):∃o,h.get? it=some o/\∀v,o.data≠.cell v:=by
 cases k <;> exact(let ⟨o,z,_,r⟩:=x;⟨o,z,fun v e=>by rw[r] at e;cases e⟩)
theorem Sq1.at{k:Bool}{h h':fH}{l:aZ}{xs:Array aG}(x:Sq1 k h l xs)(e:∀o,h.get? l=some o->h'.get? l=some o):Sq1 k h' l xs:=by
 cases k <;> exact(let ⟨o,z,r⟩:=x;⟨o,e _ z,r⟩)
theorem Sq1.got{k:Bool}{h:fH}{l:aZ}{xs:Array aG}(x:Sq1 k h l xs):∃o,h.get? l=some o:=by
 cases k <;> exact(let ⟨o,z,_⟩:=x;⟨o,z⟩)
theorem aw9{k:Bool}{l:aZ}{xs:Array aG}{Q:aG->aJ->Prop}(h:Sq1 k s.heap l xs)
  (q:Q (.ref s.heap.objs.size) { s with heap:=s.heap.push { cls:=.type (cond k "tuple_iterator" "list_iterator"),data:=.fields #[.ref l,.int 0 0] } }):bK (bR prog w) A (pyIter (.ref l)) Q E s:=by
 cases k with
 | false=>exact wpAny_pyIter_list h q
 | true=>exact wpAny_pyIter_tuple h q
theorem anz{k:Bool}{h:fH}{l a:aZ}(e:h.get? a=some { cls:=.type (cond k "tuple_iterator" "list_iterator"),data:=.fields #[.ref l,.int 0 0] }):It1 k h a l 0:=by
 cases k <;> exact⟨_,e,rfl,rfl⟩
end
set_option maxRecDepth 100000
abbrev eh1(k:Bool)(h:fH)(l:aZ):fH:=h.push { cls:=.type (cond k "tuple_iterator" "list_iterator"),data:=.fields #[.ref l,.int 0 0] }
abbrev eh2(k:Bool)(h:fH)(l:aZ):fH:=(eh1 k h l).push { cls:=.type "enumerate", data:=.fields #[.none,.bool false,.ref h.objs.size,jZ 0,.none,.none] }
theorem a01(k:Bool)(l:aZ)(o:Obj)(xs:Array aG) :
  Meets (kJ.«enumerate.__new__» ⟨[.type "enumerate", .ref l],[]⟩) (fun _ R s=>s.heap.get? l=some o/\Sq1 k s.heap l xs/\R (.ok (.ret (.ref (eh1 k s.heap l).objs.size))) { s with heap:=eh2 k s.heap l }) :=
 .of_wp fun prog w A R s h=>by
  obtain⟨hp,g,d,tk,os⟩:=s;obtain⟨ho,r1,h⟩:=h;have sb:=sub_enumerate;have r1:Sq1 k (vQ ⟨hp,g,d,tk,os⟩) l xs:=r1;wp_walk using oJ ho;refine wpAny_stack_any fun st=>aH ?_
  split
  ·rename_i c _ _ _ _ _;cases(c==jR "enumerate") <;> (wp_walk using oJ ho,aw9 r1;exact⟨_,rfl,h⟩)
  ·wp_walk using oJ ho,aw9 r1;exact⟨_,rfl,h⟩
theorem avl{prog:cF}{w:dR}{A:cQ}{E:aG->aJ->Prop}{s:aJ}{k:Bool}{l:aZ}{xs:Array aG}{Q:aG->aJ->Prop}(s1:Sq1 k s.heap l xs)
  (q:∀h',IsEnum h' (s.heap.objs.size+1) s.heap.objs.size 0 .none->It1 k h' s.heap.objs.size l 0->h'.objs.size=s.heap.objs.size+2->(∀b o,s.heap.get? b=some o->h'.get? b=some o)->Q (.ref (s.heap.objs.size+1)) { s with heap:=h' }) :
  bK (bR prog w) A (call (.type "enumerate") [.ref l]) Q E s:=by
 obtain⟨o,ho⟩:=s1.got;refine callType_new F.called_enumerate (by decide) (F.typeCall_enumerate_1 _) (F.newCall_enumerate_1 _) (fun obj=>F.args_object_init_2 obj _) F.entry_enumerate_new (a01 k l o xs) ⟨ho,s1,?_⟩
 have z1:(eh1 k s.heap l).objs.size=s.heap.objs.size+1:=cH ..
 have g2:(eh2 k s.heap l).get? (eh1 k s.heap l).objs.size=some _:=aO _ rfl;have g1:(eh2 k s.heap l).get? s.heap.objs.size=some _:=aD _ (aO _ rfl);rw[z1] at g2;show _/\_;rw[z1];exact⟨⟨_,g2,rfl⟩,q _ g2 (anz g1) (by rw[cH,z1]) fun b o x=>aD _ (aD _ x)⟩
end En
namespace En
open PySem PySem.Builtin
set_option maxRecDepth 100000
theorem azl(v1 v2:aG):checkTypeCall "zip" ⟨[v1,v2],[]⟩=pure ():=by kernel_rfl
theorem a0x(v1 v2:aG):checkBuiltinCall "zip.__new__" ⟨[.type "zip", v1,v2],[]⟩=pure ():=by kernel_rfl
theorem a2h(o v1 v2:aG):argsOk "object.__init__" ⟨[o,v1,v2],[]⟩:=by
 unfold argsOk;rw[signature?_of (id := "object.__init__") (n:=['_','_','t','i','n','i','_','_']) (o:=['t','c','e','j','b','o']) (by kernel_rfl) F.owner_object];kernel_rfl
abbrev Row2(h:fH)(T:aZ)(v1 v2:aG):Prop:=h.get? T=some { cls:=.type "tuple", data:=.seq #[v1,v2] }
structure Apart2 (z TI TO i1 i2 l1 l2:aZ):Prop where
 nTIz:TI≠z
 nTOz:TO≠z
 nTOTI:TO≠TI
 ni1z:i1≠z
 ni1TI:i1≠TI
 ni1TO:i1≠TO
 ni2z:i2≠z
 ni2TI:i2≠TI
 ni2TO:i2≠TO
 ni2i1:i2≠i1
 nl1z:l1≠z
 nl1TO:l1≠TO
 nl1i1:l1≠i1
 nl1i2:l1≠i2
 nl2z:l2≠z
 nl2TO:l2≠TO
 nl2i1:l2≠i1
 nl2i2:l2≠i2
section
variable{prog:cF}{w:dR}{A:cQ}{E:aG->aJ->Prop}{s:aJ}
theorem a3k{T:aZ}{v1 v2 x:aG}{Q:Unit->aJ->Prop}(h:Row2 s.heap T v1 v2)(q:∀h',Row2 h' T x v2->fJ T s.heap h'->Q () { s with heap:=h' }):bK (bR prog w) A (updateSeq T (·.setIfInBounds 0 x)) Q E s:=by
 refine wpAny_updateSeq h rfl (q _ (show Heap.get? _ T=_ from ?_) (dI ..))
 rw[cC _ h rfl];simp[jU]
theorem a3j{T:aZ}{v1 v2 x:aG}{Q:Unit->aJ->Prop}(h:Row2 s.heap T v1 v2)(q:∀h',Row2 h' T v1 x->fJ T s.heap h'->Q () { s with heap:=h' }):bK (bR prog w) A (updateSeq T (·.setIfInBounds 1 x)) Q E s:=by
 refine wpAny_updateSeq h rfl (q _ (show Heap.get? _ T=_ from ?_) (dI ..))
 rw[cC _ h rfl];simp[jU]
theorem arf{z TI TO i1 i2 l1 l2:aZ}{k1 k2:Bool}{i:Nat}{x1 x2:Array aG}{v1 v2:aG}{Q:aG->aJ->Prop}(hh:A.handled=none)(D:Apart2 z TI TO i1 i2 l1 l2)
  (hz:sY s.heap z TI TO .none) (hI:Row2 s.heap TI (.ref i1) (.ref i2)) (hO:Row2 s.heap TO v1 v2) (h1:It1 k1 s.heap i1 l1 i) (s1:Sq1 k1 s.heap l1 x1) (h2:It1 k2 s.heap i2 l2 i) (s2:Sq1 k2 s.heap l2 x2) (b1:i < x1.size) (b2:i < x2.size)
  (q:∀h' tk y1 y2,x1[i]? = some y1->x2[i]? = some y2->sY h' z TI TO (jZ s.heap.objs.size)->Row2 h' TO y1 y2->It1 k1 h' i1 l1 (i+1)->It1 k2 h' i2 l2 (i+1)->Row2 h' s.heap.objs.size y1 y2->h'.objs.size=s.heap.objs.size+1 ->
   (∀c o,c≠z->c≠TO->c≠i1->c≠i2->s.heap.get? c=some o->h'.get? c=some o)->Q (.ref s.heap.objs.size) { s with heap:=h',toks:=tk }) :
  bK (bR prog w) A (kJ.«zip.__next__» ⟨[.ref z],[]⟩) (fun fin s'=>∃v,fin=.done (.ret v)/\Q v s') E s:=by
 refine aA (m:=field (.ref z) 2) (dZ hz rfl (x:=.bool false) rfl ?_);refine aA (m:=field (.ref z) 3) (dZ hz rfl (x:=.ref TI) rfl ?_);refine aA (iU hI rfl ?_);refine aA (m:=SmallTypes.ownedTupleIsFree (.ref z)) ?_;unfold SmallTypes.ownedTupleIsFree;refine aA (dZ hz rfl (x:=.none) rfl (aH ?_));simp only[if_true];refine aA (lB (aA (dZ hz rfl (x:=.ref TO) rfl ?_)));refine aA (wpAny_setField_rec hz (by simp) fun g0 z0 a0 =>?_)
 have z0:sY g0 z TI TO .ellipsis:=z0;refine aA ?_;simp only[yF,yL,pR,qK];refine aA (aA (wpAny_onRaise ?_));refine aA (m:=SmallTypes.nextOf (.ref i1)) ((src hh k1 i1 l1 D.nl1i1 x1).item i _ _ _ b1 ⟨(h1.at fun _ e=>(a0.extBut _ _ D.ni1z e)),(s1.at fun _ e=>(a0.extBut _ _ D.nl1z e))⟩ fun y1 f1 t1 p1 q1 c1=>aH ?_)
 have c1:fJ i1 g0 f1:=c1;have P1:Row2 f1 TO v1 v2:=(c1.extBut _ _ D.ni1TO.symm (a0.extBut _ _ D.nTOz hO));refine aA (iU P1 rfl ?_);refine aA (a3k P1 fun g1 O1 a1 =>?_)
 have a1:fJ TO f1 g1:=a1;refine aA (wpAny_letGo (aH ?_));refine aA (aA (wpAny_onRaise ?_));refine aA (m:=SmallTypes.nextOf (.ref i2)) ((src hh k2 i2 l2 D.nl2i2 x2).item i _ _ _ b2 ⟨(h2.at fun _ e=>(a1.extBut _ _ D.ni2TO (c1.extBut _ _ D.ni2i1 (a0.extBut _ _ D.ni2z e)))),(s2.at fun _ e=>(a1.extBut _ _ D.nl2TO (c1.extBut _ _ D.nl2i1 (a0.extBut _ _ D.nl2z e))))⟩ fun y2 f2 t2 p2 q2 c2=>aH ?_)
 have c2:fJ i2 g1 f2:=c2;have P2:Row2 f2 TO y1 v2:=(c2.extBut _ _ D.ni2TO.symm O1);refine aA (iU P2 rfl ?_);refine aA (a3j P2 fun g2 O2 a2 =>?_)
 have a2:fJ TO f2 g2:=a2;refine aA (wpAny_letGo (aH (aH ?_)));refine aA (iU O2 rfl (aA (wpAny_newTuple ?_)));have sz:g2.objs.size=s.heap.objs.size:=by rw[a2.1,c2.1,a1.1,c1.1,a0.1]
 have zn:sY g2 z TI TO .ellipsis:=(a2.extBut _ _ D.nTOz.symm (c2.extBut _ _ D.ni2z.symm (a1.extBut _ _ D.nTOz.symm (c1.extBut _ _ D.ni1z.symm z0))));have kn:∀c o,c≠z->c≠TO->c≠i1->c≠i2->s.heap.get? c=some o->g2.get? c=some o:=fun c o n0 n1 n2 n3 e=>(a2.extBut _ _ n1 (c2.extBut _ _ n3 (a1.extBut _ _ n1 (c1.extBut _ _ n2 (a0.extBut _ _ n0 e)))))
 have j1:It1 k1 g2 i1 l1 (i+1):=q1.1.at fun _ e=>(a2.extBut _ _ D.ni1TO (c2.extBut _ _ D.ni2i1.symm (a1.extBut _ _ D.ni1TO e)))
 have j2:It1 k2 g2 i2 l2 (i+1):=q2.1.at fun _ e=>(a2.extBut _ _ D.ni2TO e)
 have lz:z < g2.objs.size:=aP zn;refine aA (m:=SmallTypes.ownedTupleHandOut (.ref z) (.ref g2.objs.size)) ?_;unfold SmallTypes.ownedTupleHandOut;have zp:sY (g2.push { cls:=.type "tuple", data:=.seq #[y1,y2] }) z TI TO .ellipsis:=aD _ zn;refine aA (wpAny_setField_rec zp (by simp) fun e1 z1 b1' =>?_)
 have z1:sY e1 z TI TO (jZ g2.objs.size):=z1;refine wpAny_setField_rec z1 (by simp) fun e2 z2 b2' =>?_
 have z2:sY e2 z TI TO (jZ g2.objs.size):=z2;have up:∀c o,c≠z->g2.get? c=some o->e2.get? c=some o:=fun c o n1 e=>b2'.extBut _ _ n1 (b1'.extBut _ _ n1 (aD _ e))
 have t2:Row2 e2 g2.objs.size y1 y2:=b2'.extBut _ _ (gY lz) (b1'.extBut _ _ (gY lz) (aO _ rfl));have s2':e2.objs.size=g2.objs.size+1:=by rw[b2'.1,b1'.1,cH]
 rw[sz] at z2 t2 s2';refine aH ⟨_,rfl,?_⟩;show Q (.ref g2.objs.size) _;rw[sz];exact q e2 _ y1 y2 p1 p2 z2 (up _ _ D.nTOz O2) (j1.at fun _ e=>up _ _ D.ni1z e) (j2.at fun _ e=>up _ _ D.ni2z e) t2 s2' fun c o n0 n1 n2 n3 e=>up c o n0 (kn c o n0 n1 n2 n3 e)
theorem av1{z TI TO i1 i2 l1 l2:aZ}{k1:Bool}{x1:Array aG}{v1 v2:aG}{Q:Fin->aJ->Prop}(hh:A.handled=none)(D:Apart2 z TI TO i1 i2 l1 l2)
  (hz:sY s.heap z TI TO .none) (hI:Row2 s.heap TI (.ref i1) (.ref i2)) (hO:Row2 s.heap TO v1 v2) (h1:It1 k1 s.heap i1 l1 x1.size) (s1:Sq1 k1 s.heap l1 x1)
  (q:∀h' e,(∀c o,c≠z->c≠i1->s.heap.get? c=some o->h'.get? c=some o)->(∃o,h'.get? e=some o/\o.cls=.type "StopIteration")->E (.ref e) { s with heap:=h' }) :
  bK (bR prog w) A (kJ.«zip.__next__» ⟨[.ref z],[]⟩) Q E s:=by
 refine aA (m:=field (.ref z) 2) (dZ hz rfl (x:=.bool false) rfl ?_);refine aA (m:=field (.ref z) 3) (dZ hz rfl (x:=.ref TI) rfl ?_);refine aA (iU hI rfl ?_);refine aA (m:=SmallTypes.ownedTupleIsFree (.ref z)) ?_;unfold SmallTypes.ownedTupleIsFree;refine aA (dZ hz rfl (x:=.none) rfl (aH ?_));simp only[if_true];refine aA (lB (aA (dZ hz rfl (x:=.ref TO) rfl ?_)));refine aA (wpAny_setField_rec hz (by simp) fun g0 z0 a0 =>?_)
 have z0:sY g0 z TI TO .ellipsis:=z0;refine aA ?_;simp only[yF,yL,pR,qK];refine aA (aA (wpAny_onRaise ?_));refine aA (m:=SmallTypes.nextOf (.ref i1)) ((src hh k1 i1 l1 D.nl1i1 x1).done _ _ _ ⟨(h1.at fun _ e=>a0.extBut _ _ D.ni1z e),(s1.at fun _ e=>a0.extBut _ _ D.nl1z e)⟩ fun f1 e c1 ⟨oe,he,ce⟩ =>?_)
 have zf:sY f1 z TI TO .ellipsis:=c1 _ _ D.ni1z.symm z0;have ez:e≠z:=fun x=>by subst x;rw[zf] at he;cases he;simp at ce
 refine wpAny_setField_rec zf (by simp) fun f2 _ a1=>q f2 e (fun c o n1 n2 y=>a1.extBut _ _ n1 (c1 _ _ n2 (a0.extBut _ _ n1 y))) ⟨oe,a1.extBut _ _ ez he,ce⟩
abbrev arh(h:fH)(k1 k2:Bool)(l1 l2:aZ):fH:=h.push { cls:=.type (cond k1 "tuple_iterator" "list_iterator"),data:=.fields #[.ref l1,.int 0 0] }
abbrev av4(h:fH)(k1 k2:Bool)(l1 l2:aZ):fH:=(arh h k1 k2 l1 l2).push { cls:=.type (cond k2 "tuple_iterator" "list_iterator"),data:=.fields #[.ref l2,.int 0 0] }
abbrev av3(h:fH)(k1 k2:Bool)(l1 l2:aZ):fH:=(av4 h k1 k2 l1 l2).push { cls:=.type "tuple", data:=.seq #[.ref h.objs.size,.ref (arh h k1 k2 l1 l2).objs.size] }
abbrev av2(h:fH)(k1 k2:Bool)(l1 l2:aZ):fH:=(av3 h k1 k2 l1 l2).push { cls:=.type "tuple", data:=.seq #[.none,.none] }
abbrev amt(h:fH)(k1 k2:Bool)(l1 l2:aZ):fH:=(av2 h k1 k2 l1 l2).push { cls:=.type "zip", data:=.fields #[.none,.bool false,.bool false,.ref (av4 h k1 k2 l1 l2).objs.size,.ref (av3 h k1 k2 l1 l2).objs.size] }
theorem a00(k1 k2:Bool)(l1 l2:aZ)(x1 x2:Array aG) :
  Meets (kJ.«zip.__new__» ⟨[.type "zip", .ref l1,.ref l2],[]⟩) (fun _ R s=>Sq1 k1 s.heap l1 x1/\Sq1 k2 s.heap l2 x2/\R (.ok (.ret (.ref (av2 s.heap k1 k2 l1 l2).objs.size))) { s with heap:=amt s.heap k1 k2 l1 l2 }) :=
 .of_wp fun prog w A R s h=>by
  obtain⟨hp,g,d,tk,os⟩:=s;obtain⟨s1,s2,h⟩:=h;have sb:=sub_zip;have r1:Sq1 k1 (vQ ⟨hp,g,d,tk,os⟩) l1 x1:=s1.at fun _ e=>e
  have r2:Sq1 k2 (vQ ⟨arh hp k1 k2 l1 l2,g,d,tk,os⟩) l2 x2:=s2.at fun _ e=>aD _ (e)
  wp_walk using aw9 r1,aw9 r2;exact⟨_,rfl,h⟩
theorem avh{k1 k2:Bool}{l1 l2:aZ}{x1 x2:Array aG}{Q:aG->aJ->Prop}(s1:Sq1 k1 s.heap l1 x1)(s2:Sq1 k2 s.heap l2 x2)
  (q:∀h',sY h' (s.heap.objs.size+4) (s.heap.objs.size+2) (s.heap.objs.size+3) .none->Row2 h' (s.heap.objs.size+2) (.ref s.heap.objs.size) (.ref (s.heap.objs.size+1))->Row2 h' (s.heap.objs.size+3) .none .none->It1 k1 h' s.heap.objs.size l1 0->It1 k2 h' (s.heap.objs.size+1) l2 0->h'.objs.size=s.heap.objs.size+5->(∀c o,s.heap.get? c=some o->h'.get? c=some o)->Q (.ref (s.heap.objs.size+4)) { s with heap:=h' }) :
  bK (bR prog w) A (call (.type "zip") [.ref l1,.ref l2]) Q E s:=by
 refine callType_new F.called_zip (by decide) (azl _ _) (a0x _ _) (fun obj=>a2h obj _ _) F.entry_zip_new (a00 k1 k2 l1 l2 x1 x2) ⟨s1,s2,?_⟩
 have e1:(arh s.heap k1 k2 l1 l2).objs.size=s.heap.objs.size+1:=by rw[cH]
 have e2:(av4 s.heap k1 k2 l1 l2).objs.size=s.heap.objs.size+2:=by rw[cH,e1]
 have eI:(av3 s.heap k1 k2 l1 l2).objs.size=s.heap.objs.size+3:=by rw[cH,e2]
 have eO:(av2 s.heap k1 k2 l1 l2).objs.size=s.heap.objs.size+4:=by rw[cH,eI]
 have eZ:(amt s.heap k1 k2 l1 l2).objs.size=s.heap.objs.size+5:=by rw[cH,eO]
 have gZ:(amt s.heap k1 k2 l1 l2).get? (av2 s.heap k1 k2 l1 l2).objs.size=some _:=aO _ rfl;have gO:(amt s.heap k1 k2 l1 l2).get? (av3 s.heap k1 k2 l1 l2).objs.size=some _:=aD _ (aO _ rfl);have gI:(amt s.heap k1 k2 l1 l2).get? (av4 s.heap k1 k2 l1 l2).objs.size=some _:=aD _ (aD _ (aO _ rfl));have j1:(amt s.heap k1 k2 l1 l2).get? s.heap.objs.size=some _:=aD _ (aD _ (aD _ (aD _ (aO _ rfl))));have j2:(amt s.heap k1 k2 l1 l2).get? (arh s.heap k1 k2 l1 l2).objs.size=some _:=aD _ (aD _ (aD _ (aO _ rfl)));show _/\_;rw[e2,eI,eO] at gZ;rw[e1,e2] at gI;rw[eI] at gO;rw[e1] at j2;rw[eO];exact⟨⟨_,gZ,rfl⟩,q _ gZ gI gO (anz j1) (anz j2) eZ fun c o x=>aD _ (aD _ (aD _ (aD _ (aD _ (x)))))⟩
end
structure Apart3 (z TI TO i1 i2 i3 l1 l2 l3:aZ):Prop where
 nTIz:TI≠z
 nTOz:TO≠z
 nTOTI:TO≠TI
 ni1z:i1≠z
 ni1TI:i1≠TI
 ni1TO:i1≠TO
 ni2z:i2≠z
 ni2TI:i2≠TI
 ni2TO:i2≠TO
 ni2i1:i2≠i1
 ni3z:i3≠z
 ni3TI:i3≠TI
 ni3TO:i3≠TO
 ni3i1:i3≠i1
 ni3i2:i3≠i2
 nl1z:l1≠z
 nl1TO:l1≠TO
 nl1i1:l1≠i1
 nl1i2:l1≠i2
 nl1i3:l1≠i3
 nl2z:l2≠z
 nl2TO:l2≠TO
 nl2i1:l2≠i1
 nl2i2:l2≠i2
 nl2i3:l2≠i3
 nl3z:l3≠z
 nl3TO:l3≠TO
 nl3i1:l3≠i1
 nl3i2:l3≠i2
 nl3i3:l3≠i3
section
variable{prog:cF}{w:dR}{A:cQ}{E:aG->aJ->Prop}{s:aJ}
end
end En
namespace Mn
open L2 En
def SqK(k:Bool)(K:Fg9)(H:Hp)(a:aZ)(xs:List V):Prop:=cond k (SqT K H a xs) (SqL K H a xs)
theorem agr{xs:List V}{us:List aG}(r:Vals xs us){i:Nat}{x:V}{u:aG}(h:xs[i]? = some x)(h':us.toArray[i]? = some u):RelV x u:=by
 obtain⟨u',e,z⟩:=r.get h;have:us[i]? = some u:=by simpa using h'
 rw[this] at e;cases e;exact z
section
variable{X:Cx}{zv:List (aZ×Obj)}{σ:L2.St}{H:Hp}{s:aJ}{h':fH}{a:aZ}{xs ys:List V}{k:Bool}
theorem af2(I:Inv X zv σ H s)(h:SqK k X.K H a xs):∃its:List aG,Vals xs its/\Sq1 k s.heap a its.toArray:=by
 cases k with
 | false =>
  obtain⟨its,r,p,_⟩:=I.list h;exact⟨its,r,p.isList⟩
 | true =>
  obtain⟨its,r,p,_⟩:=I.tuple h;exact⟨its,r,p⟩
theorem an0(I:Inv X zv σ H s)(h:SqK k X.K H a xs)(h2:SqK k X.K H a ys):xs=ys:=by
 cases k with
 | false=>exact I.list_inj h h2
 | true=>exact I.tuple_inj h h2
theorem afo{t':Nat}{fp:List aZ}(I:Inv X zv σ H s)(kk:∀b o,b∉fp->s.heap.get? b=some o->h'.get? b=some o)(hf:∀b∈fp,FpOk X zv H b):Inv X zv σ H { s with heap:=h',toks:=t' }:=by
 have nit:∀b u,H b=some u->b∉fp:=fun b u e z=>by rw[(hf b z).1] at e;cases e
 have nL:X.env.locals∉fp:=fun z=>(hf _ z).2.1 rfl
 refine I.step (g':=s.gens) (d':=s.drawn) (ch:=fp) (fun b hb=>⟨(hf b hb).2.2.2.1,(hf b hb).2.1,(hf b hb).2.2.2.2.1,(hf b hb).2.2.2.2.2⟩) (fun b o _ _ hc e _=>kk b o hc e) (fun b o _ _ hc e _=>⟨o.slots,kk b o hc e⟩) (fun _ _ _ _ n=>n)
  (fun b o hc e=>⟨o,kk b o hc e⟩) (fun _ _ e=>e) (fun _ _ _ e=>e) (fun b ps e=>⟨#[],by rw[e];simp⟩) (fun m hm =>?_) (fun b u e =>?_) I.bare
 ·obtain⟨o,es,ep,ho,r⟩:=hm;exact⟨o,es,ep,kk _ o nL ho,r⟩
 ·refine(I.hok b u e).stay (fun c v hc q=>kk c v ?_ q) (fun _ q=>q) fun _ _ q=>q
  rcases hc with z | z
  ·rw[z];exact nit b u e
  ·exact nit c _ z
theorem at5{t':Nat}{fp:List aZ}{vs:List V}{us:List aG}(I:Inv X zv σ H s)(kk:∀b o,b∉fp->s.heap.get? b=some o->h'.get? b=some o)(hf:∀b∈fp,FpOk X zv H b)(hb:∀b∈fp,b < s.heap.objs.size)
  (r:Vals vs us) (hz:vs.length<=cJ) (ht:h'.get? s.heap.objs.size=some { cls:=.type "tuple", data:=.seq us.toArray }):Inv X zv σ (upd H s.heap.objs.size (.tup vs)) { s with heap:=h',toks:=t' }:=by
 have I1:=I.laid (h':=s.heap.push { cls:=.type "tuple", data:=.seq us.toArray }) (t':=s.toks) (a:=s.heap.objs.size) (o:=.tup vs) (fun b u e=>aD _ e) (aL _) ⟨hz,us,r,⟨_,aO _ rfl,rfl,rfl,_,rfl⟩⟩
 have k2:∀b o,b∉fp->(s.heap.push { cls:=.type "tuple", data:=.seq us.toArray }).get? b=some o->h'.get? b=some o:=fun b o hn e=>by
  rcases Heap.get?_push_cases e with⟨rfl,rfl⟩ | e
  ·exact ht
  ·exact kk b o hn e
 have f2:∀b∈fp,FpOk X zv (upd H s.heap.objs.size (.tup vs)) b:=fun b hb'=>by
  obtain⟨f0,f⟩:=hf b hb';exact⟨by rw[cu (bI (hb b hb'))];exact f0,f⟩
 have R:=afo (t':=t') (h':=h') (fp:=fp) I1 k2 f2;exact R
end
theorem ayr{k:Bool}{h:fH}{it a l:aZ}{i:Nat}{xs:Array aG}(x:It1 k h it l i){k':Bool}(y:Sq1 k' h a xs):a≠it:=fun e=>by
 subst e;cases k <;> cases k' <;> exact(by
  obtain⟨o,e1,c1,_⟩:=x;obtain⟨o',e2,c2,_⟩:=y;rw[e1] at e2;cases e2;rw[c1] at c2;simp at c2)
theorem a76{h:fH}{a b:aZ}{o:Obj}{n:String}{k:Bool}{xs:Array aG}(e:h.get? b=some o)(c:o.cls=.type n)(hn:n ≠ "list" /\ n ≠ "tuple")(y:Sq1 k h a xs):a≠b:=fun z=>by
 subst z;cases k <;> exact(by
  obtain⟨o',e2,c2,_⟩:=y;rw[e] at e2;cases e2;rw[c] at c2;simp at c2
  first | exact hn.1 c2 | exact hn.2 c2)
def Ite(K:Fg9)(k:Bool)(a:aZ):It :=
 ⟨fun i H=>∃xs x,SqK k K H a xs/\xs[i]? = some x,fun i H x H'=>∃q v,H q=none/\x=.ref q/\H'=upd H q (.tup [.int i,v])/\∀xs,SqK k K H a xs->xs[i]? = some v,fun i H=>∃xs,SqK k K H a xs/\xs.length=i⟩
theorem arw{P:cF}{w:dR}{K:Fg9}{elts:List dW}{n:Nat}{pos:Pos}(k:Bool)(a e it:aZ)(ne:e≠it) :
  Turn P w K (.Tuple elts n pos) (Ite K k a) [e,it] e (fun i h=>(∃old,IsEnum h e it i old)/\It1 k h it a i) where
 mem:=by simp
 obj:=fun i h st b hb=>by
  have hb:b=e∨b=it:=by simpa using hb
  rcases hb with rfl | rfl
  ·obtain⟨old,z⟩:=st.1;exact⟨_,z,fun v z=>by cases z⟩
  ·exact st.2.got
 keep:=fun i h h' st kk=>by
  obtain⟨⟨old,z⟩,y⟩:=st;exact⟨⟨old,kk e (by simp) _ z⟩,y.at fun o z=>kk it (by simp) o z⟩
 item:=by
  intro X hP hw hK hc i zv s σ H E I hf st hg;subst hP hw hK;obtain⟨⟨old,he⟩,hi⟩:=st;obtain⟨xs,x,hq,hx⟩:=hg;obtain⟨its,rv,sq⟩:=af2 I hq;obtain⟨u,hu,ru⟩:=rv.get hx;have hlt:i < its.toArray.size:=by simpa using (aQ.mp hu).1
  have nai:=ayr hi sq;have nae:a≠e:=a76 he rfl (by decide) sq
  have D:=En.src (prog:=X.prog) (w:=X.w) (A:=X.A.in1) (I.ok.hd hc) k it a nai its.toArray;refine wpAny_pyNext_enum_itemD D he ⟨hi,sq⟩ hlt ne (by simp[ne,nae.symm]) fun y g tk hy ho hs hT hz hk =>?_
  refine⟨_,rfl,wpAny_letOwnedTupleGo_enum ho fun g2 he2 sb =>?_⟩
  have ry:=agr rv hx hy;have lte:e < s.heap.objs.size:=aP he;have lti:it < s.heap.objs.size:=by obtain⟨o,z,_⟩:=hi.got;exact aP z
  have fr:H s.heap.objs.size=none:=I.hok.fresh (aL _);refine⟨.ref s.heap.objs.size,upd H s.heap.objs.size (.tup [.int i,x]),?_,rfl,⟨_,x,fr,rfl,rfl,fun ys hy=>by rw[an0 I hy hq];exact hx⟩,⟨⟨_,he2⟩,hs.1.at fun o z=>sb.extBut _ _ ne.symm z⟩,fun b hb =>?_⟩
  ·refine at5 (fp:=[e,it]) (us:=[.int i tk,y]) I (fun b o hn z =>?_) hf (fun b hb =>?_) (.cons ⟨tk,rfl⟩ (.cons ry .nil)) (by rw[iV];simp) (sb.extBut _ _ (gY lte) hT)
   ·have h1:b≠e:=fun z=>hn (by simp[z])
    have h2:b≠it:=fun z=>hn (by simp[z])
    exact sb.extBut _ _ h1 (hk b o h1 h2 z)
   ·have hb:b=e∨b=it:=by simpa using hb
    rcases hb with rfl | rfl
    ·exact lte
    ·exact lti
  ·have hb':b=e∨b=it:=by simpa using hb
   rw[cu (by rcases hb' with rfl | rfl;exact bI lte;exact bI lti)]
   exact(hf b hb).1
 done:=by
  intro X hP hw hK hc i zv s σ H E I hf st hg;subst hP hw hK;obtain⟨⟨old,he⟩,hi⟩:=st;obtain⟨xs,hq,hx⟩:=hg;obtain⟨its,rv,sq⟩:=af2 I hq;have hl:i=its.toArray.size:=by have:=rv.length;simp;omega
  subst hl;have D:=En.src (prog:=X.prog) (w:=X.w) (A:=X.A.in1) (I.ok.hd hc) k it a (ayr hi sq) its.toArray;refine wpAny_pyNext_enum_endD D he ⟨hi,sq⟩ fun g eb=>⟨rfl,afo (t':=s.toks) (fp:=[e,it]) I (fun b o hn z=>eb b o (fun z=>hn (by simp[z])) z) hf⟩
 self:=fun _ _ _ _ _ st h=>let ⟨_,z⟩:=st.1;wpAny_pyIter_enum z h
theorem a6j:bT "zip" = some (.type "zip"):=by decide +kernel
section
variable{X:Cx}
def a9e(K:Fg9)(ta:TA):TI:=fun σ H R=>ta σ H fun vs H1=>∃a k,vs=[.ref a]/\(∃xs,SqK k K H1 a xs)/\R (Ite K k a) H1
theorem a0b{a:dW}{ta:TA}{p pos:Pos}{elts:List dW}{n:Nat}{tp:Pos}(hg:Gl X "enumerate")(hm:X.mg "enumerate" = none)(ha:PA X [a] ta)(hs:aX [a] X.env=[(false,eval a X.env)]:=by rfl) :
  PI X (.Tuple elts n tp) (.Call (.Name "enumerate" p) [a] [] pos) (a9e X.K ta):=by
 intro zv s σ H R I h;refine Call_ (ag8 I hg hm ami (iD (thn (ha pos zv s σ H _ I h) fun us s1 ⟨vs,H1,I1,r1,q1⟩ =>?_) hs rfl))
 obtain⟨b,k,rfl,⟨xs,hq⟩,q⟩:=q1;obtain⟨u,rfl,ru⟩:=vals1 r1;cases ru;obtain⟨its,rv,sq⟩:=af2 I1 hq;refine avl sq fun g he hi hz kk=>wpAny_pyIter_enum he ?_
 have I2:Inv X zv σ H1 { s1 with heap:=g }:=I1.kept (t':=s1.toks) kk
 refine⟨_,[s1.heap.objs.size+1,s1.heap.objs.size],_,_,H1,rfl,I2,arw k b _ _ (Nat.succ_ne_self _),⟨⟨_,he⟩,hi⟩,fun c hc =>?_,q⟩
 have hc:c=s1.heap.objs.size+1∨c=s1.heap.objs.size:=by simpa using hc
 rcases hc with rfl | rfl
 ·exact I1.fpOk (iG _) (I1.hok.fresh (iG _))
 ·exact I1.fpOk (aL _) (I1.hok.fresh (aL _))
end
end Mn
namespace En
open PySem PySem.Builtin
theorem ayj{prog:cF}{w:dR}{A:cQ}{E:aG->aJ->Prop}{s:aJ}{z TI TO:aZ}{f0:aG}{Q:Option aG->aJ->Prop}(hz:sY s.heap z TI TO f0)
  (h:bK (bR prog w) A.in1 (kJ.«zip.__next__» ⟨[.ref z],[]⟩) (fun fin s'=>∃v,fin=.done (.ret v)/\Q (some v) s') (fun e s'=>∃a o,e=.ref a/\s'.heap.get? a=some o/\o.cls=.type "StopIteration" /\ Q none s') s) :
  bK (bR prog w) A (nW (.ref z)) Q E s:=by
 have tz:s.TypeIs (.ref z) "zip" := ⟨_,hz,rfl⟩;unfold nW;refine aA (wpAny_attempt (eE (name:=jO "__next__") tz yR (eY yR tz F.entry_zip_next (bC h (fun fin s' ⟨v,e,q⟩=>⟨v,e,aH q⟩) fun e s' ⟨a,o,e1,e2,e3,q⟩ =>?_) (F.args_zip_next_1 _))))
 subst e1;exact aA (wpAny_isInstance (T := "StopIteration") (b:=true) ⟨o,e2,e3⟩ isSubtype_stop (aH q))
end En
namespace Mn
open L2 En
def Itz2(K:Fg9)(k1 k2:Bool)(a1 a2:aZ):It :=
 ⟨fun i H=>∃x1 x2 v1 v2,(SqK k1 K H a1 x1/\x1[i]? = some v1)/\(SqK k2 K H a2 x2/\x2[i]? = some v2),fun i H x H'=>∃q v1 v2,H q=none/\x=.ref q/\H'=upd H q (.tup [v1,v2])/\(∀xs,SqK k1 K H a1 xs->xs[i]? = some v1)/\(∀xs,SqK k2 K H a2 xs->xs[i]? = some v2),fun i H=>∃xs,SqK k1 K H a1 xs/\xs.length=i⟩
theorem art{P:cF}{w:dR}{K:Fg9}{elts:List dW}{n:Nat}{pos:Pos}(k1 k2:Bool)(a1 a2 z TI TO i1 i2:aZ)(D:Apart2 z TI TO i1 i2 a1 a2) :
  Turn P w K (.Tuple elts n pos) (Itz2 K k1 k2 a1 a2) [z,TI,TO,i1,i2] z (fun i h=>sY h z TI TO .none/\Row2 h TI (.ref i1) (.ref i2)/\(∃v1 v2,Row2 h TO v1 v2)/\It1 k1 h i1 a1 i/\It1 k2 h i2 a2 i) where
 mem:=by simp
 obj:=fun i h ⟨hz,hI,⟨v1,v2,hO⟩,h1,h2⟩ b hb=>by
  have hb:b=z∨b=TI∨b=TO∨b=i1∨b=i2:=by simpa using hb
  rcases hb with rfl | rfl | rfl | rfl | rfl
  ·exact⟨_,hz,fun v z=>by cases z⟩
  ·exact⟨_,hI,fun v z=>by cases z⟩
  ·exact⟨_,hO,fun v z=>by cases z⟩
  ·exact h1.got
  ·exact h2.got
 keep:=fun i h h' ⟨hz,hI,⟨v1,v2,hO⟩,h1,h2⟩ kk=>⟨kk z (by simp) _ hz,kk TI (by simp) _ hI,⟨v1,v2,kk TO (by simp) _ hO⟩,h1.at fun o e=>kk i1 (by simp) o e,h2.at fun o e=>kk i2 (by simp) o e⟩
 item:=by
  intro X hP hw hK hc i zv s σ H E I hf st hg;subst hP hw hK;obtain⟨hz,hI,⟨o1,o2,hO⟩,h1,h2⟩:=st;obtain⟨x1,x2,v1,v2,⟨hq1,hx1⟩,⟨hq2,hx2⟩⟩:=hg;obtain⟨t1,r1,s1⟩:=af2 I hq1;obtain⟨u1,hu1,_⟩:=r1.get hx1;have b1:i < t1.toArray.size:=by simpa using (aQ.mp hu1).1
  obtain⟨t2,r2,s2⟩:=af2 I hq2;obtain⟨u2,hu2,_⟩:=r2.get hx2;have b2:i < t2.toArray.size:=by simpa using (aQ.mp hu2).1
  refine ayj hz (arf (I.ok.hd hc) D hz hI hO h1 s1 h2 s2 b1 b2 fun g tk y1 y2 p1 p2 z2 O2 j1 j2 T2 hsz hk =>?_)
  refine⟨_,rfl,wpAny_letOwnedTupleGo_zip z2 fun g2 he2 sb =>?_⟩
  have fr:H s.heap.objs.size=none:=I.hok.fresh (aL _);have lt:∀b∈[z,TI,TO,i1,i2],b < s.heap.objs.size:=fun b hb=>by
   have hb:b=z∨b=TI∨b=TO∨b=i1∨b=i2:=by simpa using hb
   rcases hb with rfl | rfl | rfl | rfl | rfl
   ·exact aP hz
   ·exact aP hI
   ·exact aP hO
   ·obtain⟨o,e,_⟩:=h1.got;exact aP e
   ·obtain⟨o,e,_⟩:=h2.got;exact aP e
  have up:∀b o,b∉[z,TI,TO,i1,i2]->s.heap.get? b=some o->g2.get? b=some o:=fun b o hn e=>sb.extBut _ _ (fun x=>hn (by simp[x])) (hk b o (fun x=>hn (by simp[x])) (fun x=>hn (by simp[x])) (fun x=>hn (by simp[x])) (fun x=>hn (by simp[x])) e)
  have TI2:g2.get? TI=_:=sb.extBut _ _ D.nTIz (hk TI _ D.nTIz D.nTOTI.symm D.ni1TI.symm D.ni2TI.symm hI);refine⟨.ref s.heap.objs.size,upd H s.heap.objs.size (.tup [v1,v2]),?_,rfl,⟨_,v1,v2,fr,rfl,rfl,fun ys hy=>by rw[an0 I hy hq1];exact hx1,fun ys hy=>by rw[an0 I hy hq2];exact hx2⟩,⟨he2,TI2,⟨y1,y2,sb.extBut _ _ D.nTOz O2⟩,(j1.at fun o e=>sb.extBut _ _ D.ni1z e),(j2.at fun o e=>sb.extBut _ _ D.ni2z e)⟩,fun b hb =>?_⟩
  ·exact at5 (fp:=[z,TI,TO,i1,i2]) (us:=[y1,y2]) I up hf lt (.cons (agr r1 hx1 p1) (.cons (agr r2 hx2 p2) .nil)) (by rw[iV];simp) (sb.extBut _ _ (gY (lt z (by simp))) T2)
  ·rw[cu (bI (lt b hb))];exact(hf b hb).1
 done:=by
  intro X hP hw hK hc i zv s σ H E I hf st hg;subst hP hw hK;obtain⟨hz,hI,⟨o1,o2,hO⟩,h1,h2⟩:=st;obtain⟨xs,hq,hx⟩:=hg;obtain⟨its,rv,sq⟩:=af2 I hq;have hl:i=its.toArray.size:=by have:=rv.length;simp;omega
  subst hl;refine ayj hz (av1 (I.ok.hd hc) D hz hI hO h1 sq fun g e kk ⟨o,he,ce⟩=>⟨e,o,rfl,he,ce,rfl,afo (t':=s.toks) (fp:=[z,TI,TO,i1,i2]) I (fun b o hn z=>kk b o (fun z=>hn (by simp[z])) (fun z=>hn (by simp[z])) z) hf⟩)
 self:=fun _ _ _ _ _ st h=>wpAny_pyIter_zip st.1 h
theorem apart2{N l1 l2:Nat}(h1:l1 < N)(h2:l2 < N):Apart2 (N+4) (N+2) (N+3) N (N+1) l1 l2:=by
 constructor <;> (intro e;have e:(_:Nat)=_:=e;omega)
section
variable{X:Cx}
def a9a(K:Fg9)(ta:TA):TI:=fun σ H R=>ta σ H fun vs H1=>∃a1 a2 k1 k2,vs=[.ref a1,.ref a2]/\(∃xs,SqK k1 K H1 a1 xs)/\(∃xs,SqK k2 K H1 a2 xs)/\R (Itz2 K k1 k2 a1 a2) H1
theorem a0a{e1 e2:dW}{ta:TA}{p pos:Pos}{elts:List dW}{n:Nat}{tp:Pos}(hg:Gl X "zip")(hm:X.mg "zip" = none)(ha:PA X [e1,e2] ta)(hs:aX [e1,e2] X.env=[(false,eval e1 X.env),(false,eval e2 X.env)]:=by rfl)(hs2:aX [e2] X.env=[(false,eval e2 X.env)]:=by rfl) :
  PI X (.Tuple elts n tp) (.Call (.Name "zip" p) [e1,e2] [] pos) (a9a X.K ta):=by
 intro zv s σ H R I h;refine Call_ (ag8 I hg hm a6j (iD (thn (ha pos zv s σ H _ I h) fun us s1 ⟨vs,H1,I1,r1,q1⟩ =>?_) (by rw[hs,hs2]) (by rw[hs2];rfl)))
 obtain⟨a1,a2,k1,k2,rfl,⟨x1,hq1⟩,⟨x2,hq2⟩,q⟩:=q1;obtain⟨u1,u2,rfl,ru1,ru2⟩:=vals2 r1;cases ru1;cases ru2;obtain⟨t1,r1',sq1⟩:=af2 I1 hq1;have b1:a1 < s1.heap.objs.size:=by obtain⟨o,e⟩:=sq1.got;exact aP e
 obtain⟨t2,r2',sq2⟩:=af2 I1 hq2;have b2:a2 < s1.heap.objs.size:=by obtain⟨o,e⟩:=sq2.got;exact aP e
 refine avh sq1 sq2 fun g hz hI hO h1 h2 hsz kk=>wpAny_pyIter_zip hz ?_
 have I2:Inv X zv σ H1 { s1 with heap:=g }:=I1.kept (t':=s1.toks) kk
 refine⟨_,[s1.heap.objs.size+4,s1.heap.objs.size+2,s1.heap.objs.size+3,s1.heap.objs.size,s1.heap.objs.size+1],_,_,H1,rfl,I2,art k1 k2 a1 a2 _ _ _ _ _ (apart2 b1 b2),⟨hz,hI,⟨_,_,hO⟩,h1,h2⟩,fun c hc =>?_,q⟩
 have hc:s1.heap.objs.size<=c:=by
  simp only[bD,fP,or_false] at hc;rcases hc with rfl | rfl | rfl | rfl | rfl <;> first | exact aL _ | exact Nat.le_add_right _ _
 exact I1.fpOk hc (I1.hok.fresh hc)
end
section
variable{X:Cx}
end
end Mn
namespace Dn
open L2 Mn
section
variable{K:Fg9}{X:Cx}{e a b c:dW}{es elts:List dW}{pos p tp:Pos}{n:Nat}
theorem asl{F:Hp}{d:D}{l:List D}{v:V}(e:itemsD d=some l)(h:Is K F d v):∃a k vs,v=.ref a/\IsL K F l vs/\∀H,Same F H->SqK k K H a vs:=by
 cases h with
 | tup e1 h1=>cases e;exact⟨_,true,_,rfl,h1,fun H g=>SqT.of (g _ _ e1)⟩
 | lst e1 h1=>cases e;exact⟨_,false,_,rfl,h1,fun H g=>SqL.of (g _ _ e1)⟩
 | kst e1 h1=>cases e;exact⟨_,false,_,rfl,h1,fun H g=>L2.Same.seq g e1⟩
 | _=>cases e
def aib(l:List D):List D:=l.mapIdx fun i d=>.tup [.int (i:Nat),d]
def axn:List D->Option (List D)
 | [d]=>(itemsD d).map aib
 | _=>none
theorem aez(l:List D):(aib l).length=l.length:=by unfold aib;simp
theorem ahl{l:List D}{i:Nat}{d:D}(h:(aib l)[i]? = some d):∃d0,l[i]? = some d0/\d=.tup [.int (i:Nat),d0]:=by
 unfold aib at h;rw[qF] at h;cases e:l[i]? with
 | none=>rw[e] at h;cases h
 | some d0=>rw[e] at h;cases h;exact⟨d0,rfl,rfl⟩
theorem axb{F:Hp}{k:Bool}{a:aZ}{l:List D}{vs:List V}(il:IsL K F l vs)(hs:∀H,Same F H->SqK k K H a vs):ItD K (Ite K k a) (aib l) F where
 go:=fun i H s hi=>by
  have hi:i < vs.length:=by rw[<-il.length,<-aez];exact hi
  exact⟨vs,_,hs H s,aF hi⟩
 yld:=fun i H x H' d s y hd=>by
  obtain⟨d0,h0,rfl⟩:=ahl hd;obtain⟨q,v,hq,rfl,rfl,hv⟩:=y;obtain⟨v',e1,i1⟩:=il.get h0;have:=hv _ (hs H s);rw[e1] at this;cases this;exact .inr ⟨q,_,_,hq,rfl,rfl,rfl,.cons (.int _) (.cons i1 .nil)⟩
 stop:=fun H s=>⟨vs,hs H s,by rw[aez,il.length]⟩
theorem atz{m:M (List D)}(hg:Gl X "enumerate")(hm:X.mg "enumerate" = none)(h:ED K X [a] m)(hs:aX [a] X.env=[(false,eval a X.env)]:=by rfl):IT K X (.Tuple elts n tp) (.Call (.Name "enumerate" p) [a] [] pos) (mGet axn m):=IT.mk fun hk=>by
 intro zv s σ H R I ⟨tg,F,ρ,l,ρ',G,em,q⟩;obtain⟨ds,ρ1,e1,em⟩:=bw em;obtain⟨e2,rfl⟩:=ik em;have h:=h hk;subst hk;refine a0b hg hm h hs zv s σ H R I ⟨tg,F,ρ,ds,_,G,e1,fun vs H' F' G' x r =>?_⟩
 match ds,e2 with
 | [d],e2 =>
  have e2:(itemsD d).map aib=some l:=e2;cases e3:itemsD d with
  | none=>rw[e3] at e2;cases e2
  | some l0 =>
   rw[e3] at e2;cases e2;cases r with
   | cons h1 t =>
    cases t;obtain⟨b,k,ws,rfl,il,hq⟩:=asl e3 h1;exact⟨b,k,rfl,⟨ws,hq _ G'.sub⟩,q _ H' F' G' x (axb il hq)⟩
def ut(l1 l2:List D):List D:=List.zipWith (fun x y=>.tup [x,y]) l1 l2
def an3:List D->Option (List D)
 | [a,b]=>(itemsD a).bind fun l1=>(itemsD b).bind fun l2=>if l1.length<=l2.length then some (ut l1 l2) else none
 | _=>none
theorem ad5{l1 l2:List D}{i:Nat}{d:D}(h:(ut l1 l2)[i]? = some d):∃d1 d2,l1[i]? = some d1/\l2[i]? = some d2/\d=.tup [d1,d2]:=by
 unfold ut at h;rw[pQ] at h;cases e1:l1[i]? with
 | none=>rw[e1] at h;cases h
 | some d1 =>
  cases e2:l2[i]? with
  | none=>rw[e1,e2] at h;cases h
  | some d2=>rw[e1,e2] at h;cases h;exact⟨_,_,rfl,rfl,rfl⟩
theorem axa{F:Hp}{k1 k2:Bool}{a1 a2:aZ}{l1 l2:List D}{x1 x2:List V}(h:l1.length<=l2.length)(i1:IsL K F l1 x1)(i2:IsL K F l2 x2)(s1:∀H,Same F H->SqK k1 K H a1 x1)(s2:∀H,Same F H->SqK k2 K H a2 x2):ItD K (Itz2 K k1 k2 a1 a2) (ut l1 l2) F where
 go:=fun i H s hi=>by
  have z1:=i1.length;have z2:=i2.length;have hi:i < l1.length:=by unfold ut at hi;simp at hi;omega
  exact⟨x1,x2,_,_,⟨s1 H s,aF (by omega)⟩,s2 H s,aF (by omega)⟩
 yld:=fun i H x H' d s y hd=>by
  obtain⟨d1,d2,h1,h2,rfl⟩:=ad5 hd;obtain⟨q,v1,v2,hq,rfl,rfl,y1,y2⟩:=y;obtain⟨w1,e1,j1⟩:=i1.get h1;obtain⟨w2,e2,j2⟩:=i2.get h2;have z1:=y1 _ (s1 H s);have z2:=y2 _ (s2 H s);rw[e1] at z1;rw[e2] at z2;cases z1;cases z2;exact .inr ⟨q,_,_,hq,rfl,rfl,rfl,.cons j1 (.cons j2 .nil)⟩
 stop:=fun H s=>⟨x1,s1 H s,by unfold ut;rw[jG,<-i1.length];omega⟩
theorem ahb{m:M (List D)}(hg:Gl X "zip")(hm:X.mg "zip" = none)(h:ED K X [a,b] m)(hs:aX [a,b] X.env=[(false,eval a X.env),(false,eval b X.env)]:=by rfl)(hs2:aX [b] X.env=[(false,eval b X.env)]:=by rfl) :
  IT K X (.Tuple elts n tp) (.Call (.Name "zip" p) [a,b] [] pos) (mGet an3 m):=IT.mk fun hk=>by
 intro zv s σ H R I ⟨tg,F,ρ,l,ρ',G,em,q⟩;obtain⟨ds,ρ1,e1,em⟩:=bw em;obtain⟨e2,rfl⟩:=ik em;have h:=h hk;subst hk;refine a0a hg hm h hs hs2 zv s σ H R I ⟨tg,F,ρ,ds,_,G,e1,fun vs H' F' G' x r =>?_⟩
 match ds,e2 with
 | [d,d'],e2 =>
  have e2:((itemsD d).bind fun l1=>(itemsD d').bind fun l2=>if l1.length<=l2.length then some (ut l1 l2) else none)=some l:=e2
  cases e3:itemsD d with
  | none=>rw[e3] at e2;cases e2
  | some l1 =>
   cases e4:itemsD d' with
   | none=>rw[e3,e4] at e2;cases e2
   | some l2 =>
    rw[e3,e4] at e2;have e2:(if l1.length<=l2.length then some (ut l1 l2) else none)=some l:=e2
    split at e2
    ·rename_i hle;cases e2;cases r with
     | cons h1 t =>
      cases t with
      | cons h2 t =>
       cases t;obtain⟨b1,k1,w1,rfl,il1,hq1⟩:=asl e3 h1;obtain⟨b2,k2,w2,rfl,il2,hq2⟩:=asl e4 h2;exact⟨b1,b2,k1,k2,rfl,⟨w1,hq1 _ G'.sub⟩,⟨w2,hq2 _ G'.sub⟩,q _ H' F' G' x (axa hle il1 il2 hq1 hq2)⟩
    ·cases e2
end
end Dn
namespace Mn
open L2
theorem axj{X:Cx}:PGet X (rIxL X.K):=by
 intro zv s σ H x y v u Q I rx ry h;obtain⟨p,xs,i,z,rfl,rfl,hq,he,q⟩:=h;cases rx;obtain⟨t,rfl⟩:=ry;obtain⟨its,r,pl,hz⟩:=I.list hq;obtain⟨j,h1,h2,h3,h4,h5⟩:=aoi he;obtain⟨w,ew,rw'⟩:=r.get h2;have hl:=r.length;have hn:=als;have fin:EP X zv σ Q w s:=⟨z,H,I,rw',q⟩
 by_cases h0:0<=i
 ·have hj:i.toNat=j:=by
   rw[seqIndex_of h0 h5] at h1;exact bU h1
  exact wpAny_getItem_list pl.isList h0 (by omega) (by rw[hj];simpa using ew) fin
 ·have hj:(i+(its.toArray.size:Int)).toNat=j:=by
   rw[seqIndex_neg (by omega) h4] at h1
   have:=bU h1;rw[aY,<-hl];exact this
  exact wpAny_getItem_list_neg pl.isList (by omega) (by simp only[aY];omega) (by omega) (by rw[hj];simpa using ew) fin
end Mn
namespace Dn
open L2 Mn
section
variable{K:Fg9}{X:Cx}{e a b:dW}{pos p:Pos}
def aod(f:Int->Int->Int)(i:Nat)(mi m:M D):Sd:=dM (mOwn i) fun _=>dM mi fun k=>dM (mOwn i) fun l=>dM (lift ((asI k).bind (ixN l.length))) fun j=>dM (lift ((l[j]?).bind asI)) fun x=>dM m fun y=>dM (lift (asI y)) fun y=>dM (mOwn i) fun l2=>dM (lift (if l2.length=l.length then some () else none)) fun _=>dM (aeo i (l2.set j (.int (f x y)))) fun _=>dNx
theorem a5m{n:Nat}{k:Int}{j:Nat}{α:Type}{l:List α}(hn:l.length=n)(h:ixN n k=some j):atI l k=l[j]? := by
 unfold atI;rw[hn,h];rfl
theorem ar4{f:Int->Int->Int}{op:Operator}{i:Nat}{mi m:M D}(ho:PE X a (tVar i))(hi:EV K X b mi)(h:EV K X e m)(hp:PIp X op (ipI f))
  (ha:∀ov iv new,augStore b ov iv new=(do nJ [new,ov,iv] (setItem ov iv new);release [new,ov,iv] [];pure .next):=by intros;rfl):SV K X (.AugAssign (.Subscript a b p) op e pos) (aod f i mi m):=SV.mk fun hk=>by
 subst hk;refine PS.imp (az5 ho (hi rfl) axj (h rfl) hp set_list ha) fun E σ H ⟨tg,F,ρ,fl,ρ',G,em,q⟩ =>
  yp em q fun l0 ρ0 e0 em=>yp em q fun k ρ1 e1 em=>yp em q fun l ρ2 e2 em=>yp em q fun j ρ3 e3 em=>yp em q fun x ρ4 e4 em=>yp em q fun y ρ5 e5 em=>yp em q fun y' ρ6 e6 em=>yp em q fun l2 ρ7 e7 em=>yp em q fun u ρ8 e8 em=>yp em q fun u2 ρ9 e9 em =>?_
 cases em;obtain⟨rfl,t0,a0,xs0,es0,hv,hh0,hl0⟩:=ag3 G e0;refine⟨_,hv,tg,F,_,k,ρ1,G,e1,fun w H1 F1 G1 x1 r1 =>?_⟩
 obtain⟨rfl,t1,a1,xs1,es1,hv1,hh1,hl1⟩:=ag3 G1 e2;rw[hv] at hv1;cases hv1;obtain⟨g3,rfl⟩:=ik e3;obtain⟨g4,rfl⟩:=ik e4;cases ek:asI k with
 | none=>rw[ek] at g3;cases g3
 | some n =>
  rw[ek] at g3;obtain rfl:=apy ek;cases r1;have e3:ixN l.length n=some j:=g3;cases ej:l[j]? with
  | none=>rw[ej] at g4;cases g4
  | some d =>
   rw[ej] at g4;have h4:asI d=some x:=g4;obtain rfl:=apy h4;obtain⟨v,ev,iv⟩:=hl1.get ej;cases iv;refine⟨_,xs1,n,.int x,rfl,rfl,SqL.of hh1,by rw[a5m hl1.length.symm e3];exact ev,?_⟩
   refine⟨tg,F1,_,y,ρ5,G1,e5,fun w2 H2 F2 G2 x2 r2 =>?_⟩
   obtain⟨g6,rfl⟩:=ik e6;obtain rfl:=apy g6;cases r2;refine⟨x,y',rfl,rfl,?_⟩;obtain⟨rfl,t2,a2,xs2,es2,hv2,hh2,hl2⟩:=ag3 G2 e7;rw[hv] at hv2;cases hv2;obtain⟨g8,rfl⟩:=ik e8;split at g8
   ·rename_i hlen;obtain⟨G3,x3⟩:=anp G2 e9 hv (hl2.set (Is.int (f x y')) j);exact⟨_,xs2,n,j,rfl,rfl,hh2,by rw[<-hl2.length,hlen];exact e3,q _ _ F2 G3 ((x1.trans x2).trans x3)⟩
   ·cases g8
end
section
variable{K:Fg9}{X:Cx}{a:dW}{pos p p2 pos2:Pos}
theorem avi:abv X (.type "range") (fun xs H Q=>∃b,xs=[.int b]/\∀q,H q=none->Q (.ref q) (upd H q (.rng 0 b))):=by
 intro zv s σ H xs us Q I r h;obtain⟨b,rfl,q⟩:=h;obtain⟨u,rfl,ru⟩:=vals1 r;obtain⟨t,rfl⟩:=ru;exact call_range_1 ⟨.ref s.heap.objs.size,_,I.laid (t':=s.toks+1+1) (o:=.rng 0 b) (fun b ob q=>aD _ q) (aL _) ⟨_,_,_,aO _ rfl⟩,rfl,q _ (I.hok.fresh (aL _))⟩
theorem av7{acc:Array aG}{n:Nat}(h:ItemsOf (fun i v=>∃t,v=.int (0+i*1) t) acc n):Vals (ups 0 n) acc.toList:=by
 have key:∀(l:List aG) (k:Nat),(∀j v,l[j]? = some v->∃t,v=nZ ((k+j:Nat):Int) t)->Vals ((List.range' k l.length).map fun(i:Nat)=>V.int ((i:Nat):Int)) l:=by
  intro l
  induction l with
  | nil=>intro k _;exact .nil
  | cons x r ih =>
   intro k hk;rw[cG,List.range'_succ,aV];refine .cons ?_ (ih (k+1) fun j v hj =>?_)
   ·obtain⟨t,rfl⟩:=hk 0 x rfl;exact⟨t,by simp⟩
   ·obtain⟨t,rfl⟩:=hk (j+1) v (by simpa using hj)
    exact⟨t,by rw[show k+(j+1)=k+1+j by omega]⟩
 have e:=key acc.toList 0 fun j v hj=>by
  obtain⟨t,rfl⟩:=h.2 j v (by simpa using hj)
  exact⟨t,by simp⟩
 have hs:acc.toList.length=n:=by simpa using h.1
 rw[hs] at e;unfold ups;rw[List.range_eq_range']
 simpa using e
theorem amc(hc:X.calm=true):abv X (.type "list") (fun xs H Q=>∃p b,xs=[.ref p]/\H p=some (.rng 0 b)/\b.natAbs < 1000000/\∀q,H q=none->Q (.ref q) (upd H q (.lst (ups 0 b.toNat)))):=by
 intro zv s σ H xs us Q I r h;obtain⟨p,b,rfl,hp,hb,q⟩:=h;obtain⟨u,rfl,ru⟩:=vals1 r;cases ru;obtain⟨t,u,v,e⟩:=I.hok p _ hp;have e62:(2:Int) ^ 62=4611686018427387904:=by decide
 have e24:(2:Nat) ^ 24=16777216:=by decide
 refine call_list_range (I.ok.hd hc) e (small_one (by omega) (by omega) (by omega) (by omega)) (n:=b.toNat) (by rw[rangeSize_one];split <;> omega) (by omega) fun h' tk acc c' kk e' it =>?_
 refine⟨.ref s.heap.objs.size,_,?_,rfl,q _ (I.hok.fresh (aL _))⟩;exact I.laid kk (aL _) ⟨by rw[ai8,iV];omega,acc.toList,c',av7 it,by simpa using e'⟩
def acy:List D->Option Rv
 | [.int j]=>if j.natAbs < 1000000 then some (.fr (rangeD 0 j.toNat)) else none
 | _=>none
def acu(m:M (List D)):M Rv:=m.bind fun ds=>lift (acy ds)
@[simp] theorem aw1(ρ:Ro)(m:M (List D)):acu m ρ=(m.bind fun ds=>lift (acy ds)) ρ:=rfl
@[simp] theorem av0(j:Int):acy [.int j]=if j.natAbs < 1000000 then some (.fr (rangeD 0 j.toNat)) else none:=rfl
theorem aga{m:M (List D)}(hc:X.calm=true)(hg1:Gl X "list")(hm1:X.mg "list" = none)(hg2:Gl X "range")(hm2:X.mg "range" = none)(h:ED K X [a] m)
  (he:aX [a] X.env=[(false,eval a X.env)]:=by rfl) (he2:aX [.Call (.Name "range" p2) [a] [] pos2] X.env=[(false,eval (.Call (.Name "range" p2) [a] [] pos2) X.env)]:=by rfl) :
  ER K X (.Call (.Name "list" p) [.Call (.Name "range" p2) [a] [] pos2] [] pos) (acu m):=ER.mk fun hk=>PE.imp (aef (amc hc) hg1 hm1 acl (tu (aef avi hg2 hm2 ax2 (h hk) (by decide) (by decide) he rfl) aeh he2) (by decide) (by decide) he2 rfl) fun σ H Q hq0=>by
 obtain⟨tg,F,ρ,r,ρ',G,em,q⟩:=hq0;obtain⟨ds,ρ1,e1,em⟩:=bw em;obtain⟨e2,rfl⟩:=ik em;refine⟨tg,F,ρ,ds,_,G,e1,fun vs H1 F1 G1 x1 bl =>?_⟩
 unfold acy at e2;split at e2
 ·rename_i j;split at e2
  ·rename_i hb;cases e2;cases bl with
   | cons hd t =>
    cases t;cases hd;refine⟨j,rfl,fun a hna =>?_⟩
    refine⟨a,j,rfl,gw,hb,fun b hnb =>?_⟩
    have G2:=G1.fresh hna (.rng 0 j);have X2:=G1.freshX hna (.rng 0 j);exact Res.lst G2 (fun v H3 F3 G3 x3 rr=>q v H3 F3 G3 ((x1.trans X2).trans x3) (ou (x1.trans X2) rr)) (ajo 0 _) hnb
  ·cases e2
 ·cases e2
end
end Dn
namespace Mn
open L2
def akm(y:Str)(env:Env)(XN:List Str)(scope:lX)(fr N:List Str)(src:List (Option Nat)):Bool :=
 scope.names.all (fun z=>(z.2 != .cell||z.1==y)&&(z.2 != .local||scope.names.lookup z.1==some .local)&&(z.2 != .free||fr.contains z.1)) &&
 fr.all (fun x=>x != y&&(scope.names.lookup x==some .free&&(env.kindOf x==some .cell||env.kindOf x==some .free)))&&ae6 XN fr N src
structure CompOkY (y:Str) (env:Env) (XN:List Str) (scope:lX) (fr N:List Str) (src:List (Option Nat)):Prop where
 cell:∀z∈scope.names,z.2=.cell->z.1=y
 loc:∀z∈scope.names,z.2=.local->scope.names.lookup z.1=some .local
 free:∀z∈scope.names,z.2=.free->z.1∈fr
 ne:∀x∈fr,x≠y
 frk:∀x∈fr,scope.names.lookup x=some .free
 out:∀x∈fr,env.kindOf x=some .cell∨env.kindOf x=some .free
 src:ae6 XN fr N src=true
theorem CompOkY.of{y:Str}{env:Env}{XN:List Str}{scope:lX}{fr N:List Str}{src:List (Option Nat)}(h:akm y env XN scope fr N src=true):CompOkY y env XN scope fr N src:=by
 simp only[akm,bH,fQ] at h;obtain⟨⟨h1,h2⟩,h3⟩:=h;refine⟨fun z hz e =>?_,fun z hz e =>?_,fun z hz e =>?_,fun x hx =>?_,fun x hx =>?_,fun x hx =>?_,h3⟩
 ·have:=(h1 z hz).1.1;rw[e] at this
  simpa using this
 ·have:=(h1 z hz).1.2;rw[e] at this
  simpa using this
 ·have:=(h1 z hz).2;rw[e] at this
  simpa using this
 ·simpa using (h2 x hx).1
 ·simpa using (h2 x hx).2.1
 ·simpa using (h2 x hx).2.2
def cxY(y:Str)(X:Cx)(N:List Str)(scope:lX)(fr:List Str)(fp:List aZ)(s:aJ)(H:Hp):Cx :=
 { cxC X N scope fr fp s H with env:=compEnvC scope ((y,s.heap.objs.size+1)::ur X.env fr) s.heap.objs.size X.env,fn:=fun x=>x==y }
theorem zr{M:uX}{A:cQ}{E:aG->aJ->Prop}{s:aJ}{scope:lX}{globals:aZ}{cl:List (Str×Addr)}{qual:Str}{func:Option aZ}{code:aG}{ar:Env}{builtins:aZ}{Q:Env->aJ->Prop}
  (hQ:Q (newEnv scope s.heap.objs.size globals (cellsFrom (s.heap.objs.size+1) scope.names cl) qual func code (some ar) builtins)
   { s with heap:=pushCells (s.heap.push { cls:=.type "dict", data:=.dict #[] }) scope.names }) :
  bK M A (newFunctionEnv scope globals cl [] qual func code (some ar) builtins) Q E s:=by
 simp only[newFunctionEnv,wG,if_true];refine aA (wpAny_alloc ?_);refine aA (wpAny_layCells _ (fun name kind cells=>by cases hkc:kind==iR <;> simp[hkc]) _ _ _ _ ?_)
 rw[show({ s with heap:=s.heap.push { cls:=.type "dict", data:=.dict #[] } }:aJ).heap.objs.size=s.heap.objs.size+1 from cH ..]
 refine aA ?_;rw[qK];exact aH (aH hQ)
section
variable{y:Str}{X:Cx}{zv:List (aZ×Obj)}{σ:L2.St}{H:Hp}{s:aJ}{scope:lX}{fr N:List Str}{src:List (Option Nat)}{fp:List aZ}
theorem ath{a c:aZ}{x:Str}{l:List (Str×Addr)}(h:dU x ((y,a)::l)=some c):(x=y/\c=a)∨(x≠y/\l.lookup x=some c):=by
 by_cases e:x=y
 ·subst e;rw[look_same] at h;exact .inl ⟨rfl,(bU h).symm⟩
 ·rw[aax e] at h;exact .inr ⟨e,h⟩
theorem a6e(I:Inv X zv σ H s)(C:CompOkY y X.env X.N scope fr N src)(hkind:scope.kind=.function)(hf:∀b∈fp,FpOk X zv H b)(hl:∀b∈fp,b < s.heap.objs.size):(cxY y X N scope fr fp s H).Ok where
 mod:=I.ok.mod
 kind:=hkind
 glob:=I.ok.glob
 blt:=I.ok.blt
 above:=aL _
 inj:=fun x z c h1 h2=>by
  have lt:∀{x c},(ur X.env fr).lookup x=some c->c < s.heap.objs.size:=fun h=>by
   obtain⟨v,q⟩:=I.cell _ _ (jw h);exact q.lt
  rcases ath h1 with⟨e1,a1⟩ | ⟨e1,l1⟩ <;> rcases ath h2 with⟨e2,a2⟩ | ⟨e2,l2⟩
  ·rw[e1,e2]
  ·exact absurd (lt l2) (by rw[a1];exact fun h=>absurd h (lG.mpr (iG _)))
  ·exact absurd (lt l1) (by rw[a2];exact fun h=>absurd h (lG.mpr (iG _)))
  ·exact I.ok.inj x z c (jw l1) (jw l2)
 has:=fun x hx=>by
  by_cases e:x=y
  ·subst e;exact⟨_,look_same⟩
  have mem:∀k,(k=iR∨k=eG)->(cxY y X N scope fr fp s H).env.kindOf x=some k->x∈fr:=fun k hk e'=>by
   obtain⟨k0,e0,d⟩:=ab5 (env:=X.env) (names:=scope.names) e';have hm:=iC e0;rcases d with rfl | ⟨rfl,_⟩
   ·rcases hk with rfl | rfl
    ·exact absurd (C.cell _ hm rfl) e
    ·exact C.free _ hm rfl
   ·exact C.free _ hm rfl
  have hm:x∈fr:=by
   rcases hx with e | e
   ·exact mem _ (.inl rfl) e
   ·exact mem _ (.inr rfl) e
  obtain⟨c,hc⟩:=I.ok.has x (C.out x hm);exact⟨c,(aax e).trans (yt hm hc)⟩
 cab:=fun x c h e=>by
  have hx:x=y:=by simpa[cxY] using h
  subst hx;rw[show(cxY x X N scope fr fp s H).env.cells=(x,s.heap.objs.size+1)::ur X.env fr from rfl,look_same] at e
  cases e;exact iG _
 hd:=I.ok.hd
 frames:=I.ok.frames
 stk:=.inl rfl
 exf:=fun b hb=>⟨Nat.ne_of_lt (hl b hb),fun x c e=>by
  rcases ath e with⟨_,a1⟩ | ⟨_,l1⟩
  ·rw[a1];exact fun h=>absurd (hl b hb) (by rw[<-h];exact lG.mpr (iG _))
  ·exact(hf b hb).2.2.2.2.1 x c (jw l1)⟩
 bs:=I.bs
 bsz:=cL I.ok.bsz I.sz
 noex:=fun b o e hb=>by
  rcases(hf b hb).2.2.2.1 with z | z
  ·exact I.ok.noex b o e z
  ·exact absurd (bW (aP e) (cL I.ok.bsz z)) (jW _)
 exfs:=fun b hb z=>by
  rcases bD.mp (I.stkSub b z) with e | e
  ·exact(hf b hb).2.1 e
  ·exact(hf b hb).2.2.1 e
 funs:=I.stack
 frf:=I.stkFree
theorem at6(I:Inv X zv σ H s)(C:CompOkY y X.env X.N scope fr N src)(hkind:scope.kind=.function)(hf:∀b∈fp,FpOk X zv H b)(hl:∀b∈fp,b < s.heap.objs.size){h':fH}{tk:Nat}{m:Str->Option aG}
  (hns:h'.Ns s.heap.objs.size m) (hk:∀b o,s.heap.get? b=some o->h'.get? b=some o) (hc:h'.IsCell (s.heap.objs.size+1) none):Inv (cxY y X N scope fr fp s H) [] (pick src σ) H { s with heap:=h',toks:=tk } where
 ok:=a6e I C hkind hf hl
 os:=rfl
 bare:=I.bare
 base:=Un.kept hk
 loc:=by
  refine⟨m,hns,fun i x v h1 h2 h3 =>?_⟩
  obtain⟨j,hj,hv⟩:=aoz h2;obtain⟨hN,hm⟩:=aea C.src h1 hj;obtain⟨mo,_,hlo⟩:=I.loc;have vis:Vis X.env.scope x:=by
   rcases C.out x hm with e | e
   ·exact .inr (.inl e)
   ·exact .inr (.inr e)
  obtain⟨u,r,l⟩:=hlo j x v hN hv vis;refine⟨u,r,.inr ⟨?_,?_⟩⟩
  ·rcases aab (env:=X.env) (C.frk x hm) with e | e
   ·exact .inr e
   ·exact .inl e
  ·rcases l with⟨e,_⟩ | ⟨_,c,hc,z⟩
   ·rcases C.out x hm with q | q
    ·rw[q] at e;cases e
    ·rw[q] at e;cases e
   ·obtain⟨o,ho,hd⟩:=z;exact⟨c,(aax (C.ne x hm)).trans (yt hm hc),o,hk c o ho,hd⟩
 cell:=fun x c e=>by
  rcases ath e with⟨_,a1⟩ | ⟨_,l1⟩
  ·rw[a1];exact⟨_,hc⟩
  ·obtain⟨v,o,ho,hd⟩:=I.cell x c (jw l1);exact⟨v,o,hk c o ho,hd⟩
 free:=I.hok.fresh (aL _)
 freeC:=fun x c e=>by
  rcases ath e with⟨_,a1⟩ | ⟨_,l1⟩
  ·rw[a1];exact I.hok.fresh (iG _)
  ·exact I.freeC x c (jw l1)
 pin:=fun p hp=>absurd (show p∈([]:List (aZ×Obj)) from hp) (by simp)
 hok:=I.hok.kept hk
 len:=by
  unfold pick;rw[aW];exact ad9 C.src
theorem at7{pins':List (aZ×Obj)}{σ':L2.St}{H':Hp}{s':aJ}{h'':fH}(I:Inv X zv σ H s)(hf:∀b∈fp,FpOk X zv H b)(J:Inv (cxY y X N scope fr fp s H) pins' σ' H' s')
  (hs:fJ s.heap.objs.size s'.heap h''):Inv X zv σ H' { s' with heap:=h'' }:=by
 have k:∀b o,b≠s.heap.objs.size->s'.heap.get? b=some o->h''.get? b=some o:=fun b o hb e=>(hs.2 b hb).trans e
 have old:∀b o,s.heap.get? b=some o->b≠s.heap.objs.size:=fun b o e=>bI (aP e)
 have un:Un (frs X.stack) fp H H' s.heap h'':=by
  have u:Un (frs X.stack) fp H H' s.heap s'.heap:=J.base;refine⟨fun b o e n hb hx=>k b o (old b o e) (u.keep b o e n hb hx),fun b o e n hb hx =>?_,u.free,fun b o e hx =>?_,u.tups,u.frzs,u.tbls⟩
  ·obtain⟨sl,q⟩:=u.slot b o e n hb hx;exact⟨sl,k b _ (old b o e) q⟩
  ·obtain⟨o',q⟩:=u.there b o e hx;exact⟨o',k b _ (old b o e) q⟩
 have hok:HOk X.prog X.w H' h'':=fun b u e=>by
  have nC:∀c z,H' c=some z->c≠s.heap.objs.size:=fun c z q w=>by
   have f:H' s.heap.objs.size=none:=J.free;rw[w,f] at q;cases q
  refine(J.hok b u e).stay (fun c v hc q=>k c v ?_ q) (fun _ q=>q) fun _ _ q=>q
  rcases hc with z | z
  ·rw[z];exact nC b u e
  ·exact nC c _ z
 have os:s'.os=s.os:=J.os;refine Inv.call' (s':={ s' with heap:=h'' }) I os un hok J.bare fun b hb =>?_
 obtain⟨_,f1,_,f3,f4,f5⟩:=hf b hb;exact⟨f3,f1,f4,f5⟩
end
theorem awm{X:Cx}{tg iter elt:dW}{ifs:List dW}{scope:lX}{pos:Pos}{wi:TI}{g:TG}{ti:TT}{te:TE}(y:Str)(fr N:List Str)(src:List (Option Nat))(hc:X.calm=true)(hi:PI X tg iter wi)
  (hg:∀fp s H,PG (cxY y X N scope fr fp s H) tg g) (ht:∀fp s H,PIf (cxY y X N scope fr fp s H) ifs ti) (he:∀fp s H,PE (cxY y X N scope fr fp s H) elt te)
  (hok:akm y X.env X.N scope fr N src=true) (hcf:∀a l,cellsFrom a scope.names l=(y,a)::l) (hkind:scope.kind=.function) (hclos:closureFor scope X.env=pure (ur X.env fr))
  (hs:∀x,iB iter X.env x=pure x):PE X (.ListComp elt [⟨tg,iter,ifs,0⟩] scope pos) (av9 wi g ti te src):=by
 have C:=CompOkY.of hok;intro zv s σ H Q I h;rw[eval_ListComp];refine wpAny_comprehension_free (use:=none) rfl hs hclos hkind C.loc (bC (hi zv s σ H _ I h) (fun v s1 h1=>bC h1 (fun itv s2 h2 =>?_) fun _ _ e=>e) fun _ _ e=>e)
 obtain⟨it,fp,tn,J,H2,e,I2,T,st2,f2,q2⟩:=h2;subst e;have hd0:H2 s2.heap.objs.size=none:=I2.hok.fresh (aL _);obtain⟨W,⟨m0,w0⟩,turn⟩:=q2 s2.heap.objs.size hd0;refine bZ ?_;generalize hs3:({ s2 with heap:=s2.heap.push { cls:=.type "list", dict:=none,data:=.seq ([]:List aG).toArray } }:aJ)=s3
 have keep2:∀b o,s2.heap.get? b=some o->s3.heap.get? b=some o:=fun b o e=>by rw[<-hs3];exact aD _ e
 have I3:Inv X zv σ (upd H2 s2.heap.objs.size (.lst [])) s3:=by
  rw[<-hs3];exact I2.laid (t':=s2.toks) (fun b u q=>aD _ q) (aL _) ⟨Nat.zero_le _,[],0,.nil,aO _ rfl⟩
 have ne0:∀b∈fp,b≠s2.heap.objs.size:=fun b hb=>by
  obtain⟨o,e,_⟩:=T.obj _ _ st2 b hb;exact bI (aP e)
 have f3:∀b∈fp,FpOk X zv (upd H2 s2.heap.objs.size (.lst [])) b:=fun b hb=>⟨by rw[cu (ne0 b hb)];exact(f2 b hb).1,(f2 b hb).2⟩
 have lt3:∀b∈fp,b < s3.heap.objs.size:=fun b hb=>by
  obtain⟨o,e,_⟩:=T.obj _ _ st2 b hb;exact aP (keep2 b o e)
 refine zr ?_;rw[hcf];have ok:=cellsFrom_ok scope.names (s3.heap.push { cls:=.type "dict", data:=.dict #[] }) (s3.heap.objs.size+1) [] ⟨fun _ _ hm=>(nomatch hm),oG⟩ (by rw[cH];exact aL _)
 rw[cH,hcf] at ok;have hns₁:=(Heap.Ns.new s3.heap (.type "dict")).keeps (pushCells_keeps scope.names _);have keep3:∀b o,s3.heap.get? b=some o->(pushCells (s3.heap.push { cls:=.type "dict", data:=.dict #[] }) scope.names).get? b=some o:=fun b o e=>pushCells_keeps _ _ b o (aD _ e)
 have hcl:=(ok.empty y (s3.heap.objs.size+1) aR).1;generalize pushCells (s3.heap.push { cls:=.type "dict", data:=.dict #[] }) scope.names=h₁ at hns₁ keep3 hcl ⊢
 have st4:tn 0 h₁:=T.keep _ _ _ st2 fun b hb o e=>keep3 b o (keep2 b o e)
 have I4:=at6 (tk:=s3.toks) I3 C hkind f3 lt3 hns₁ keep3 hcl;have loop:=ahs (X:=cxY y X N scope fr fp s3 (upd H2 s2.heap.objs.size (.lst []))) (iter:=iter) (scope:=scope) (pos:=pos) (d:=s2.heap.objs.size)
  (R:=compPost (bR X.prog X.w) X.A X.xe none (EP X zv σ Q) (.ref s2.heap.objs.size) s3.heap.objs.size) hc rfl T
  (fun H' hn b hb=>⟨hn b hb,bI (lt3 b hb),I4.ok.exfs b hb,.inl hb,(I4.ok.exf b hb).2,fun p hp=>absurd (show p∈([]:List (aZ×Obj)) from hp) (by simp)⟩)
  (hg fp s3 _) (ht fp s3 _) (he fp s3 _) turn w0 I4 st4 (fun b hb=>(f3 b hb).1) (fun σ' H' s' I6 qn=>by
   obtain⟨m6,hn6,_⟩:=I6.loc;exact⟨m6,hn6,fun h'' hs''=>⟨.ref s2.heap.objs.size,H',at7 I3 f3 I6 hs'',rfl,qn⟩⟩)
 exact codeAny_compStart_list loop (T.self _ 0 _ _ _ st4 loop)
end Mn
namespace Dn
open L2 Mn
theorem axv{K:Fg9}{X:Cx}{tgt iter elt:dW}{pos:Pos}{ifs:List dW}{scope:lX}{mi:M (List D)}{bb:D->Ro->Option Ro}{mc:M Bool}{me:M D}(y:Str)(fr N:List Str)(src:List (Option Nat))(hc:X.calm=true)(hi:IT K X tgt iter mi)
  (hg:∀fp s H,GV K (cxY y X N scope fr fp s H) tgt bb) (ht:∀fp s H,EIf K (cxY y X N scope fr fp s H) ifs mc) (he:∀fp s H,EV K (cxY y X N scope fr fp s H) elt me)
  (hok:akm y X.env X.N scope fr N src=true:=by rfl) (hcf:∀a l,cellsFrom a scope.names l=(y,a)::l:=by intro _ _;rfl) (hkind:scope.kind=.function:=by rfl) (hclos:closureFor scope X.env=pure (ur X.env fr):=by rfl)
  (hs:∀x,iB iter X.env x=pure x:=by intro _;rfl):ER K X (.ListComp elt [⟨tgt,iter,ifs,0⟩] scope pos) (ww src mi bb mc me):=ER.mk fun hk=>by
 have hkc:∀fp s H,(cxY y X N scope fr fp s H).K=K:=fun _ _ _=>hk
 refine PE.imp (awm y fr N src hc (hi hk) (fun fp s H=>(hg fp s H).go (hkc _ _ _)) (fun fp s H=>(ht fp s H).go (hkc _ _ _)) (fun fp s H=>(he fp s H).go (hkc _ _ _)) hok hcf hkind hclos hs) akl
end Dn
namespace L2
section
variable{M:uX}{A:cQ}{E:aG->aJ->Prop}{s:aJ}
structure KeptBut (fs ch:List aZ) (h h':fH):Prop where
 keep:∀b o,b∉ch->b∉fs->h.get? b=some o->h'.get? b=some o
 slot:∀b o,b∉ch->h.get? b=some o->∃sl,h'.get? b=some { o with slots:=sl }
theorem KeptBut.trans{fs ch:List aZ}{h h1 h2:fH}(a:KeptBut fs ch h h1)(b:KeptBut fs ch h1 h2):KeptBut fs ch h h2 :=
 ⟨fun c o n1 n2 e=>b.keep c o n1 n2 (a.keep c o n1 n2 e),fun c o n e=>let ⟨_,e1⟩:=a.slot c o n e;let ⟨sl,e2⟩:=b.slot c _ n e1;⟨sl,e2⟩⟩
theorem KeptBut.sub{fs ch ch':List aZ}{h h':fH}(a:KeptBut fs ch h h')(q:∀b∈ch,b∈ch'):KeptBut fs ch' h h' :=
 ⟨fun c o n1 n2 e=>a.keep c o (fun z=>n1 (q c z)) n2 e,fun c o n e=>a.slot c o (fun z=>n (q c z)) e⟩
theorem KeptBut.upd{fs:List aZ}{h:fH}{a:aZ}{f:Obj->Obj}:KeptBut fs [a] h (h.update a f) :=
 ⟨fun b o n _ e=>by rw[bJ _ _ (fun z=>n (by simp[z]))];exact e,fun b o n e=>⟨o.slots,by rw[bJ _ _ (fun z=>n (by simp[z]))];exact e⟩⟩
theorem alo{base:fH}{env:Env}{outer:List Env}{L e:aZ}{oe:Obj}{vs:Array aG}{head:aG}{hadNext:Bool}{Q:Unit->aJ->Prop}
  (hfr:A.frames=some (env::outer)) (hl:s.heap.FunFrames base (env::outer)) (hf:env.frame=some L) (he:s.heap.get? e=some oe) (hd:oe.data=.fields vs) (hsz:1 < vs.size)
  (h:∀h' T ts,s.heap.objs.size<=T->KeptBut (frs (env::outer)) [e] s.heap h'->h'.get? e=some (oe.mapFields (·.setIfInBounds 1 (.ref T)))->h'.get? T=some { cls:=.type "traceback", dict:=none,data:=.fields ts }->ts[3]? = some (jZ L)->Q () { s with heap:=h' }) :
  bK M A (do let a <-frameOf env;let pl <-entryPlaceOf L hadNext;let b <-vZ head a .none (jZ L) .none pl;setField (.ref e) 1 b) Q E s:=by
 have hene:e∉frs (env::outer):=fun hm=>by
  obtain⟨_,o,ho,hnf⟩:=hl.mem hm;rw[he] at ho;injection ho with ho;subst ho;exact hnf vs hd
 refine aA (wpAny_frameOf_fun hfr hl hf fun h₁ hs₁ =>?_)
 refine aA (wpAny_entryPlaceOf fun pl hpl =>?_)
 unfold vZ newFields;refine aA (bZ ?_ (hpl.sizeOk5 _ _ _ _ _));have he₁:h₁.get? e=some oe:=(hs₁.2.1 e hene).trans he;have he₂:=aD (h:=h₁) { cls:=.type "traceback", dict:=none,data:=.fields ([head,.ref L,.none,jZ L,.none]++(if pl.isEmpty then aU 6 cT else pl)).toArray } he₁
 refine fL he₂ hd hsz (h _ h₁.objs.size ([head,.ref L,.none,jZ L,.none]++(if pl.isEmpty then aU 6 cT else pl)).toArray ?_ ?_ ?_ ?_ ?_)
 ·exact pM hs₁.1.symm
 ·have keep:∀b o,b≠e->h₁.get? b=some o->((h₁.push { cls:=.type "traceback", dict:=none,data:=.fields ([head,.ref L,.none,jZ L,.none]++(if pl.isEmpty then aU 6 cT else pl)).toArray }).update e (mL (·.setIfInBounds 1 (dJ h₁.objs.size)))).get? b=some o:=fun b o hbe hb=>by
   rw[bJ _ _ (fU hbe)];exact aD _ hb
  refine⟨fun b o n1 n2 hb=>keep b o (fun z=>n1 (by simp[z])) ((hs₁.2.1 b n2).trans hb),fun b o n hb =>?_⟩
  obtain⟨sl,q⟩:=hs₁.2.2 b o hb;exact⟨sl,keep b _ (fun z=>n (by simp[z])) q⟩
 ·exact cC _ he₂ (eV (bO hd _))
 ·rw[bJ _ _ (fU (gY (aP he₁)))];exact aO h₁ rfl
 ·rcases hpl with rfl | ⟨_,_,_,_,_,_,_,rfl⟩ <;> simp
end
structure FlyAt (h:fH) (a:aZ) (C:aZ) (dx:Option aZ) (ch:List aZ) (L:aZ):Prop where
 obj:∃oe vs,h.get? a=some oe/\oe.cls=.ref C/\oe.dict=dx/\oe.data=.fields vs/\1 < vs.size /\
  ((vs[1]? = some .none/\ch=[a])∨∃T oT ts fl,ch=[a,T]/\vs[1]? = some (.ref T)/\T≠a/\h.get? T=some oT/\oT.data=.fields ts/\ts[3]? = some fl/\(fl=.none∨fl=jZ L))
theorem FlyAt.fresh{h:fH}{a C L:aZ}{dx:Option aZ}{ch:List aZ}(x:FlyAt h a C dx ch L):a∈ch:=by
 obtain⟨oe,vs,_,_,_,_,_,⟨_,e⟩ | ⟨T,_,_,_,e,_⟩⟩:=x.obj <;> simp[e]
section
variable{M:uX}{A:cQ}{E:aG->aJ->Prop}{s:aJ}
theorem adb(o:Obj)(f):(o.mapFields f).dict=o.dict:=by
 obtain⟨c,d,dt,sl⟩:=o;cases dt <;> rfl
theorem a4s{base:fH}{env:Env}{outer:List Env}{L a C:aZ}{dx:Option aZ}{ch:List aZ}{Q:Unit->aJ->Prop}
  (hfr:A.frames=some (env::outer)) (hl:s.heap.FunFrames base (env::outer)) (hf:env.frame=some L) (x:FlyAt s.heap a C dx ch L)
  (h:∀h' T oT ts oe vs,(T∈ch∨s.heap.objs.size<=T)->KeptBut (frs (env::outer)) ch s.heap h'->h'.get? a=some oe->oe.cls=.ref C->oe.dict=dx->oe.data=.fields vs->1 < vs.size->vs[1]? = some (.ref T)->T≠a->h'.get? T=some oT->oT.data=.fields ts->ts[3]? = some (jZ L)->Q () { s with heap:=h' }) :
  bK M A (noteFrame (.ref a) env) Q E s:=by
 obtain⟨oe,vs,he,hc,hdx,hd,hsz,alt⟩:=x.obj;unfold noteFrame;simp only[hf];rcases alt with⟨h1,rfl⟩ | ⟨T,oT,ts,fl,rfl,h1,hTa,hT,hdT,h3,hfl⟩
 ·refine aA (dZ he hd h1 ?_);rw[if_neg (by decide)]
  refine alo hfr hl hf he hd hsz fun h' T ts hT k e1 e2 e3 =>?_
  refine h h' T _ ts _ _ (.inr hT) k e1 (by rw[jV];exact hc) (by rw[adb];exact hdx) (bO hd _) (by simpa using hsz) (by simp[hsz]) ?_ e2 rfl e3
  exact gY (bW (aP he) hT)
 ·refine aA (dZ he hd h1 ?_);rw[if_pos (show(dJ T != cT)=true from by simp)]
  refine aA (dZ hT hdT h3 ?_);rcases hfl with rfl | rfl
  ·rw[if_neg (show ¬((cT==jZ L)=true) from by simp[jZ])]
   refine aA (fL hT hdT (fG.mp h3).1 ?_);have k0:KeptBut (frs (env::outer)) [T] s.heap (s.heap.update T (mL (·.setIfInBounds 3 cT))):=KeptBut.upd;have he':=(bJ s.heap (mL (·.setIfInBounds 3 cT)) hTa).trans he;refine alo hfr (hl.of_keeps fun b o hb hnf =>?_) hf he' hd hsz fun h' T' ts' hT' k e1 e2 e3 =>?_
   ·exact⟨o,(bJ _ _ fun z=>by rw[<-z,hT] at hb;cases hb;exact hnf _ hdT).trans hb,rfl⟩
   ·have hsz':s.heap.objs.size<=T':=by
     have:(s.heap.update T (mL (·.setIfInBounds 3 cT))).objs.size=s.heap.objs.size:=Heap.size_after_update ..
     exact this▸hT'
    refine h h' T' _ ts' _ _ (.inr hsz') ((k0.sub (by simp)).trans (k.sub (by simp))) e1 (by rw[jV];exact hc) (by rw[adb];exact hdx) (bO hd _) (by simpa using hsz) (by simp[hsz]) ?_ e2 rfl e3
    exact gY (bW (aP he) hsz')
  ·rw[if_pos (show(jZ L==jZ L)=true from by simp)]
   refine aH (h s.heap T oT ts oe vs (.inl (by simp)) ⟨fun _ _ _ _ e=>e,fun _ o _ e=>⟨o.slots,e⟩⟩ he hc hdx hd hsz h1 hTa hT hdT h3)
theorem a5g{base:fH}{env:Env}{outer:List Env}{L a C:aZ}{dx:Option aZ}{ch:List aZ}{Q:Unit->aJ->Prop}
  (hfr:A.frames=some (env::outer)) (hl:s.heap.FunFrames base (env::outer)) (hf:env.frame=some L) (x:FlyAt s.heap a C dx ch L)
  (h:∀h' ch',(∀b∈ch',b∈ch∨s.heap.objs.size<=b)->KeptBut (frs (env::outer)) ch s.heap h'->(∀L',FlyAt h' a C dx ch' L')->Q () { s with heap:=h' }) :
  bK M A (leaving env (.ref a)) Q E s:=by
 unfold leaving;refine aA (a4s hfr hl hf x fun h' T oT ts oe vs hT k e1 e2 e3 e4 e5 e6 e7 e8 e9 e10 =>?_)
 unfold setFlight;refine aA (dZ e1 e4 e6 ?_);rw[if_pos (show(dJ T != cT)=true from by simp)]
 have hsz3:3 < ts.size:=(fG.mp e10).1;refine fL e8 e9 hsz3 (h _ [a,T] (fun b hb =>?_) ?_ fun L'=>⟨oe,vs,(bJ _ _ e7).trans e1,e2,e3,e4,e5,.inr ⟨T,_,_,.none,rfl,e6,e7,cC _ e8 (eV (bO e9 _)),bO e9 _,by simp[hsz3],.inl rfl⟩⟩)
 ·have:b=a∨b=T:=by simpa using hb
  rcases this with rfl | rfl
  ·exact .inl x.fresh
  ·exact hT
 ·rcases hT with hT | hT
  ·exact k.trans (KeptBut.upd.sub (by simp[hT]))
  ·refine⟨fun b o n1 n2 e =>?_,fun b o n e =>?_⟩
   ·rw[bJ _ _ fun z=>absurd (aP e) (by rw[<-z];exact lG.mpr hT)]
    exact k.keep b o n1 n2 e
   ·obtain⟨sl,q⟩:=k.slot b o n e;exact⟨sl,by rw[bJ _ _ fun z=>absurd (aP e) (by rw[<-z];exact lG.mpr hT)];exact q⟩
end
end L2
namespace Dn
open L2 Mn
def a2i(F:Hp)(dx:Option aZ)(fs:List (Str×Int)):Prop:=(dx=none/\fs=[])∨∃d,dx=some d/\F d=some (.xd (fs.map fun p=>(p.1,V.int p.2)))
structure ClsOk (K:Fg9) (c:Str) (C:aZ):Prop where
 ns:nsIn K bB c=some (some (.ref C))
 ok:ExcK K C
def FpX(X:Cx)(zv:List (aZ×Obj))(H:Hp)(b:aZ):Prop :=
 H b=none/\b≠X.env.locals/\b∉X.fs/\(b∈X.ex∨X.s₀.heap.get? b=none)/\(∀x c,X.env.cells.lookup x=some c->c≠b)/\∀p∈X.pn++zv,p.1≠b
section
variable{X:Cx}{zv:List (aZ×Obj)}{σ:L2.St}{H H':Hp}{s:aJ}
theorem Inv.fpX{b:aZ}(I:Inv X zv σ H s)(hb:s.heap.get? b=none)(hn:H' b=none):FpX X zv H' b:=by
 have no:∀{o},s.heap.get? b=some o->False:=fun e=>by rw[hb] at e;cases e
 refine⟨hn,fun z =>?_,fun z =>?_,?_,fun x c e z =>?_,fun p hp z =>?_⟩
 ·obtain⟨m,⟨o,_,_,ho,_⟩,_⟩:=I.loc;rw[<-z] at ho;exact no ho
 ·obtain⟨_,o,ho,_⟩:=I.funs.mem z;exact no ho
 ·by_cases hx:b∈X.ex
  ·exact .inl hx
  ·refine .inr ?_;cases e:X.s₀.heap.get? b with
   | none=>rfl
   | some o =>
    obtain⟨o',e'⟩:=I.base.there b o e hx;exact(no e').elim
 ·obtain⟨v,o,ho,_⟩:=I.cell x c e;rw[z] at ho;exact no ho
 ·have:=(I.pin p hp).1;rw[z] at this;exact no this
theorem Inv.records{h':fH}{ch:List aZ}(I:Inv X zv σ H s)(k:KeptBut (frs X.stack) ch s.heap h')(hch:∀b∈ch,FpX X zv H b):Inv X zv σ H { s with heap:=h' }:=by
 have nt:∀c z,H c=some z->c∉ch/\c∉frs X.stack:=fun c z q=>⟨(fun m=>by have:=(hch c m).1;rw[q] at this;cases this),(fun m=>by have:=I.stkFree c m;rw[q] at this;cases this)⟩
 have nb:∀b o,X.s₀.heap.get? b=some o->b∉X.ex->b∉ch:=fun b o e hx m=>by
  rcases(hch b m).2.2.2.1 with z | z
  ·exact hx z
  ·rw[z] at e;cases e
 have nl:∀b o,X.s₀.heap.get? b=some o->b∉X.fs->b∉frs X.stack:=fun b o e hf m=>by
  rcases bD.mp (I.stkSub b m) with z | z
  ·exact absurd (aP e) (by rw[z];exact lG.mpr I.ok.above)
  ·exact hf z
 have cellK:∀x c,X.env.cells.lookup x=some c->∀v,s.heap.IsCell c v->h'.IsCell c v:=fun x c e v hq0=>by
  obtain⟨o,ho,hd⟩:=hq0;obtain⟨sl,q⟩:=k.slot c o (fun m=>(hch c m).2.2.2.2.1 x c e rfl) ho
  exact⟨_,q,hd⟩
 refine⟨I.ok,I.os,I.bare,⟨fun b o e n hb hx=>k.keep b o (nb b o e hx) (nl b o e hb) (I.base.keep b o e n hb hx),fun b o e n hb hx =>?_,I.base.free,fun b o e hx =>?_,I.base.tups,I.base.frzs,I.base.tbls⟩,?_,fun x c e =>?_,I.free,I.freeC,fun p hp =>?_,fun b u e =>?_,I.len⟩
 ·obtain⟨sl,e1⟩:=I.base.slot b o e n hb hx;obtain⟨sl',e2⟩:=k.slot b _ (nb b o e hx) e1;exact⟨sl',e2⟩
 ·obtain⟨o',e1⟩:=I.base.there b o e hx;obtain⟨sl,e2⟩:=k.slot b o' (nb b o e hx) e1;exact⟨_,e2⟩
 ·obtain⟨m,⟨o,es,ep,ho,r⟩,hl⟩:=I.loc;obtain⟨sl,q⟩:=k.slot _ o (fun m=>(hch _ m).2.1 rfl) ho
  refine⟨m,⟨_,es,ep,q,r⟩,fun i x v e1 e2 e3 =>?_⟩
  obtain⟨u,rv,l⟩:=hl i x v e1 e2 e3;refine⟨u,rv,?_⟩;rcases l with l | ⟨kk,c,e,z⟩
  ·exact .inl l
  ·exact .inr ⟨kk,c,e,cellK x c e _ z⟩
 ·obtain⟨v,z⟩:=I.cell x c e;exact⟨v,cellK x c e v z⟩
 ·obtain⟨e,n,ne,nf,d⟩:=I.pin p hp;refine⟨k.keep p.1 p.2 (fun m=>(hch _ m).2.2.2.2.2 p hp rfl) (fun m =>?_) e,n,ne,nf,d⟩
  rcases bD.mp (I.stkSub _ m) with z | z
  ·exact ne z
  ·exact nf z
 ·refine(I.hok b u e).stay (fun c v hc q =>?_) (fun _ q=>q) fun _ _ q=>q
  rcases hc with z | z
  ·rw[z] at q ⊢;exact k.keep _ _ (nt b u e).1 (nt b u e).2 q
  ·exact k.keep _ _ (nt c _ z).1 (nt c _ z).2 q
end
def FlyX(K:Fg9)(X:Cx)(zv:List (aZ×Obj))(x:Exn)(F H:Hp)(h:fH)(e:aG):Prop :=
 ∃a C dx ch,e=.ref a/\ClsOk K x.cls C/\a2i F dx x.fs/\FlyAt h a C dx ch X.env.locals/\∀b∈ch,FpX X zv H b
def RX(K:Fg9)(X:Cx)(zv:List (aZ×Obj))(tg:Nat->aZ)(ρ:Ro)(σ:L2.St)(F H:Hp)(x:Exn)(ρ':Ro)(e:aG)(s':aJ):Prop :=
 ∃σ' H' F',Inv X zv σ' H' s'/\Good K tg F' H' ρ' σ'/\Ext (Own ρ σ) (Own ρ' σ') F H F' H'/\FlyX K X zv x F' H' s'.heap e
theorem RX.back{K:Fg9}{X:Cx}{zv:List (aZ×Obj)}{tg:Nat->aZ}{ρ ρ1 ρ':Ro}{σ σ1:L2.St}{F H F1 H1:Hp}{x:Exn}{e:aG}{s':aJ}(q:Ext (Own ρ σ) (Own ρ1 σ1) F H F1 H1)(h:RX K X zv tg ρ1 σ1 F1 H1 x ρ' e s'):RX K X zv tg ρ σ F H x ρ' e s' :=
 let ⟨σ',H',F',I,G,y,f⟩:=h;⟨σ',H',F',I,G,q.trans y,f⟩
abbrev XGo(K:Fg9)(X:Cx)(α:Type)(c:Sem α)(m:Ro->Option (Exn×Ro)):Prop :=
 X.K=K->X.xe=(fun _ _=>False)->∀zv s σ H tg F ρ x ρ',Inv X zv σ H s->Good K tg F H ρ σ->m ρ=some (x,ρ')->bK (bR X.prog X.w) X.A c (fun _ _=>False) (RX K X zv tg ρ σ F H x ρ') s
def exE{α:Type}(m:M α):Ro->Option (Exn×Ro):=fun ρ=>match m ρ with
 | some (.exc x,ρ')=>some (x,ρ')
 | _=>none
def exS(g:Sd):Ro->Option (Exn×Ro):=fun ρ=>match g ρ with
 | some (.exc x,ρ')=>some (x,ρ')
 | _=>none
theorem lg{α:Type}{m:M α}{ρ ρ':Ro}{x:Exn}:exE m ρ=some (x,ρ')↔m ρ=some (.exc x,ρ'):=by
 unfold exE;split
 ·rename_i y ρ1 e;rw[e];constructor
  ·intro h;cases h;rfl
  ·intro h;cases h;rfl
 ·rename_i hn;constructor
  ·intro h;cases h
  ·intro h;exact absurd h (hn x ρ')
theorem vh{g:Sd}{ρ ρ':Ro}{x:Exn}:exS g ρ=some (x,ρ')↔g ρ=some (.exc x,ρ'):=by
 unfold exS;split
 ·rename_i y ρ1 e;rw[e];constructor
  ·intro h;cases h;rfl
  ·intro h;cases h;rfl
 ·rename_i hn;constructor
  ·intro h;cases h
  ·intro h;exact absurd h (hn x ρ')
structure XE (K:Fg9) (X:Cx) (e:dW) {α:Type} (m:M α):Prop where
 go:XGo K X aG (eval e X.env) (exE m)
structure XA (K:Fg9) (X:Cx) (es:List dW) {α:Type} (m:M α):Prop where
 go:∀(pos:Pos),XGo K X (List aG) (spliced (jB pos (aX es X.env))) (exE m)
structure XS (K:Fg9) (X:Cx) (st:iM) (g:Sd):Prop where
 go:XGo K X Flow (exec st X.env) (exS g)
structure XSs (K:Fg9) (X:Cx) (ss:List iM) (g:Sd):Prop where
 go:XGo K X Flow (execs ss X.env) (exS g)
def NoX{α:Type}(m:M α):Prop:=∀ρ x ρ',m ρ≠some (.exc x,ρ')
def NoS(g:Sd):Prop:=∀ρ x ρ',g ρ≠some (.exc x,ρ')
section
variable{K:Fg9}{X:Cx}{e a b c:dW}{es:List dW}{pos p:Pos}{st:iM}{ss:List iM}
theorem XE.no{α:Type}{m:M α}(h:NoX m):XE K X e m:=⟨fun _ _ zv s σ H tg F ρ x ρ' I G em=>absurd (lg.mp em) (h ρ x ρ')⟩
theorem XS.no{g:Sd}(h:NoS g):XS K X st g:=⟨fun _ _ zv s σ H tg F ρ x ρ' I G em=>absurd (vh.mp em) (h ρ x ρ')⟩
theorem au4{α:Type}{m:M α}{k:α->Sd}{ρ ρ':Ro}{x:Exn}(h:dM m k ρ=some (.exc x,ρ')):m ρ=some (.exc x,ρ')∨∃a ρ1,m ρ=some (.ok a,ρ1)/\k a ρ1=some (.exc x,ρ'):=by
 unfold dM at h;split at h
 ·exact .inr ⟨_,_,by assumption,h⟩
 ·cases h;exact .inl (by assumption)
 ·cases h
theorem wg{α β:Type}{m:M α}{k:α->M β}{ρ ρ':Ro}{x:Exn}(h:m.bind k ρ=some (.exc x,ρ')):m ρ=some (.exc x,ρ')∨∃a ρ1,m ρ=some (.ok a,ρ1)/\k a ρ1=some (.exc x,ρ'):=by
 unfold M.bind at h;split at h
 ·exact .inr ⟨_,_,by assumption,h⟩
 ·cases h;exact .inl (by assumption)
 ·cases h
theorem XA.no{α:Type}{m:M α}(h:NoX m):XA K X es m:=⟨fun _ _ _ zv s σ H tg F ρ x ρ' I G em=>absurd (lg.mp em) (h ρ x ρ')⟩
theorem ai6:XSs K X [] dNx:=⟨fun _ _ zv s σ H tg F ρ x ρ' I G em=>by cases em⟩
theorem yw{g:Sd}(h:XS K X st g):XSs K X [st] g:=⟨fun hk hn zv s σ H tg F ρ x ρ' I G em=>wpAny_execs_cons (bC (h.go hk hn zv s σ H tg F ρ x ρ' I G em) (fun _ _ z=>z.elim) fun _ _ z=>z)⟩
theorem ad6{g k:Sd}(h:SV K X st g)(hx:XS K X st g)(t:XSs K X ss k):XSs K X (st::ss) (dSeq g k):=⟨fun hk hn zv s σ H tg F ρ x ρ' I G em=>by
 have em:=vh.mp em;unfold dSeq at em;split at em
 ·rename_i ρ1 e1;refine wpAny_execs_cons (bC (h.go hk zv s σ H { nx:=fun σ1 H1=>∃F1,Good K tg F1 H1 ρ1 σ1/\Ext (Own ρ σ) (Own ρ1 σ1) F H F1 H1,rt:=fun _ _=>False } I ⟨tg,F,ρ,.nx,ρ1,G,e1,fun σ' H' F' G' x=>⟨F',G',x⟩⟩) (fun f s1 q =>?_) fun e s1 q=>by rw[hn] at q;exact q.elim)
  cases f with
  | next =>
   obtain⟨σ1,H1,I1,F1,G1,x1⟩:=q;exact bC (t.go hk hn zv s1 σ1 H1 tg F1 ρ1 x ρ' I1 G1 (vh.mpr em)) (fun _ _ z=>z.elim) fun _ _ z=>z.back x1
  | ret v=>obtain⟨_,_,_,_,_,z⟩:=q;exact z.elim
  | brk=>obtain⟨_,_,_,z⟩:=q;exact z.elim
  | cont=>obtain⟨_,_,_,z⟩:=q;exact z.elim
 ·exact wpAny_execs_cons (bC (hx.go hk hn zv s σ H tg F ρ x ρ' I G (vh.mpr em)) (fun _ _ z=>z.elim) fun _ _ z=>z)⟩
theorem agp{α:Type}{m:M α}(h:XE K X e m)(hs:mD e none pos.line X.env=pure false:=by rfl):XS K X (.Expr e pos) (agc m):=⟨fun hk hn zv s σ H tg F ρ x ρ' I G em=>by
 rcases au4 (vh.mp em) with em | ⟨_,_,_,em⟩
 ·exact wpAny_Expr_any (bC (h.go hk hn zv s σ H tg F ρ x ρ' I G (lg.mpr em)) (fun _ _ z=>z.elim) fun _ _ z=>z) I.quiet hs
 ·cases em⟩
theorem a2n{m:M Rv}(h:XE K X e m):XS K X (.Return (some e) pos) (dRet m):=⟨fun hk hn zv s σ H tg F ρ x ρ' I G em=>by
 rcases au4 (vh.mp em) with em | ⟨_,_,_,em⟩
 ·exact wpAny_Return_some (bC (h.go hk hn zv s σ H tg F ρ x ρ' I G (lg.mpr em)) (fun _ _ z=>z.elim) fun _ _ z=>z)
 ·cases em⟩
theorem av5{m:M Bool}{g k:Sd}{ss':List iM}(h:ET K X c m)(hm:NoX m)(h1:XSs K X ss g)(h2:XSs K X ss' k):XS K X (.If c ss ss' pos) (dIf m g k):=⟨fun hk hn zv s σ H tg F ρ x ρ' I G em=>by
 rcases au4 (vh.mp em) with em | ⟨z,ρ1,e1,em⟩
 ·exact absurd em (hm _ _ _)
 ·refine wpAny_If (bC (h.go hk zv s σ H (fun b H1=>b=z/\∃F1,Good K tg F1 H1 ρ1 σ/\Ext (Own ρ σ) (Own ρ1 σ) F H F1 H1) I ⟨tg,F,ρ,z,ρ1,G,e1,fun H' F' G' x=>⟨rfl,F',G',x⟩⟩) (fun d s1 ⟨H1,I1,hz,F1,G1,x1⟩ =>?_) fun e s1 q=>by rw[hn] at q;exact q.elim)
  subst hz;cases d with
  | true=>exact bC (h1.go hk hn zv s1 σ H1 tg F1 ρ1 x ρ' I1 G1 (vh.mpr em)) (fun _ _ z=>z.elim) fun _ _ z=>z.back x1
  | false=>exact bC (h2.go hk hn zv s1 σ H1 tg F1 ρ1 x ρ' I1 G1 (vh.mpr em)) (fun _ _ z=>z.elim) fun _ _ z=>z.back x1⟩
def CX1(P:cF)(w:dR):CXT:=fun outer H s E e s'=>∃H' a C dx ch,e=.ref a/\s'.os=s.os/\qC s'.gens/\Un (frs outer) [] H H' s.heap s'.heap/\HOk P w H' s'.heap /\
 (∀L',FlyAt s'.heap a C dx ch L')/\(∀b∈ch,s.heap.get? b=none/\H' b=none)/\E (.ref C) dx H'
def spX(K:Fg9)(n:Nat)(f:Fd):Sp:=fun vs H _ E=>vs.length=n/\∃F as x ps,Good K (tgOf (vs.map some)) F H as (vs.map some)/\f as=some (.exc x,ps) /\
 ∀C dx H' F' O',Same F' H'->Ext (Own as (vs.map some)) O' F H F' H'->Fin K F' H' (vs.map some) ps O'->ClsOk K x.cls C->a2i F' dx x.fs->E (.ref C) dx H'
def DfnX(P:cF)(w:dR)(K:Fg9)(mg:Str->Option aG)(base:fH)(x:Str)(ps:List Str)(k:Nat)(sp:Sp):Prop :=
 ∃(f:aZ) (fd:fX),FnOk P w K mg base (CX1 P w) k f fd ps sp/\mg x=some (.ref f)/\nY K (.ref f)=true/\Binds K fd ps []
theorem a03{f:Fd}{js:List (Option Nat)}{ms:M (List (Option D))}{ρ ρ':Ro}{x:Exn}(h:mFn f js ms ρ=some (.exc x,ρ')) :
  ms ρ=some (.exc x,ρ')∨∃ds ρ1 ps,ms ρ=some (.ok ds,ρ1)/\okJs ρ1 js=true/\f (lend ρ1 js ds)=some (.exc x,ps)/\ρ'=putB ρ1 js ps:=by
 rcases wg h with h | ⟨ds,ρ1,e1,em⟩
 ·exact .inl h
 ·split at em
  ·rename_i hj;split at em
   ·cases em
   ·rename_i y ps e2;cases em;exact .inr ⟨ds,ρ1,ps,e1,hj,e2,rfl⟩
   ·cases em
  ·cases em
theorem ap2{f:Fd}{n k:Nat}{x:Str}{pn:List Str}{js:List (Option Nat)}{ms:M (List (Option D))}(F:DfnX X.prog X.w X.K X.mg X.base x pn k (spX K n f))(hr:Room k X.A)(hg:Gl X x)(ha:EG K X (e::es) js ms)(hxa:XA K X (e::es) ms)(hn:js.length=n:=by rfl)(hdb:(x==("__debug__" : Str))=false:=by decide)
  (he:aX (e::es) X.env=(false,eval e X.env)::aX es X.env:=by rfl) (hpl:(jB pos (aX es X.env)).any (·.1)=false:=by rfl):XE K X (.Call (.Name x p) (e::es) [] pos) (mFn f js ms):=⟨fun hk hno zv s σ H tg F0 ρ y ρ' I G em=>by
 obtain⟨fa,fd,Fo,hm,hkp,hb⟩:=F;refine wpAny_Call_Name_kw (adu I hg hm ?_ hdb);rcases a03 (lg.mp em) with em | ⟨ds,ρ1,ps,e1,hj,e2,rfl⟩
 ·exact nA (h₀:=X.base) I.ok.mod.kin hkp (bC (hxa.go pos hk hno zv s σ H tg F0 ρ y ρ' I G (lg.mpr em)) (fun _ _ z=>z.elim) fun _ _ z=>z) he hpl
 ·refine nA (h₀:=X.base) I.ok.mod.kin hkp (bC (ha.go hk pos zv s σ H (fun vs H1=>∃F1,Good K tg F1 H1 ρ1 σ/\Ext (Own ρ σ) (Own ρ1 σ) F0 H F1 H1/\AR K F1 σ js ds vs) I ⟨tg,F0,ρ,ds,ρ1,G,e1,fun vs H1 F1 G1 x1 ar=>⟨F1,G1,x1,ar⟩⟩) (fun us s1 ⟨vs,H1,I1,r,F1,G1,x1,ar⟩=>⟨I1.kIn,?_⟩) fun e s1 q=>by rw[hno] at q;exact q.elim) he hpl
  have L:=ar.lent;have hl:(us++[]).length=pn.length:=by
   rw[fO,<-r.length];exact Fo.len vs H1 (fun _ _=>True) (fun _ _ _=>True) ⟨by rw[ar.length];exact hn,F1,_,y,ps,acd G1 hj L,e2,fun _ _ _ _ _ _ _ _ _ _=>trivial⟩
  have hbn:=hb s1 us I1.kIn hl;rw[fO] at hbn;refine mO (lC (Fo.run X.A X.stack s1 H1 ⟨[]++us,[]⟩ us vs (fun _ _=>False) (fun cv dx H2=>∃C F2,cv=.ref C/\Good K tg F2 H2 (putB ρ1 js ps) σ/\Ext (Own ρ σ) (Own (putB ρ1 js ps) σ) F0 H F2 H2/\ClsOk K y.cls C/\a2i F2 dx y.fs) hr I1.env0 hbn r
   ⟨by rw[ar.length];exact hn,F1,_,y,ps,acd G1 hj L,e2,fun C dx H2 F2 O2 s2 x2 fin hc hf=>⟨C,F2,rfl,ae4 G1 L x2 s2 fin,x1.trans (agm G1 L x2),hc,hf⟩⟩) fun r s' hq =>?_)
  cases r with
  | ok fl =>
   cases fl with
   | ret u=>obtain⟨_,_,_,_,_,_,_,z⟩:=hq;exact z.elim
   | next=>exact fK hq
   | brk=>exact fK hq
   | cont=>exact fK hq
  | error er =>
   obtain⟨H',a,C,dx,ch,rfl,os,bare,un,hok,fl,hch,C',F2,ce,G2,x2,hc,hf⟩:=hq;cases ce;exact⟨σ,H',F2,I1.call' os un hok bare (fun b z=>absurd z (by simp)),G2,x2,a,C,dx,ch,rfl,hc,hf,fl _,fun b hb=>Inv.fpX I1 (hch b hb).1 (hch b hb).2⟩⟩
end
theorem fn_x{K:Fg9}{P:cF}{w:dR}{mg:Str->Option aG}{base:fH}{x qual:Str}{st:iM}{f:aZ}{fd:fX}{N ps:List Str}{k nl np:Nat}{g:Sd}(F:Fun K x qual st f fd)(S:FnScope N ps (au st))(h1:N.length=nl)(h2:ps.length=np)
  (body:∀(cdv:aG) (A:cQ) (outer:List Env) (s:aJ) (H:Hp) (E:XK),Room k (A.deeper (pB qual (au st) s.heap.objs.size f cdv))->XSs K (cxOf CX0 P w K mg base N qual (au st) f cdv A outer s H E).nox (jm st) g) :
  FnOk P w K mg base (CX1 P w) (k+1) f fd ps (spX K np (fnD nl np g)):=by
 subst h1 h2;obtain⟨oc,od,kV,doc,pm,an,cdv,ct,osl,rfl,lk,hcd⟩:=F.ex;refine a5z lk hcd S (fun vs H Q E h=>h.1) fun A outer s H vs Q E hr hsp =>?_
 obtain⟨hn,F0,as,y,ps',G,em,q⟩:=hsp;have hl:as.length=(vs.map some).length:=G.len;have G1:=G.app (N.length - vs.length);have es:start N vs=vs.map some++aU (N.length - vs.length) none:=rfl;unfold fnD at em;rw[<-hn] at em;have fin:∀{ρ':Ro} {σ':L2.St} {F' H':Hp},Good K (tgOf (vs.map some)) F' H' ρ' σ'->Fin K F' H' (vs.map some) (ρ'.take vs.length) (Own ρ' σ'):=fun{ρ' σ' F' H'} G'=>⟨fun i l e=>by
  have hi:=(aQ.mp e).1;rw[gM] at hi;rw[lH (by omega)] at e
  obtain⟨o,ho,a,ws,rfl,hf,hh,hl,ht⟩:=G'.at e;rw[ht i rfl];exact⟨⟨i,⟨_,_,e⟩,ho⟩,hf,ws,hh,hl⟩⟩
 refine⟨fun _ σ0 H0=>σ0=start N vs/\H0=H,fun zv s1 σ0 H0 D I hs =>?_,rfl,rfl⟩
 obtain⟨hs1,hs2⟩:=hs;subst hs2;rw[hs1,es] at I;split at em
 ·cases em
 ·cases em
 ·rename_i y' ρ' e;cases em;have run:=(body cdv A outer s H0 E hr).go rfl rfl zv s1 _ H0 (tgOf (vs.map some)) F0 _ y ρ' (I.wish _) G1 (vh.mpr e);refine bC run (fun _ _ z=>z.elim) fun er s' ⟨σ',H',F',J,G',x',a,C,dx,ch,e1,hc,hf,fl,hch⟩ =>?_
  subst e1;rw[aav hl] at x';show bK _ _ (leaving _ (.ref a)) _ _ s';refine a5g J.ok.frames J.stack rfl fl fun h' ch' hc' kb fl' =>?_
  have J2:=Inv.records J kb hch;have hsz:s.heap.objs.size<=s'.heap.objs.size:=J.sz;refine⟨H',a,C,dx,ch',rfl,J.os,J.bare,J2.base,J2.hok,fl',fun b hb =>?_,q C dx H' F' (Own ρ' σ') G'.sub x' (fin G') hc hf⟩
  rcases hc' b hb with z | z
  ·obtain⟨f1,_,_,f3,_⟩:=hch b z;rcases f3 with f3 | f3
   ·exact absurd (show b∈([]:List aZ) from f3) (by simp)
   ·exact⟨f3,f1⟩
  ·exact⟨Heap.get?_none_of_le (cL hsz z),J.hok.fresh z⟩
 ·cases em
theorem alj{P:cF}{w:dR}{H:Hp}{h:fH}{a:aZ}{o:HO}(x:xm P w H h a o):∃ob,h.get? a=some ob:=by
 cases o with
 | lst xs=>obtain⟨_,_,_,_,e⟩:=x;exact⟨_,e⟩
 | tup xs=>obtain⟨_,_,_,ob,e,_⟩:=x;exact⟨_,e⟩
 | dK kvs=>obtain⟨_,_,_,_,o,_,_,e,_⟩:=x;exact⟨_,e⟩
 | dT kvs=>obtain⟨_,_,_,_,o,_,_,e,_⟩:=x;exact⟨_,e⟩
 | set S n=>obtain⟨o,_,_,_,e,_⟩:=x;exact⟨_,e⟩
 | ins C dx fs=>obtain⟨_,_,_,e,_⟩:=x;exact⟨_,e⟩
 | own y=>exact x
 | xd fs=>obtain⟨_,⟨_,_,_,e,_⟩,_⟩:=x;exact⟨_,e⟩
 | rng lo hi=>obtain⟨_,_,_,e⟩:=x;exact⟨_,e⟩
 | frz ob u=>exact⟨_,x.1⟩
 | tbl ps=>exact⟨_,x⟩
 | met f y=>exact⟨_,x⟩
 | ext φ=>exact x.2.1
abbrev bmV:List aG:=[.type "ValueError", .type "Exception", .type "BaseException", .type "object"]
theorem a1o{K:Fg9}{h:fH}{C:aZ}{bmB:List aG}{newId:String}(X:K.In h)(q:oM K C bmB newId=true) :
  ∃bm N nm qn bs hdct sn sub ab col dd k0 k1 k2 k3 k5 mN,h.get? C=some (excClassObj nm qn C N bs bm hdct sn sub ab col dd k0 k1 k2 k3 k5 newId)/\h.Ns N mN/\mN "__init__" = none/\OwnTail h bmB bm:=by
 unfold oM at q;split at q
 ·rename_i dd cd sl ho;split at q
  ·rename_i C' bm k0 k1 k2 k3 n k5 hm hs;simp only[bH,beq_iff_eq,xX] at q;obtain⟨⟨⟨⟨⟨e1,e2⟩,e3⟩,e4⟩,e5⟩,e6⟩:=q;subst e1 e2;obtain⟨nm,bs,mro,ns,qn,hd,sn,sub,ab,col,del⟩:=cd;have hm:mro=_:=hm;have e3:del=false:=e3;subst hm e3;have z:sl = #[k0,k1,k2,k3,some (.builtin n),k5]:=yH.mp hs;subst z;exact⟨bm,ns,nm,qn,bs,hd,sn,sub,ab,col,dd,k0,k1,k2,k3,k5,h.nsMap ns,X _ _ ho,.of_isNs (qP X e5),PySem.W.nsMap_none_of_in X e5 e6,wC X e4⟩
  ·cases q
 ·cases q
def agb(x:Exn):Sd:=fun ρ=>some (.exc x,ρ)
section
variable{K:Fg9}{X:Cx}{c:Str}{C:aZ}{np cpos pos:Pos}
theorem ark(hcalm:X.calm=true)(hg:Gl X c)(hm:X.mg c=some (.ref C))(k:ClsOk X.K c C)(q:oM X.K C bmV "ValueError.__new__" = true)(hd:(c==("__debug__" : Str))=false:=by decide) :
  XS K X (.Raise (some (.Call (.Name c np) [] [] cpos)) none pos) (agb ⟨c,[]⟩):=⟨fun hk hn zv s σ H tg F ρ x ρ' I G em=>by
 have em:=vh.mp em;cases em;subst hk;obtain⟨tl,N,nm,qn,bs,hdct,sn,sub,ab,col,dd,k0,k1,k2,k3,k5,mN,hC,hN,hni,T⟩:=a1o I.kIn q;refine wpAny_Raise_call_subU (C:=C) (nm:=nm) (q:=qn) (N:=N) (bs:=bs) (bm:=tl) (hdct:=hdct) (sn:=sn) (sub:=sub) (ab:=ab) (col:=col) (dd:=dd) (k0:=k0) (k1:=k1) (k2:=k2) (k3:=k3) (k5:=k5)
  gD (by decide +kernel) gD (mN:=mN) (T.hasType gD.hasBase) (I.ok.hd hcalm) rfl hni ?_
 refine adu I hg hm ⟨rfl,?_⟩ hd;refine evalArgs_empty ⟨rfl,eF _,hC,hN,T,fun h' e hme =>?_⟩
 obtain⟨t,he,_,_⟩:=hme.there;have J:Inv X zv σ H { s with heap:=h' }:=I.kept (t':=s.toks) hme.keeps
 have hnH:H e=none:=by
  cases z:H e with
  | none=>rfl
  | some o =>
   obtain⟨ob,h1⟩:=alj (I.hok e o z);have h2:s.heap.get? e=none:=hme.new;rw[h2] at h1;cases h1
 exact⟨σ,H,F,J,G,Ext.refl _ _ _,e,C,none,[e],rfl,k,.inl ⟨rfl,rfl⟩,⟨_,_,he,rfl,rfl,rfl,by simp,.inl ⟨rfl,rfl⟩⟩,fun b hb=>by
  obtain rfl:=bY.mp hb;exact Inv.fpX I hme.new hnH⟩⟩
end
end Dn
namespace L2
section
variable{X:Cx}{zv:List (aZ×Obj)}{σ:List (Option V)}{H:Hp}{s:aJ}
theorem a6c{M:uX}{A:cQ}{E:aG->aJ->Prop}{i:Nat}{x:Str}{v:V}{Q:Unit->aJ->Prop}(I:Inv X zv σ H s)(hN:X.N.Nodup)(hi:X.N[i]? = some x)(hk:X.env.scope.names.lookup x=some .local)(hv:σ[i]? = some (some v))
  (h:∀s',Inv X zv (σ.set i none) H s'->Q () s'):bK M A (unbindName X.env x) Q E s:=by
 obtain⟨m,hn,hl⟩:=id I.loc;have hcls:(X.env.scope.kind==.class||(X.env.scope.kind==.module&&X.env.locals != X.env.globals))=false:=by rw[I.ok.kind];rfl
 have hiσ:i < σ.length:=(aQ.mp hv).1;obtain⟨u,_,lk⟩:=hl i x v hi hv (.inl hk);have hmx:∃u,m x=some u:=by
  rcases lk with⟨_,e⟩ | ⟨k,_⟩
  ·exact⟨u,e⟩
  ·rcases k with k | k
   ·exact absurd (hk.symm.trans k) (by simp)
   ·exact absurd (hk.symm.trans k) (by simp)
 obtain⟨u0,hmx⟩:=hmx;refine wpAny_unbindName_local hk hn hmx hcls fun h' u' hn' hs=>h _ ?_
 have ne0:∀b o,X.s₀.heap.get? b=some o->b≠X.env.locals:=fun b o e=>bI (bW (aP e) I.ok.above)
 refine⟨I.ok,I.os,I.bare,⟨fun b o e n hb hx=>(hs.2 b (ne0 b o e)).trans (I.base.keep b o e n hb hx),fun b o e n hb hx =>?_,I.base.free,fun b o e hx =>?_,I.base.tups,I.base.frzs,I.base.tbls⟩,⟨_,hn',fun j y v' e1 e2 e3 =>?_⟩,fun y c e =>?_,I.free,I.freeC,fun p hp =>?_,fun b ob e =>?_,by simpa using I.len⟩
 ·obtain⟨sl,e1⟩:=I.base.slot b o e n hb hx;exact⟨sl,(hs.2 b (ne0 b o e)).trans e1⟩
 ·obtain⟨o',e1⟩:=I.base.there b o e hx;exact⟨o',(hs.2 b (ne0 b o e)).trans e1⟩
 ·by_cases hj:j=i
  ·subst hj;rw[lW hiσ] at e2;cases e2
  ·rw[mJ (fU hj)] at e2;obtain⟨u',r',q⟩:=hl j y v' e1 e2 e3;refine⟨u',r',?_⟩;rcases q with⟨k,e⟩ | ⟨k,c,e,z⟩
   ·refine .inl ⟨k,?_⟩;have:y≠x:=fun e=>hj (aj0 hN e1 (e▸hi))
    simp[this,e]
   ·exact .inr ⟨k,c,e,z.sameBut hs (I.cne y c e)⟩
 ·obtain⟨w',z⟩:=I.cell y c e;exact⟨w',z.sameBut hs (I.cne y c e)⟩
 ·obtain⟨e,n,ne,nf,d⟩:=I.pin p hp;exact⟨(hs.2 p.1 ne).trans e,n,ne,nf,d⟩
 ·have nL:∀c z,H c=some z->c≠X.env.locals:=fun c z q w=>by
   have:=I.free;rw[<-w,q] at this;cases this
  refine(I.hok b ob e).stay (fun c w' hc q=>(hs.2 c ?_).trans q) (fun _ q=>q) fun _ _ q=>q
  rcases hc with z | z
  ·rw[z];exact nL b ob e
  ·exact nL c _ z
end
section
variable{M:uX}{A:cQ}{E:aG->aJ->Prop}{s:aJ}
theorem azh{fs:List aZ}{a C:aZ}{dx:Option aZ}{ch:List aZ}{L:aZ}{Q:Unit->aJ->Prop}(x:FlyAt s.heap a C dx ch L)(hT:ch≠[a])
  (h:∀h',KeptBut fs ch s.heap h'->(∀L',FlyAt h' a C dx ch L')->h'.get? a=s.heap.get? a->Q () { s with heap:=h' }):bK M A (setFlight (.ref a) none) Q E s:=by
 obtain⟨oe,vs,he,hc,hdx,hd,hsz,⟨_,e⟩ | ⟨T,oT,ts,fl,rfl,h1,hTa,hT,hdT,h3,hfl⟩⟩:=x.obj
 ·exact absurd e hT
 ·unfold setFlight;refine aA (dZ he hd h1 ?_);rw[if_pos (show(dJ T != cT)=true from by simp)]
  have hsz3:3 < ts.size:=(fG.mp h3).1;refine fL hT hdT hsz3 (h _ (KeptBut.upd.sub (by simp)) (fun L'=>⟨oe,vs,(bJ _ _ hTa).trans he,hc,hdx,hd,hsz,.inr ⟨T,_,_,.none,rfl,h1,hTa,cC _ hT (eV (bO hdT _)),bO hdT _,by simp[hsz3],.inl rfl⟩⟩) (bJ _ _ hTa))
theorem atb{base:fH}{env:Env}{outer:List Env}{L a C:aZ}{dx:Option aZ}{ch:List aZ}{Q:Unit->aJ->Prop}
  (hfr:A.frames=some (env::outer)) (hl:s.heap.FunFrames base (env::outer)) (hf:env.frame=some L) (x:FlyAt s.heap a C dx ch L)
  (h:∀h' ch',ch'≠[a]->(∀b∈ch',b∈ch∨s.heap.objs.size<=b)->KeptBut (frs (env::outer)) ch s.heap h'->(∀L',FlyAt h' a C dx ch' L')->Q () { s with heap:=h' }) :
  bK M A (noteFrame (.ref a) env) (fun _ s'=>bK M A (setFlight (.ref a) none) Q E s') E s:=by
 refine a4s hfr hl hf x fun h' T oT ts oe vs hT k e1 e2 e3 e4 e5 e6 e7 e8 e9 e10 =>?_
 unfold setFlight;refine aA (dZ e1 e4 e6 ?_);rw[if_pos (show(dJ T != cT)=true from by simp)]
 have hsz3:3 < ts.size:=(fG.mp e10).1;refine fL e8 e9 hsz3 (h _ [a,T] (by simp) (fun b hb =>?_) ?_ fun L'=>⟨oe,vs,(bJ _ _ e7).trans e1,e2,e3,e4,e5,.inr ⟨T,_,_,.none,rfl,e6,e7,cC _ e8 (eV (bO e9 _)),bO e9 _,by simp[hsz3],.inl rfl⟩⟩)
 ·have:b=a∨b=T:=by simpa using hb
  rcases this with rfl | rfl
  ·exact .inl x.fresh
  ·exact hT
 ·rcases hT with hT | hT
  ·exact k.trans (KeptBut.upd.sub (by simp[hT]))
  ·refine⟨fun b o n1 n2 e =>?_,fun b o n e =>?_⟩
   ·rw[bJ _ _ fun z=>absurd (aP e) (by rw[<-z];exact lG.mpr hT)]
    exact k.keep b o n1 n2 e
   ·obtain⟨sl,q⟩:=k.slot b o n e;exact⟨sl,by rw[bJ _ _ fun z=>absurd (aP e) (by rw[<-z];exact lG.mpr hT)];exact q⟩
structure CatK (K:Fg9) (B:aZ):Prop where
 cls:(lM K B).isSome=true
 ty:qJ K (.ref B)=some (.type "type")
 base:gU K (.ref B) (.type "BaseException")=some true
theorem aw2{K:Fg9}{a C B:aZ}{oe:Obj}{b:Bool}{Q:Bool->aJ->Prop}(X:K.In s.heap)(k:CatK K B)(he:s.heap.get? a=some oe)(hc:oe.cls=.ref C)(hs:gU K (.ref C) (.ref B)=some b)(h:Q b s):bK M A (excMatches (.ref a) (.ref B)) Q E s:=by
 obtain⟨hp,g,d,tk,os⟩:=s;have L0:jT M hp (isInstance (.ref B) (.type "tuple")) false:=(PySem.W.looks_typeIn X k.ty).andThen (uV (by rw[isSubtype_type];kernel_rfl))
 have L1:jT M hp (isType (.ref B)) true:=by
  have z:=k.cls;unfold lM at z;split at z
  ·rename_i c' d' cd' sl' ho;intro A' Q' E' s' kk q;unfold isType loadHead;exact aA (wpAny_loadPart (kk _ _ (X _ _ ho)) (aH q))
  ·cases z
 have L2:=vR (M:=M) X k.base;have L3:=vR (M:=M) X hs;have L4:jT M hp (isExcClass (.ref B)) true:=L1.andThen (by rw[if_pos rfl];exact L2)
 have L5:jT M hp (typeOf (.ref a)) (.ref C):=(PySem.W.Looks.ld he).andThen (uV (by rw[hc]))
 unfold excMatches;refine aA (L0.at ?_);simp only[jN,if_false];refine aA (aH ?_);simp only[pR,qK];refine aA (aA (aA (L4.at ?_)));rw[if_neg (by simp)]
 refine aH (aH (aA (L5.at (aA (aA (aA (L3.at ?_)))))));cases b with
 | true =>
  rw[if_pos rfl];exact aH (aH (aH h))
 | false =>
  rw[if_neg dG];exact aH (aH (aH h))
end
end L2
namespace Dn
open L2 Mn
def aj5(c0 c:Str):Bool:=c0==c||c == "ArrowError" || c == "ValueError"
def clsAt(K:Fg9)(c:Str):Option aZ:=match nsIn K bB c with
 | some (some (.ref C))=>some C
 | _=>none
def ajd(K:Fg9)(ns:List Str):Bool:=ns.all fun c0=>match clsAt K c0 with
 | some C0=>(ns.all fun c=>match clsAt K c with
  | some C=>gW K (.ref C0) (.ref C)==some (aj5 c0 c)
  | none=>false)&&gW K (.ref C0) (.type "ValueError")==some true
 | none=>false
theorem agk{K:Fg9}{c:Str}{C:aZ}(h:nsIn K bB c=some (some (.ref C))):clsAt K c=some C:=by
 unfold clsAt;rw[h]
theorem aoq{K:Fg9}{ns:List Str}{c0 c:Str}{C0 C:aZ}(h:ajd K ns=true)(h0:ns.contains c0=true)(h1:ns.contains c=true)(e0:nsIn K bB c0=some (some (.ref C0)))(e1:nsIn K bB c=some (some (.ref C))) :
  gW K (.ref C0) (.ref C)=some (aj5 c0 c):=by
 have z:=fQ.mp h c0 (dY.mp h0);rw[agk e0] at z;have z1:=fQ.mp (vM.mp z).1 c (dY.mp h1);rw[agk e1] at z1;exact beq_iff_eq.mp z1
theorem azp{K:Fg9}{ns:List Str}{c0:Str}{C0:aZ}(h:ajd K ns=true)(h0:ns.contains c0=true)(e0:nsIn K bB c0=some (some (.ref C0))):gW K (.ref C0) (.type "ValueError")=some true:=by
 have z:=fQ.mp h c0 (dY.mp h0);rw[agk e0] at z;exact beq_iff_eq.mp (vM.mp z).2
def gIsC(ns:List Str)(c:Str):D->Option D
 | .exn c0 _=>if ns.contains c0 then some (.bl (aj5 c0 c)) else none
 | _=>none
def mIsC(ns:List Str)(c:Str)(m:M D):M D:=m.bind fun d=>lift (gIsC ns c d)
section
variable{K:Fg9}{X:Cx}{e:dW}{pos p:Pos}
theorem amf{X:Cx}{cv:aG}{cV:V}(rc:∀u,RelV cV u->u=cv):abv X (.builtin "isinstance") (fun xs H Q=>∃F c0 fs x b,xs=[x,cV]/\Same F H/\Is X.K F (.exn c0 fs) x/\(∀C0,nsIn X.K bB c0=some (some (.ref C0))->gW X.K (.ref C0) cv=some b)/\Q (.bl b) H):=by
 intro zv s σ H xs us Q I r ⟨F,c0,fs,x,b,e,g,h,hk1,q⟩;subst e;obtain⟨u,w',rfl,r1,r2⟩:=vals2 r;obtain rfl:=rc w' r2;have fin:∀tk,EP X zv σ Q (.bool b) { s with toks:=tk }:=fun tk=>⟨.bl _,H,I.tok tk,rfl,q⟩
 cases h with
 | @exn a C c dx fs e hc hk hf =>
  cases(show u=dJ a from r1)
  obtain⟨⟨oe,ws,h1,h2,h3,h4⟩,_⟩:=(show xm X.prog X.w H s.heap a (.ext (exO a C dx)) from I.hok a _ (g _ _ e))
  have hno:nO oe=true:=by unfold nO;rw[h4]
  have ia:∃ox od,jK s.heap a ox C od:=by
   rcases hf with⟨rfl,_⟩ | ⟨d,rfl,hd⟩
   ·exact⟨oe,none,h1,h2,hno,by rw[h3];trivial⟩
   ·obtain⟨mA,⟨od,_,_,e1,_⟩,_⟩:=(show xm X.prog X.w H s.heap d (.xd _) from I.hok d _ (g _ _ hd))
    exact⟨oe,some od,h1,h2,hno,by rw[h3];exact e1⟩
  exact eH (apd hk) I.kIn ia (hk1 C hc) (fun z=>nomatch z) fin
theorem ayu{F H:Hp}{d:D}{v:V}{ns:List Str}{c:Str}{r:D}(b:Bor K F H d v)(e:gIsC ns c d=some r):∃c0 fs,d=.exn c0 fs/\Is K F (.exn c0 fs) v/\ns.contains c0=true/\r=.bl (aj5 c0 c):=by
 cases d with
 | exn c0 fs =>
  have e:(if ns.contains c0 then some (D.bl (aj5 c0 c)) else none)=some r:=e
  split at e
  ·rename_i hn;cases e;refine⟨c0,fs,rfl,?_,hn,rfl⟩;rcases b with b | ⟨_,_,_,z,_⟩
   ·exact b
   ·cases z
  ·cases e
 | _=>cases e
theorem a1q{ns:List Str}{c:Str}{C:aZ}{m:M D}{x:Str}{pc:Pos}(sub:ajd K ns=true)(h1:ns.contains c=true)(hgC:Gl X c)(hmC:X.mg c=some (.ref C))(hnC:nsIn K bB c=some (some (.ref C)))
  (hg:Gl X x) (hm:X.mg x=none) (hv:bT x=some (.builtin "isinstance")) (h:EB K X e m) (hdC:(c==("__debug__" : Str))=false:=by decide) (hn:x ≠ "__name__" := by decide) (hdb:(x==("__debug__" : Str))=false:=by decide)
  (h1':aX [.Name c pc] X.env=(false,eval (.Name c pc) X.env)::aX [] X.env:=by rfl) (he:aX [e,.Name c pc] X.env=(false,eval e X.env)::aX [.Name c pc] X.env:=by rfl) (hpl:(jB pos (aX [.Name c pc] X.env)).any (·.1)=false:=by rfl) :
  EV K X (.Call (.Name x p) [e,.Name c pc] [] pos) (mIsC ns c m):=EV.mk fun hk=>by
 refine PE.imp (aeg (amf (cv:=.ref C) (cV:=.ref C) fun u r=>r) hg hm hv (tu (h hk) (tu (a0e (v:=.ref C) hgC hmC rfl hdC) aeh h1') he) hn hdb he hpl) fun σ H Q ⟨tg,F,ρ,d,ρ',G,em,q⟩ =>?_
 obtain⟨d1,ρ1,e1,em⟩:=bw em;obtain⟨e2,rfl⟩:=ik em;subst hk;refine⟨tg,F,ρ,d1,_,G,e1,fun v H' F' G' x bv =>?_⟩
 obtain⟨c0,fs,rfl,hi,h0,rfl⟩:=ayu bv e2;exact⟨F',c0,fs,v,_,rfl,G'.sub,hi,fun C0 e0=>aoq sub h0 h1 e0 hnC,q _ H' F' G' x (.bl _)⟩
theorem aur{ns:List Str}{m:M D}{x:Str}{pc:Pos}(sub:ajd K ns=true)(hgC:Gl X "ValueError")(hmC:X.mg "ValueError" = none)(hvC:bT "ValueError" = some (.type "ValueError"))
  (hg:Gl X x) (hm:X.mg x=none) (hv:bT x=some (.builtin "isinstance")) (h:EB K X e m) (hn:x ≠ "__name__" := by decide) (hdb:(x==("__debug__" : Str))=false:=by decide)
  (h1':aX [.Name "ValueError" pc] X.env=(false,eval (.Name "ValueError" pc) X.env)::aX [] X.env:=by rfl) (he:aX [e,.Name "ValueError" pc] X.env=(false,eval e X.env)::aX [.Name "ValueError" pc] X.env:=by rfl) (hpl:(jB pos (aX [.Name "ValueError" pc] X.env)).any (·.1)=false:=by rfl) :
  EV K X (.Call (.Name x p) [e,.Name "ValueError" pc] [] pos) (mIsC ns "ValueError" m):=EV.mk fun hk=>by
 refine PE.imp (aeg (amf (cv:=.type "ValueError") (cV:=.ty "ValueError") fun u r=>r) hg hm hv (tu (h hk) (tu (aqj hgC hmC hvC) aeh h1') he) hn hdb he hpl) fun σ H Q ⟨tg,F,ρ,d,ρ',G,em,q⟩ =>?_
 obtain⟨d1,ρ1,e1,em⟩:=bw em;obtain⟨e2,rfl⟩:=ik em;subst hk;refine⟨tg,F,ρ,d1,_,G,e1,fun v H' F' G' x bv =>?_⟩
 obtain⟨c0,fs,rfl,hi,h0,rfl⟩:=ayu bv e2;refine⟨F',c0,fs,v,aj5 c0 "ValueError", rfl,G'.sub,hi,fun C0 e0 =>?_,q _ H' F' G' x (.bl _)⟩
 rw[azp sub h0 e0];simp[aj5]
end
theorem ae1:bT "ValueError" = some (.type "ValueError"):=by decide +kernel
@[simp] theorem a80(ns:List Str)(c:Str)(m:M D)(ρ:Ro):mIsC ns c m ρ=(m.bind fun d=>lift (gIsC ns c d)) ρ:=rfl
@[simp] theorem a7i(ns:List Str)(c c0:Str)(fs:List (Str×Int)):gIsC ns c (.exn c0 fs)=if ns.contains c0 then some (.bl (aj5 c0 c)) else none:=rfl
end Dn
namespace L2
structure RoomU (k:Nat) (A:cQ):Prop where
 dp:A.depth+3*k+5 < recursionLimit
 un:A.units+16*k+200 < cLine
 gd:A.guards=some []
theorem RoomU.mono{j k:Nat}{A:cQ}(r:RoomU k A)(h:j<=k):RoomU j A:=⟨by have:=r.dp;omega,by have:=r.un;omega,r.gd⟩
theorem RoomU.deeper{k:Nat}{A:cQ}(r:RoomU (k+1) A)(env:Env):RoomU k (A.deeper env) :=
 ⟨by have:=r.dp;show A.depth+1+3*k+5 < _;omega,by have:=r.un;show A.units+3+16*k+200 < _;omega,r.gd⟩
theorem RoomU.depth{k:Nat}{A:cQ}(r:RoomU k A):A.depth < recursionLimit:=by have:=r.dp;omega
theorem RoomU.units{k:Nat}{A:cQ}(r:RoomU k A):A.units+64 < cLine:=by have:=r.un;omega
theorem Room.mark{k:Nat}{A:cQ}(r:Room k A)(e:aG):RoomU k (A.mark (some e)):=⟨r.dp,r.un,r.gd⟩
def cxU(P:cF)(w:dR)(K:Fg9)(mg:Str->Option aG)(base:fH)(N:List Str)(qual:Str)(scope:lX)(f:aZ)(cd:aG)(A:cQ)(outer:List Env)(s:aJ)(H:Hp):Cx :=
 { (cxOf CX0 P w K mg base N qual scope f cd A outer s H E0).nox with calm:=false }
structure FnOkU (P:cF) (w:dR) (K:Fg9) (mg:Str->Option aG) (base:fH) (k:Nat) (f:aZ) (fd:fX) (ps:List Str) (sp:Sp):Prop where
 len:∀vs H Q E,sp vs H Q E->vs.length=ps.length
 run:∀(A:cQ) (outer:List Env) (s:aJ) (H:Hp) (args:Args) (us:List aG) (vs:List V) (Q:VK),RoomU k A->Env0 P w K mg base A outer s H->pA s fd args (ps.zip us)->Vals vs us->sp vs H Q E0 ->
  oK (bR P w) A (.call (.ref f) args) (CR CX0 outer P w H s Q E0) s
theorem Fun.okU{P:cF}{w:dR}{K:Fg9}{mg:Str->Option aG}{base:fH}{x qual:Str}{st:iM}{f:aZ}{fd:fX}{N ps:List Str}{k:Nat}{sp:Sp}(F:Fun K x qual st f fd)(S:FnScope N ps (au st))(len:∀vs H Q E,sp vs H Q E->vs.length=ps.length)
  (hbody:∀(cdv:aG) (A:cQ) (outer:List Env) (s:aJ) (H:Hp) (vs:List V) (Q:VK),RoomU k (A.deeper (pB qual (au st) s.heap.objs.size f cdv))->sp vs H Q E0 ->
   ∃t,PSs (cxU P w K mg base N qual (au st) f cdv A outer s H) (jm st) t/\t { nx:=fun _ H'=>Q .non H',rt:=Q } (start N vs) H):FnOkU P w K mg base (k+1) f fd ps sp:=by
 obtain⟨oc,od,kV,doc,pm,an,cdv,ct,osl,rfl,lk,hcd⟩:=F.ex;refine⟨len,fun A outer s H args us vs Q hr e0 hb r hsp =>?_⟩
 have hl:=len _ _ _ _ hsp;have KX:K.In s.heap:=e0.mod.kin.keeps fun b o e=>(e0.bs b o e).1
 have lim:s.heap.NoLimit:=e0.mod.nolimit.keeps fun b o e=>(e0.bs b o e).1
 have hkind:∀y∈ps.zip us,(au st).names.lookup y.1=some .local∨((au st).names.lookup y.1=some .cell/\((cellsFrom (s.heap.objs.size+1) (au st).names []).lookup y.1).isSome=true):=fun y hy=>by
  rcases S.par y.1 (pN hy).1 with q | q
  ·exact .inl q
  ·exact .inr ⟨q,pF _ _ _ (.inl q)⟩
 refine codeAny_call_function hr.depth (KX _ _ lk) rfl S.co S.gen rfl (wD KX hcd) (hb _ _ _ _ ?_);refine wpAny_newFunctionEnv_cells S.kind hkind fun env he s1 x =>?_
 subst he;refine⟨lim.keeps x.toInCall.keep,codeAny_func ?_⟩;obtain⟨t,ht,hq⟩:=hbody cdv A outer s H vs Q (hr.deeper _) hsp;have e1:Env0 P w K mg base { A with handled:=none } outer s H:=⟨e0.frames,e0.mod,e0.bs,e0.bsz,e0.funs,e0.frf,e0.hok,e0.bare⟩
 have J:Inv (cxOf CX0 P w K mg base N qual (au st) f cdv { A with handled:=none } outer s H E0) [] (start N vs) H s1:=alz S rfl e1 hl r x
 have I:Inv (cxU P w K mg base N qual (au st) f cdv A outer s H) [] (start N vs) H s1 :=
  ⟨⟨J.ok.mod,J.ok.kind,J.ok.glob,J.ok.blt,J.ok.above,J.ok.inj,J.ok.has,J.ok.cab,(fun z=>absurd z dG),vN e0.frames,J.ok.stk,J.ok.exf,J.ok.bs,J.ok.bsz,J.ok.noex,J.ok.exfs,J.ok.funs,J.ok.frf⟩,J.os,J.bare,J.base,J.loc,J.cell,J.free,J.freeC,J.pin,J.hok,J.len⟩
 refine bC (ht [] s1 (start N vs) H _ I hq) (fun fl s' hs =>?_) fun e s' hs=>fK hs
 have fin:∀{σ':St} {H':Hp} {v:V} {u:aG},Inv (cxU P w K mg base N qual (au st) f cdv A outer s H) [] σ' H' s'->RelV v u->Q v H'->CE outer P w H s Q u s' :=
  fun{σ' H' v u} J rv q=>⟨v,H',J.os,J.bare,J.base,J.hok,rv,q⟩
 cases fl with
 | ret u =>
  obtain⟨v,σ',H',J,rv,q⟩:=hs;exact fin J rv q
 | next =>
  obtain⟨σ',H',J,q⟩:=hs;exact fin (v:=V.non) (u:=cT) J rfl q
 | brk =>
  obtain⟨_,_,_,q⟩:=hs;exact fK q
 | cont =>
  obtain⟨_,_,_,q⟩:=hs;exact fK q
def DfnU(P:cF)(w:dR)(K:Fg9)(mg:Str->Option aG)(base:fH)(x:Str)(ps:List Str)(k:Nat)(sp:Sp):Prop :=
 ∃(f:aZ) (fd:fX),FnOkU P w K mg base k f fd ps sp/\mg x=some (.ref f)/\nY K (.ref f)=true/\Binds K fd ps []
theorem a4d{X:Cx}{x:Str}{ps:List Str}{k:Nat}{sp:Sp}{e:dW}{es:List dW}{t:TA}{p pos:Pos}(F:DfnU X.prog X.w X.K X.mg X.base x ps k sp)(hr:RoomU k X.A)(hg:Gl X x)(ha:PA X (e::es) t)(hdb:(x==("__debug__" : Str))=false:=by decide)
  (he:aX (e::es) X.env=(false,eval e X.env)::aX es X.env:=by rfl) (hpl:(jB pos (aX es X.env)).any (·.1)=false:=by rfl):PE X (.Call (.Name x p) (e::es) [] pos) (azn sp [] E0 t):=by
 obtain⟨f,fd,F,hm,hk,hb⟩:=F;intro zv s σ H Q I h;refine wpAny_Call_Name_kw (adu I hg hm ?_ hdb);refine nA (h₀:=X.base) I.ok.mod.kin hk (thn (ha pos zv s σ H _ I h) fun us s1 ⟨vs,H1,I1,r,q⟩=>⟨I1.kIn,?_⟩) he hpl
 have q:sp (vs++[]) H1 Q E0:=q;rw[fO] at q;have hl:(us++[]).length=ps.length:=by rw[fO,<-r.length];exact F.len _ _ _ _ q
 have hbn:=hb s1 us I1.kIn hl;rw[fO] at hbn;refine mO (lC (F.run X.A X.stack s1 H1 ⟨[]++us,[]⟩ us vs Q hr I1.env0 hbn r q) fun r s' hq =>?_)
 cases r with
 | error e=>exact fK hq
 | ok fl =>
  cases fl with
  | ret u=>exact I1.after hq
  | next=>exact fK hq
  | brk=>exact fK hq
  | cont=>exact fK hq
end L2
namespace Dn
open L2 Mn
theorem a6a{K:Fg9}{X:Cx}{e:dW}{es:List dW}{pos p:Pos}{f:Fd}{n k:Nat}{x:Str}{pn:List Str}{js:List (Option Nat)}{ms:M (List (Option D))}(F:DfnU X.prog X.w X.K X.mg X.base x pn k (spOf K n f))(hr:RoomU k X.A)(hg:Gl X x)(ha:EG K X (e::es) js ms)(hn:js.length=n:=by rfl)(hdb:(x==("__debug__" : Str))=false:=by decide)
  (he:aX (e::es) X.env=(false,eval e X.env)::aX es X.env:=by rfl) (hpl:(jB pos (aX es X.env)).any (·.1)=false:=by rfl):ER K X (.Call (.Name x p) (e::es) [] pos) (mFn f js ms):=ER.mk fun hk=>PE.imp (a4d F hr hg (ha hk) hdb he hpl) fun σ H Q hq0=>by
 obtain⟨tg,F,ρ,r,ρ',G,em,q⟩:=hq0;obtain⟨ds,ρ1,ps,e1,hj,e2,rfl⟩:=ayk em;refine⟨tg,F,ρ,ds,ρ1,G,e1,fun vs H1 F1 G1 x1 ar =>?_⟩
 have L:=ar.lent;show spOf K n f (vs++[]) H1 Q E0;rw[fO];refine⟨by rw[ar.length];exact hn,F1,_,r,ps,acd G1 hj L,e2,fun v H' F' O' s' x' fin rr =>?_⟩
 exact q v H' F' (ae4 G1 L x' s' fin) (x1.trans (agm G1 L x')) (ou x1 (apw G1 L fin rr))
theorem a1m{K:Fg9}{P:cF}{w:dR}{mg:Str->Option aG}{base:fH}{x qual:Str}{st:iM}{f:aZ}{fd:fX}{N ps:List Str}{k nl np:Nat}{g:Sd}(F:Fun K x qual st f fd)(S:FnScope N ps (au st))(h1:N.length=nl)(h2:ps.length=np)
  (body:∀(cdv:aG) (A:cQ) (outer:List Env) (s:aJ) (H:Hp),RoomU k (A.deeper (pB qual (au st) s.heap.objs.size f cdv))->SVs K (cxU P w K mg base N qual (au st) f cdv A outer s H) (jm st) g) :
  FnOkU P w K mg base (k+1) f fd ps (spOf K np (fnD nl np g)):=by
 subst h1 h2;refine F.okU S (fun vs H Q E h=>h.1) fun cdv A outer s H vs Q hr h=>⟨_,body cdv A outer s H hr rfl,?_⟩
 obtain⟨hn,F,as,r,ps',G,em,q⟩:=h;have hl:as.length=(vs.map some).length:=G.len;have G1:=G.app (N.length - vs.length);have es:start N vs=vs.map some++aU (N.length - vs.length) none:=rfl;rw[es];unfold fnD at em;rw[<-hn] at em;have fin:∀{ρ':Ro} {σ':L2.St} {F' H':Hp},Good K (tgOf (vs.map some)) F' H' ρ' σ'->Fin K F' H' (vs.map some) (ρ'.take vs.length) (Own ρ' σ'):=fun{ρ' σ' F' H'} G'=>⟨fun i l e=>by
  have hi:=(aQ.mp e).1;rw[gM] at hi;rw[lH (by omega)] at e
  obtain⟨o,ho,a,ws,rfl,hf,hh,hl,ht⟩:=G'.at e;rw[ht i rfl];exact⟨⟨i,⟨_,_,e⟩,ho⟩,hf,ws,hh,hl⟩⟩
 split at em
 ·rename_i r' ρ' e;cases em;refine⟨_,F,_,.ret r,ρ',G1,e,fun v σ' H' F' G' x' rr =>?_⟩
  rw[aav hl] at x' rr;exact q v H' F' (Own ρ' σ') G'.sub x' (fin G') rr
 ·rename_i ρ' e;cases em;refine⟨_,F,_,.nx,ρ',G1,e,fun σ' H' F' G' x' =>?_⟩
  rw[aav hl] at x';exact q .non H' F' (Own ρ' σ') G'.sub x' (fin G') .non
 ·cases em
 ·cases em
def cxH(X:Cx)(ev:aG):Cx:={ X with A:=X.A.mark (some ev),calm:=false }
section
variable{K:Fg9}{X:Cx}{zv:List (aZ×Obj)}{σ:L2.St}{H:Hp}{s:aJ}{tg:Nat->aZ}{F:Hp}{ρ:Ro}
theorem Inv.hnd(I:Inv X zv σ H s)(ev:aG):Inv (cxH X ev) zv σ H s :=
 ⟨⟨I.ok.mod,I.ok.kind,I.ok.glob,I.ok.blt,I.ok.above,I.ok.inj,I.ok.has,I.ok.cab,(fun z=>absurd z dG),I.ok.frames,I.ok.stk,I.ok.exf,I.ok.bs,I.ok.bsz,I.ok.noex,I.ok.exfs,I.ok.funs,I.ok.frf⟩,I.os,I.bare,I.base,I.loc,I.cell,I.free,I.freeC,I.pin,I.hok,I.len⟩
theorem Inv.unhnd{ev:aG}(hd:X.calm=true->X.A.handled=none)(I:Inv (cxH X ev) zv σ H s):Inv X zv σ H s :=
 ⟨⟨I.ok.mod,I.ok.kind,I.ok.glob,I.ok.blt,I.ok.above,I.ok.inj,I.ok.has,I.ok.cab,hd,I.ok.frames,I.ok.stk,I.ok.exf,I.ok.bs,I.ok.bsz,I.ok.noex,I.ok.exfs,I.ok.funs,I.ok.frf⟩,I.os,I.bare,I.base,I.loc,I.cell,I.free,I.freeC,I.pin,I.hok,I.len⟩
theorem Inv.track{a:aZ}{o:HO}(I:Inv X zv σ H s)(f:FpX X zv H a)(new:xm X.prog X.w (upd H a o) s.heap a o):Inv X zv σ (upd H a o) s:=by
 have ne:∀b z,H b=some z->b≠a:=fun b z q w=>by rw[w,f.1] at q;cases q
 refine⟨I.ok,I.os,I.bare,⟨I.base.keep,I.base.slot,fun b o' e n hx =>?_,I.base.there,fun b xs q =>?_,fun b ob u q =>?_,fun b ps q =>?_⟩,I.loc,I.cell,?_,fun x c e =>?_,fun p hp =>?_,fun b u e =>?_,I.len⟩
 ·rw[cu (fun w=>by
   rcases f.2.2.2.1 with z | z
   ·exact hx (w▸z)
   ·rw[w,z] at e;cases e)]
  exact I.base.free b o' e n hx
 ·have:=I.base.tups b xs q;rw[cu (ne _ _ this)];exact this
 ·have:=I.base.frzs b ob u q;rw[cu (ne _ _ this)];exact this
 ·obtain⟨more,h1⟩:=I.base.tbls b ps q;exact⟨more,by rw[cu (ne _ _ h1)];exact h1⟩
 ·rw[cu (fU f.2.1)];exact I.free
 ·rw[cu (f.2.2.2.2.1 x c e)];exact I.freeC x c e
 ·obtain⟨h1,h2,h3,h4,h5⟩:=I.pin p hp;exact⟨h1,by rw[cu (f.2.2.2.2.2 p hp)];exact h2,h3,h4,h5⟩
 ·by_cases hb:b=a
  ·subst hb;rw[gw] at e;cases e;exact new
  ·rw[cu hb] at e;refine(I.hok b u e).stay (fun c v _ q=>q) (fun c q =>?_) fun c xs q =>?_
   ·rw[cu (ne _ _ q)];exact q
   ·rw[cu (ne _ _ q)];exact q
theorem aqk{i:Nat}{a:aZ}{σ':L2.St}(hs:∀j,j≠i->σ'[j]? = σ[j]?)(h:Own (dC ρ i .emp) σ' a):Own ρ σ a:=by
 obtain⟨j,⟨t,l,e⟩,q⟩:=h;rw[bG] at e
 by_cases hj:i=j
 ·subst hj;rw[if_pos rfl] at e;split at e <;> cases e
 ·rw[if_neg hj] at e;exact⟨j,⟨t,l,e⟩,by rw[<-hs j (fU hj)];exact q⟩
theorem Good.forget(G:Good K tg F H ρ σ)(i:Nat):Good K tg F H (dC ρ i .emp) (dC σ i none) where
 sub:=G.sub
 len:=by rw[dD,dD];exact G.len
 sl:=fun j s o e q=>by
  rw[bG] at e q
  by_cases hj:i=j
  ·subst hj;rw[if_pos rfl] at e;split at e
   ·cases e;trivial
   ·cases e
  ·rw[if_neg hj] at e q;exact G.sl j s o e q
 inj:=fun j k a ⟨⟨t,l,e⟩,q⟩ ⟨⟨t',l',e'⟩,q'⟩=>by
  have f:∀{j t l},(dC ρ i Sl.emp)[j]? = some (Sl.own t l)->i≠j:=fun{j t l} e z=>by
   subst z;rw[bG,if_pos rfl] at e;split at e <;> cases e
  have n1:=f e;have n2:=f e';rw[bG,if_neg n1] at e q;rw[bG,if_neg n2] at e' q';exact G.inj j k a ⟨⟨t,l,e⟩,q⟩ ⟨⟨t',l',e'⟩,q'⟩
theorem Ext.less{O O' O2:aZ->Prop}{F H F' H':Hp}(x:Ext O O' F H F' H')(h:∀a,O2 a->O' a):Ext O O2 F H F' H':=⟨x.sub,x.new,x.keep,fun a z=>x.own a (h a z),x.there⟩
theorem asp{O O' O2:aZ->Prop}{F' H H':Hp}{r:Rv}{v:V}(x:relR K r v H O F' H' O')(h:∀a,O2 a->O' a):relR K r v H O F' H' O2:=by
 cases r with
 | v d=>exact x
 | fr l =>
  obtain⟨a,vs,e1,e2,e3,e4,e5,e6⟩:=x;exact⟨a,vs,e1,e2,e3,e4,e5,fun z=>e6 (h a z)⟩
 | tf d l =>
  obtain⟨t,u,a,vs,e0,e1,e2,e3,e4,e5,e6,e7⟩:=x;exact⟨t,u,a,vs,e0,e1,e2,e3,e4,e5,e6,fun z=>e7 (h a z)⟩
end
def dTry(ns:List Str)(gb:Sd)(i:Nat)(gh:Sd):Sd:=fun ρ=>match gb ρ with
 | some (.exc x,ρ1)=>if ns.contains x.cls then match gh (dC ρ1 i (.val (.exn x.cls x.fs))) with
   | some (.exc _,_)=>none
   | some (fl,ρ2)=>some (fl,dC ρ2 i .emp)
   | none=>none
  else none
 | r=>r
structure CatN (K:Fg9) (B:aZ):Prop extends CatK K B where
 ns:nsIn K bB "ArrowError" = some (some (.ref B))
 self:gU K (.ref B) (.ref B)=some true
theorem ap8{K:Fg9}{C B:aZ}(k:CatN K B)(h:gW K (.ref C) (.ref B)=some true):gU K (.ref C) (.ref B)=some true:=by
 by_cases e:C=B
 ·rw[e];exact k.self
 ·have h1:(if (dJ C==dJ B)=true then some true else yZ K (.ref C) (.ref B))=some true:=h
  rw[if_neg (fun z=>e (zG (beq_iff_eq.mp z)))] at h1
  have h2:(if ((lM K B).isSome&&qJ K (.ref B)==some (.type "type"))=true then gU K (.ref C) (.ref B) else none)=some true:=h1
  split at h2
  ·exact h2
  ·cases h2
def a94(K:Fg9)(tg:Nat->aZ)(ρ:Ro)(σ:L2.St)(F H:Hp)(ρ2:Ro)(fl:Fl):Ends where
 nx:=fun σ6 H6=>fl=.nx/\∃F6,Good K tg F6 H6 ρ2 σ6/\Ext (Own ρ σ) (Own ρ2 σ6) F H F6 H6
 bk:=fun σ6 H6=>fl=.brk/\∃F6,Good K tg F6 H6 ρ2 σ6/\Ext (Own ρ σ) (Own ρ2 σ6) F H F6 H6
 ct:=fun σ6 H6=>fl=.cont/\∃F6,Good K tg F6 H6 ρ2 σ6/\Ext (Own ρ σ) (Own ρ2 σ6) F H F6 H6
 rt:=fun v H6=>∃r σ6 F6,fl=.ret r/\Good K tg F6 H6 ρ2 σ6/\Ext (Own ρ σ) (Own ρ2 σ6) F H F6 H6/\relR K r v H (Own ρ σ) F6 H6 (Own ρ2 σ6)
section
variable{K:Fg9}{X:Cx}{pos hpos bp:Pos}{n:Str}{B:aZ}{i:Nat}{b₀:iM}{body suite:List iM}{ns:List Str}{gb gh:Sd}
theorem a2z(hcalm:X.calm=true)(hno:X.xe=fun _ _=>False)(hfr:X.env.frame=some X.env.locals)(hst:X.stack=X.env::X.outer)(hN:X.N.Nodup)(hi:X.N[i]? = some n)(hk0:X.env.scope.names.lookup n=some .local)
  (hgB:Gl X "ArrowError") (hmB:X.mg "ArrowError" = some (.ref B)) (cat:CatN K B) (sub:ajd K ns=true) (hB:ns.contains "ArrowError" = true) (hb:SVs K X body gb) (hx:XSs K X body gb) (hh:∀ev,SVs K (cxH X ev) (b₀::suite) gh) :
  SV K X (.Try body [.ExceptHandler (some (.Name "ArrowError" bp)) (some n) (b₀::suite) hpos] [] [] pos) (dTry ns gb i gh):=SV.mk fun hk zv s σ H E I hq0=>by
 obtain⟨tg,F,ρ,fl,ρ',G,em,q⟩:=hq0;refine wpAny_Try_except ?_;unfold dTry at em;split at em
 ·rename_i x ρ1 e1;split at em
  ·rename_i hc0;split at em
   ·cases em
   ·rename_i fl' ρ2 hne e2;cases em;refine bC (hx.go hk hno zv s σ H tg F ρ x ρ1 I G (vh.mpr e1)) (fun _ _ z=>z.elim) fun er s1 ⟨σ1,H1,F1,I1,G1,x1,a,C,dx,ch,ea,hc,hf,fly,hch⟩ =>?_
    subst ea;have hl1:=I1.stack;rw[hst] at hl1;refine atb (by rw[<-hst];exact I1.ok.frames) hl1 hfr fly fun h2 ch2 hne2 hch2 kb2 fly2 =>?_
    rw[<-hst] at kb2;have I2:=Inv.records I1 kb2 hch;have fp2:∀b∈ch2,FpX X zv H1 b:=fun b hb=>by
     rcases hch2 b hb with z | z
     ·exact hch b z
     ·exact Inv.fpX I1 (kI z) (I1.hok.fresh z)
    obtain⟨oe,vs,he,hcl,_⟩:=(fly2 X.env.locals).obj;have hsub:=ap8 cat (by have z:=aoq sub hc0 hB hc.ns cat.ns;rw[z];simp[aj5])
    refine wpAny_handleBy_cons (codeAny_handlers_test (adu (X:=cxH X (.ref a)) (Inv.hnd I2 _) hgB hmB ?_ (by decide))) (by intro z;cases z)
    refine aw2 (hk▸I2.kIn) cat.toCatK he hcl hsub ?_;refine codeAny_handlers_suite_as ?_;refine azh (fs:=frs X.stack) (fly2 X.env.locals) hne2 fun h3 kb3 fly3 ha3 =>?_
    have I3:=Inv.records I2 kb3 fp2;obtain⟨oe3,vs3,he3,hcl3,hdx3,hd3,_⟩:=(fly3 X.env.locals).obj;have fa:FpX X zv H1 a:=fp2 a (fly2 X.env.locals).fresh;have I4:=Inv.track (o:=.ext (exO a C dx)) I3 fa ⟨⟨oe3,vs3,he3,hcl3,hdx3,hd3⟩,⟨oe3,he3⟩,fun g1 g2 ⟨o,vs',h1,h2,h3,h4⟩ kp=>⟨o,vs',kp o h1,h2,h3,h4⟩⟩
    have G4:=G1.new fa.1 (.ext (exO a C dx));have x4:=G1.newX fa.1 (.ext (exO a C dx));have isE:Is K (upd F1 a (.ext (exO a C dx))) (.exn x.cls x.fs) (.ref a):=.exn gw hc.ns hc.ok (hf.imp id fun⟨d,h1,h2⟩=>⟨d,h1,x4.sub _ _ h2⟩)
    obtain⟨G5,x5⟩:=G4.storeV i isE;refine acp I4 hN hi (.inl hk0) (v:=.ref a) rfl (fun s5 I5 =>?_) (.inr hk0)
    have hx5:=(x1.trans x4).trans x5;have back:∀{f:Flow} {s6:aJ} {σ6:L2.St} {H6:Hp},Inv (cxH X (.ref a)) zv σ6 H6 s6->(∀s7,Inv X zv (dC σ6 i none) H6 s7->SP X zv E f s7) ->
      bK (bR X.prog X.w) X.A (do bindName X.env n .none;unbindBehindTheSuite X.env n hpos) (fun _ s7=>SP X zv E f s7) X.xe s6:=fun{f s6 σ6 H6} I6 fin=>by
     have I6:=Inv.unhnd I.ok.hd I6;refine aA (wpAny_bindName (acp I6 hN hi (.inl hk0) (v:=.non) rfl (fun s7 I7 =>?_) (.inr hk0)))
     unfold unbindBehindTheSuite;refine wpAny_onRaise (a6c I7 hN hi hk0 (v:=.non) (lW (by rw[I6.len];exact(aQ.mp hi).1)) fun s8 I8=>fin s8 ?_)
     rw[uY] at I8;exact I8
    refine bC ((hh (.ref a)).go hk zv s5 _ _ (a94 K tg ρ σ F H ρ2 fl) (Inv.hnd I5 (.ref a))
      ⟨tg,_,_,fl,ρ2,G5,e2,?_⟩) (fun f s6 hs =>?_) fun _ _ z=>by
       have z:X.xe _ _:=z;rw[hno] at z;exact z.elim
    ·cases fl with
     | nx=>exact fun σ6 H6 F6 G6 x6=>⟨rfl,F6,G6,hx5.trans x6⟩
     | brk=>exact fun σ6 H6 F6 G6 x6=>⟨rfl,F6,G6,hx5.trans x6⟩
     | cont=>exact fun σ6 H6 F6 G6 x6=>⟨rfl,F6,G6,hx5.trans x6⟩
     | ret r=>exact fun v σ6 H6 F6 G6 x6 rr=>⟨r,σ6,F6,rfl,G6,hx5.trans x6,ou hx5 rr⟩
     | exc y=>exact(hne y rfl).elim
    ·have sub6:∀(σ6:L2.St) (a:aZ),Own (dC ρ2 i .emp) (dC σ6 i none) a->Own ρ2 σ6 a:=fun σ6 a z=>aqk (fun j hj=>mJ (fU hj)) z
     cases f with
     | next =>
      obtain⟨σ6,H6,I6,rfl,F6,G6,x6⟩:=hs;exact back I6 fun s7 I7=>⟨_,H6,I7,q _ H6 F6 (G6.forget i) (x6.less (sub6 σ6))⟩
     | brk =>
      obtain⟨σ6,H6,I6,rfl,F6,G6,x6⟩:=hs;exact back I6 fun s7 I7=>⟨_,H6,I7,q _ H6 F6 (G6.forget i) (x6.less (sub6 σ6))⟩
     | cont =>
      obtain⟨σ6,H6,I6,rfl,F6,G6,x6⟩:=hs;exact back I6 fun s7 I7=>⟨_,H6,I7,q _ H6 F6 (G6.forget i) (x6.less (sub6 σ6))⟩
     | ret u =>
      obtain⟨v,σ6,H6,I6,rv,r,σ6',F6,rfl,G6,x6,rr⟩:=hs;exact back I6 fun s7 I7=>⟨v,_,H6,I7,rv,q v _ H6 F6 (G6.forget i) (x6.less (sub6 σ6')) (asp rr (sub6 σ6'))⟩
   ·cases em
  ·cases em
 ·rename_i hn;refine bC (hb.go hk zv s σ H E I ⟨tg,F,ρ,fl,ρ',G,em,q⟩) (fun f s1 z =>?_) fun er s1 z=>by rw[hno] at z;exact z.elim
  cases f with
  | next=>exact wpAny_execs_nil z
  | ret v=>exact z
  | brk=>exact z
  | cont=>exact z
end
def okS{α:Type}(m:M α):M α:=fun ρ=>match m ρ with
 | some (.ok a,ρ1)=>some (.ok a,ρ1)
 | _=>none
def dOk(g:Sd):Sd:=fun ρ=>match g ρ with
 | some (.exc _,_)=>none
 | r=>r
@[simp] theorem a99{α:Type}(m:M α)(ρ:Ro):okS m ρ=match m ρ with
 | some (.ok a,ρ1)=>some (.ok a,ρ1)
 | _=>none:=rfl
@[simp] theorem bal(g:Sd)(ρ:Ro):dOk g ρ=match g ρ with
 | some (.exc _,_)=>none
 | r=>r:=rfl
theorem ali{α:Type}{m:M α}{ρ ρ':Ro}{o:Out α}(h:okS m ρ=some (o,ρ')):m ρ=some (o,ρ')/\∃a,o=.ok a:=by
 unfold okS at h;split at h
 ·rename_i a ρ1 e;cases h;exact⟨e,a,rfl⟩
 ·cases h
theorem ayz{g:Sd}{ρ ρ':Ro}{fl:Fl}(h:dOk g ρ=some (fl,ρ')):g ρ=some (fl,ρ')/\∀x,fl≠.exc x:=by
 unfold dOk at h;split at h
 ·cases h
 ·rename_i hn;exact⟨h,fun x e=>hn x ρ' (by rw[h,e])⟩
theorem ph{α:Type}{m:M α}:NoX (okS m):=fun ρ x ρ' h=>by
 obtain⟨_,a,e⟩:=ali h;cases e
theorem a0v{g:Sd}:NoS (dOk g):=fun ρ x ρ' h=>(ayz h).2 x rfl
section
variable{K:Fg9}{X:Cx}{e a b c:dW}{es:List dW}{pos p:Pos}{st:iM}{ss:List iM}
theorem SV.s{g:Sd}(h:SV K X st g):SV K X st (dOk g):=SV.mk fun hk=>PS.imp (h.go hk) fun E σ H ⟨tg,F,ρ,fl,ρ',G,em,q⟩=>⟨tg,F,ρ,fl,ρ',G,(ayz em).1,q⟩
theorem EV.s{m:M D}(h:EV K X e m):EV K X e (okS m):=EV.mk fun hk=>PE.imp (h.go hk) fun σ H Q ⟨tg,F,ρ,d,ρ',G,em,q⟩=>⟨tg,F,ρ,d,ρ',G,(ali em).1,q⟩
theorem ER.s{m:M Rv}(h:ER K X e m):ER K X e (okS m):=ER.mk fun hk=>PE.imp (h.go hk) fun σ H Q ⟨tg,F,ρ,d,ρ',G,em,q⟩=>⟨tg,F,ρ,d,ρ',G,(ali em).1,q⟩
theorem ET.s{m:M Bool}(h:ET K X e m):ET K X e (okS m):=ET.mk fun hk=>fun zv s σ H Q I ⟨tg,F,ρ,d,ρ',G,em,q⟩=>h.go hk zv s σ H Q I ⟨tg,F,ρ,d,ρ',G,(ali em).1,q⟩
theorem EG.s{js:List (Option Nat)}{m:M (List (Option D))}(h:EG K X es js m):EG K X es js (okS m):=EG.mk fun hk=>PA.imp (h.go hk) fun σ H Q ⟨tg,F,ρ,d,ρ',G,em,q⟩=>⟨tg,F,ρ,d,ρ',G,(ali em).1,q⟩
theorem aja{x:Exn}:SV K X st (agb x):=SV.mk fun _=>PS.imp aoy fun E σ H hq0=>by
 obtain⟨tg,F,ρ,fl,ρ',G,em,q⟩:=hq0;cases em;exact(show False from q).elim
theorem ax9{g:Sd}:XS K X st (dOk g):=XS.no a0v
theorem XE.d{m:M Rv}(h:XE K X e m):XE K X e m.d:=⟨fun hk hn zv s σ H tg F ρ x ρ' I G em=>by
 rcases wg (lg.mp em) with em | ⟨_,_,_,em⟩
 ·exact h.go hk hn zv s σ H tg F ρ x ρ' I G (lg.mpr em)
 ·cases em⟩
theorem XE.v{m:M D}(h:XE K X e m):XE K X e m.v:=⟨fun hk hn zv s σ H tg F ρ x ρ' I G em=>by
 rcases wg (lg.mp em) with em | ⟨_,_,_,em⟩
 ·exact h.go hk hn zv s σ H tg F ρ x ρ' I G (lg.mpr em)
 ·cases em⟩
theorem agq{α:Type}{l:α}:XA K X [] (ret l):=XA.no fun ρ x ρ' h=>by cases h
theorem xa_v{m:M D}{js:List (Option Nat)}{ms:M (List (Option D))}(h:EV K X e m)(hx:XE K X e m)(t:XA K X es ms)(hs:aX (e::es) X.env=(false,eval e X.env)::aX es X.env:=by rfl):XA K X (e::es) (bu m ms):=⟨fun pos hk hn zv s σ H tg F ρ x ρ' I G em=>by
 rw[hs];refine nH ?_;rcases wg (lg.mp em) with em | ⟨d,ρ1,e1,em⟩
 ·exact bC (hx.go hk hn zv s σ H tg F ρ x ρ' I G (lg.mpr em)) (fun _ _ z=>z.elim) fun _ _ z=>z
 ·rcases wg em with em | ⟨_,_,_,em⟩
  ·refine bC (h.go hk zv s σ H (fun _ H1=>∃F1,Good K tg F1 H1 ρ1 σ/\Ext (Own ρ σ) (Own ρ1 σ) F H F1 H1) I ⟨tg,F,ρ,d,ρ1,G,e1,fun v H1 F1 G1 x1 _=>⟨F1,G1,x1⟩⟩) (fun u s1 ⟨v,H1,I1,_,F1,G1,x1⟩ =>?_) fun e s1 q=>by rw[hn] at q;exact q.elim
   exact bC (t.go pos hk hn zv s1 σ H1 tg F1 ρ1 x ρ' I1 G1 (lg.mpr em)) (fun _ _ z=>z.elim) fun _ _ z=>z.back x1
  ·cases em⟩
theorem xa_n{j:Nat}{ms:M (List (Option D))}(h:PE X e (tVar j))(t:XA K X es ms)(hs:aX (e::es) X.env=(false,eval e X.env)::aX es X.env:=by rfl):XA K X (e::es) (gj j ms):=⟨fun pos hk hn zv s σ H tg F ρ x ρ' I G em=>by
 rw[hs];refine nH ?_;rcases wg (lg.mp em) with em1 | ⟨d,ρ1,e1,em2⟩
 ·exfalso;unfold dw at em1;split at em1 <;> cases em1
 ·obtain⟨hρ,v,hv,_⟩:=sy G e1;rw[hρ] at em2;rcases wg em2 with em3 | ⟨_,_,_,em3⟩
  ·refine bC (h zv s σ H (fun _ H1=>H1=H) I ⟨v,hv,rfl⟩) (fun u s1 ⟨_,H1,I1,_,e⟩ =>?_) fun e s1 q=>by rw[hn] at q;exact q.elim
   subst e;exact bC (t.go pos hk hn zv s1 σ H1 tg F ρ x ρ' I1 G (lg.mpr em3)) (fun _ _ z=>z.elim) fun _ _ z=>z
  ·cases em3⟩
theorem arl{m:M D}{ms:M (List D)}(h:EV K X e m)(hx:XE K X e m)(t:XA K X es ms)(hs:aX (e::es) X.env=(false,eval e X.env)::aX es X.env:=by rfl):XA K X (e::es) (bh m ms):=⟨fun pos hk hn zv s σ H tg F ρ x ρ' I G em=>by
 rw[hs];refine nH ?_;rcases wg (lg.mp em) with em | ⟨d,ρ1,e1,em⟩
 ·exact bC (hx.go hk hn zv s σ H tg F ρ x ρ' I G (lg.mpr em)) (fun _ _ z=>z.elim) fun _ _ z=>z
 ·rcases wg em with em | ⟨_,_,_,em⟩
  ·refine bC (h.go hk zv s σ H (fun _ H1=>∃F1,Good K tg F1 H1 ρ1 σ/\Ext (Own ρ σ) (Own ρ1 σ) F H F1 H1) I ⟨tg,F,ρ,d,ρ1,G,e1,fun v H1 F1 G1 x1 _=>⟨F1,G1,x1⟩⟩) (fun u s1 ⟨v,H1,I1,_,F1,G1,x1⟩ =>?_) fun e s1 q=>by rw[hn] at q;exact q.elim
   exact bC (t.go pos hk hn zv s1 σ H1 tg F1 ρ1 x ρ' I1 G1 (lg.mpr em)) (fun _ _ z=>z.elim) fun _ _ z=>z.back x1
  ·cases em⟩
theorem a2o{k}{ms:M (List D)}(h:XA K X es ms):XE K X (.Tuple es k pos) (mTup ms):=⟨fun hk hn zv s σ H tg F ρ x ρ' I G em=>by
 rcases wg (lg.mp em) with em | ⟨_,_,_,em⟩
 ·exact wpAny_Tuple_spliced (bC (h.go pos hk hn zv s σ H tg F ρ x ρ' I G (lg.mpr em)) (fun _ _ z=>z.elim) fun _ _ z=>z)
 ·unfold lift at em;split at em <;> cases em⟩
end
section
variable{K:Fg9}{X:Cx}{e:dW}{es:List dW}{pos p:Pos}
end
def ClsT(K:Fg9)(mg:Str->Option aG)(c:Str):Prop:=∃C,mg c=some (.ref C)/\ClsOk K c C
def RaiT(K:Fg9)(mg:Str->Option aG)(c:Str):Prop:=∃C,mg c=some (.ref C)/\ClsOk K c C/\oM K C bmV "ValueError.__new__" = true
def CatT(K:Fg9)(mg:Str->Option aG):Prop:=∃B,mg "ArrowError" = some (.ref B)/\CatN K B
section
variable{K:Fg9}{X:Cx}{e:dW}{pos p np cpos hpos bp:Pos}{c:Str}
theorem ago(hk:X.K=K)(hcalm:X.calm=true)(hg:Gl X c)(h:RaiT K X.mg c)(hd:(c==("__debug__" : Str))=false:=by decide):XS K X (.Raise (some (.Call (.Name c np) [] [] cpos)) none pos) (agb ⟨c,[]⟩):=by
 obtain⟨C,hm,k,q⟩:=h;subst hk;exact ark hcalm hg hm k q hd
theorem jr{ns:List Str}{m:M D}{x:Str}{pc:Pos}(sub:ajd K ns=true)(h1:ns.contains c=true)(hgC:Gl X c)(hC:ClsT K X.mg c)(hg:Gl X x)(hm:X.mg x=none)(hv:bT x=some (.builtin "isinstance"))(h:EB K X e m)
  (hdC:(c==("__debug__" : Str))=false:=by decide) (hn:x ≠ "__name__" := by decide) (hdb:(x==("__debug__" : Str))=false:=by decide)
  (h1':aX [.Name c pc] X.env=(false,eval (.Name c pc) X.env)::aX [] X.env:=by rfl) (he:aX [e,.Name c pc] X.env=(false,eval e X.env)::aX [.Name c pc] X.env:=by rfl) (hpl:(jB pos (aX [.Name c pc] X.env)).any (·.1)=false:=by rfl) :
  EV K X (.Call (.Name x p) [e,.Name c pc] [] pos) (mIsC ns c m):=by
 obtain⟨C,hmC,k⟩:=hC;exact a1q sub h1 hgC hmC k.ns hg hm hv h hdC hn hdb h1' he hpl
theorem azo{n:Str}{i:Nat}{b₀:iM}{body suite:List iM}{ns:List Str}{gb gh:Sd}(hcalm:X.calm=true)(hno:X.xe=fun _ _=>False)(hfr:X.env.frame=some X.env.locals)(hst:X.stack=X.env::X.outer)(hN:X.N.Nodup)(hi:X.N[i]? = some n)(hk0:X.env.scope.names.lookup n=some .local)
  (hgB:Gl X "ArrowError") (hB:CatT K X.mg) (sub:ajd K ns=true) (hB2:ns.contains "ArrowError" = true) (hb:SVs K X body gb) (hx:XSs K X body gb) (hh:∀ev,SVs K (cxH X ev) (b₀::suite) gh) :
  SV K X (.Try body [.ExceptHandler (some (.Name "ArrowError" bp)) (some n) (b₀::suite) hpos] [] [] pos) (dTry ns gb i gh):=by
 obtain⟨B,hm,cat⟩:=hB;exact a2z hcalm hno hfr hst hN hi hk0 hgB hm cat sub hB2 hb hx hh
end
@[simp] theorem a6d(x:Exn)(ρ:Ro):agb x ρ=some (.exc x,ρ):=rfl
def a1p(K:Fg9)(C:aZ):Bool:=(mR K (.ref C) "__getattribute__" == some (some (.builtin "BaseException.__getattribute__")))&&(mR K (.ref C) "__getattr__" == some none)&&(lL K C (.type "BaseException")==some true)&&lZ K C&&(mR K (.ref C) "__class__" == some (some (.builtin "object.__class__")))&&(lY K (.builtin "object.__class__") "__get__" == some (some (.builtin "getset_descriptor.__get__"))) &&
 (pI K (.builtin "object.__class__")==some true)&&(lL K C (.type "object")==some true)&&["int","bool","tuple","list","str","dict"].all fun T=>gU K (.ref C) (.type T)==some false
theorem axt{K:Fg9}{C:aZ}(h:a1p K C=true):ExcK K C:=by
 unfold a1p at h;simp only[bH,beq_iff_eq] at h;obtain⟨⟨⟨⟨⟨⟨⟨⟨h0,h1⟩,h8⟩,h2⟩,h3⟩,h4⟩,h5⟩,h6⟩,h7⟩:=h;exact⟨h0,h1,h8,h2,h3,h4,h5,h6,fun T hT=>beq_iff_eq.mp (fQ.mp h7 T hT)⟩
def apt(K:Fg9)(ns:List Str):Bool:=ns.all fun c=>match clsAt K c with
 | some C=>a1p K C
 | none=>false
def aye(K:Fg9)(ns:List Str):Bool:=ns.all fun c=>match clsAt K c with
 | some C=>oM K C bmV "ValueError.__new__"
 | none=>false
def catB(K:Fg9):Bool:=match clsAt K "ArrowError" with
 | some B=>lZ K B&&(qJ K (.ref B)==some (.type "type"))&&(gU K (.ref B) (.type "BaseException")==some true)&&(gU K (.ref B) (.ref B)==some true)
 | none=>false
theorem agl{K:Fg9}{c:Str}{C:aZ}(h:clsAt K c=some C):nsIn K bB c=some (some (.ref C)):=by
 unfold clsAt at h;split at h
 ·rename_i C' e;cases h;exact e
 ·cases h
section
variable{K:Fg9}{h:fH}{mg:Str->Option aG}{ns:List Str}{c:Str}
theorem sr(X:K.In h)(G:h.Ns bB mg)(e:apt K ns=true)(hc:ns.contains c=true):ClsT K mg c:=by
 have z:=fQ.mp e c (dY.mp hc);split at z
 ·rename_i C q;exact⟨C,mg_of X G (agl q),agl q,axt z⟩
 ·cases z
theorem ab7{rs:List Str}(X:K.In h)(G:h.Ns bB mg)(e:apt K ns=true)(hc:ns.contains c=true)(e2:aye K rs=true)(hr:rs.contains c=true):RaiT K mg c:=by
 obtain⟨C,h1,h2⟩:=sr X G e hc;have z:=fQ.mp e2 c (dY.mp hr);rw[agk h2.ns] at z;exact⟨C,h1,h2,z⟩
theorem a1z(X:K.In h)(G:h.Ns bB mg)(e:catB K=true):CatT K mg:=by
 unfold catB at e;split at e
 ·rename_i B q;simp only[bH,beq_iff_eq] at e;obtain⟨⟨⟨h1,h2⟩,h3⟩,h4⟩:=e;obtain⟨cd,hc,_⟩:=kY h1;exact⟨B,mg_of X G (agl q),⟨by rw[hc];rfl,h2,h3⟩,agl q,h4⟩
 ·cases e
end
end Dn
namespace Mn
open L2
section
variable{prog:cF}{w:dR}{A:cQ}{E:aG->aJ->Prop}{h:fH}{g:Array GenState}{d:Drawn}{t:Nat}{os:OsState}
variable{nm q:Str}{C N:aZ}{bs bm bmB:List aG}{hdct:Bool}{sn:List Str}{sub:List aG}{ab:Bool}{col:Option Bool}{dd:Option aZ}{k0 k1 k2 k3 k5:Option aG}{B Bn newId nid initId inN:String}{bmN:List aG}
theorem ags(Fn:ExcBaseFacts Bn newId inN bmN)(hBn:bmB.contains (.type Bn)=true)(F:ExcBaseFacts B nid initId bmB)(T:OwnTail h bmB bm){mN:Str->Option aG}{rest:List aG}{fI:aZ}{oI:Obj}{Q:Fin->aJ->Prop}
  (hC:h.get? C=some (excClassObj nm q C N bs bm hdct sn sub ab col dd k0 k1 k2 k3 k5 newId)) (hn:h.Ns N mN) (hi:mN "__init__" = some (.ref fI)) (hfI:h.get? fI=some oI) (hfc:oI.cls=.type "function")
  (hq:∀h' e,tZ h h' e (.ref C) rest->bK (bR prog w) A (call (.ref fI) (.ref e::rest)) (fun r s'=>r=.none/\Q (.done (.ret (.ref e))) s') E ⟨h',g,d,t,os⟩) (hrest:rest.length<=cJ:=by size_fits) :
  bK (bR prog w) A (kJ.«type.__call__» ⟨.ref C::rest,[]⟩) Q E ⟨h,g,d,t,os⟩:=by
 repeat (first | with_reducible refine wpAny_loadPart_at hC ?_ | with_reducible refine wpAny_madeBy_exc hC ?_ | wp_step)
 refine codeAny_call_builtin_code (wN _ Fn.quiet) (wpAny_check_new_subU Fn hBn T hC ?_);refine codeAny_exc_new_subU Fn hBn F T hC ?_ hrest;show bK _ _ _ _ _ _
 let o1:Obj:={ cls:=.type "tuple", data:=.seq rest.toArray }
 let o2:Obj:={ cls:=.ref C,data:=.fields #[.ref h.objs.size,.none,.none,.none,.bool false,.none] }
 have keep:∀b o,h.get? b=some o->((h.push o1).push o2).get? b=some o:=fun b o e=>aD _ (aD _ e)
 have hC1:=keep _ _ hC;have hf1:=keep _ _ hfI;have hn1:((h.push o1).push o2).Ns N mN:=let ⟨o,es,ep,e,r⟩:=hn;⟨o,es,ep,keep _ _ e,r⟩
 have hget:((h.push o1).push o2).get? (h.objs.size+1)=some o2:=by heap_get
 have hcC:(dJ C::bm).contains (.ref C)=true:=by simp
 have T1:=T.keeps (h':=(h.push o1).push o2) keep;unfold isInstance
 repeat (first | with_reducible refine wpAny_loadPart_at hget ?_ | (with_reducible refine wpAny_isSubtype_exc hC1 ?_;rw[hcC]) | wp_step)
 show bK _ _ (typeLookup (.ref C) _) _ _ _;refine wpAny_typeLookup_tail hC1 hn1 T1 F.mroIs F.init.lookup ?_;rw[hi];refine eU (aA ?_);unfold bindSpecial;refine aA (wpAny_typeOf (T := "function") ⟨_,hf1,hfc⟩ ?_);rw[if_pos (by decide)]
 refine aH (aA (bC (hq _ (h.objs.size+1) ⟨keep,kI (iG _),h.objs.size,hget,kI (aL _),?_⟩) (fun r s' hr =>?_) fun _ _ x=>x))
 ·exact aD _ (xQ rfl rfl)
 ·obtain⟨rfl,hQ⟩:=hr;wp_walk;exact hQ
theorem aq7(Fn:ExcBaseFacts Bn newId inN bmN)(hBn:bmB.contains (.type Bn)=true)(F:ExcBaseFacts B nid initId bmB)(T:OwnTail h bmB bm){mN:Str->Option aG}{rest:List aG}{fI:aZ}{oI:Obj}{Q:aG->aJ->Prop}
  (hC:h.get? C=some (excClassObj nm q C N bs bm hdct sn sub ab col dd k0 k1 k2 k3 k5 newId)) (hn:h.Ns N mN) (hi:mN "__init__" = some (.ref fI)) (hfI:h.get? fI=some oI) (hfc:oI.cls=.type "function")
  (hq:∀h' e,tZ h h' e (.ref C) rest->bK (bR prog w) (A.under (.builtin "type.__call__" ⟨.ref C::rest,[]⟩)) (call (.ref fI) (.ref e::rest)) (fun r s'=>r=.none/\Q (.ref e) s') E ⟨h',g,d,t,os⟩) (hrest:rest.length<=cJ:=by size_fits) :
  bK (bR prog w) A (call (.ref C) rest) Q E ⟨h,g,d,t,os⟩:=by
 have f1:=tc_lookup;have f2:=tc_bind (.ref C);have hT:(⟨h,g,d,t,os⟩:aJ).TypeIs (.ref C) "type" := ⟨_,hC,rfl⟩;refine mO (codeAny_of_tree ?_);show bK _ _ (callAny (.ref C) _) _ _ _
 repeat (any_goals (first | assumption | with_reducible refine wpAny_loadPart_at hC ?_ | wp_step))
 refine⟨rfl,?_⟩;exact codeAny_call_builtin_at (wN _ (by decide +kernel)) entry_typeCall (wpAny_check_type_call_sub hC (ags (hrest:=hrest) Fn hBn F T hC hn hi hfI hfc fun h' e hm=>hq h' e hm))
end
end Mn
namespace Dn
open L2 Mn
def refB:aG->Bool
 | .ref _=>true
 | _=>false
def ahj(K:Fg9)(C:aZ):Bool:=(lM K C).any fun cd=>cd.mro.dropWhile refB==bmV
theorem ail(self:aG):∀{l:List aG},l.dropWhile refB=bmV->refuseLoop self "__setattr__" l=pure ()
 | .ref c::r,e=>by rw[refuseLoop_ref];exact ail self (by simpa[zE,refB] using e)
 | [],e=>by cases e
 | .type n::r,e=>by
  have:(jR n::r)=bmV:=by simpa[zE,refB] using e
  rw[this];exact PySem.F.store_ValueError.passes self
 | .none::r,e=>nomatch (show(cT::r:List aG)=bmV from e)
 | .ellipsis::r,e=>nomatch (show(Value.ellipsis::r:List aG)=bmV from e)
 | .notImplemented::r,e=>nomatch (show(vD::r:List aG)=bmV from e)
 | .bool b::r,e=>nomatch (show(rC b::r:List aG)=bmV from e)
 | .int i t::r,e=>nomatch (show(nZ i t::r:List aG)=bmV from e)
 | .float b t::r,e=>nomatch (show(vP b t::r:List aG)=bmV from e)
 | .str x t::r,e=>nomatch (show(uU x t::r:List aG)=bmV from e)
 | .bytes b t::r,e=>nomatch (show(Value.bytes b t::r:List aG)=bmV from e)
 | .builtin i::r,e=>nomatch (show(mK i::r:List aG)=bmV from e)
section
variable{prog:cF}{w:dR}{A:cQ}{E:aG->aJ->Prop}{s:aJ}{K:Fg9}{x C:aZ}{ox:Obj}{od:Option Obj}{name:Str}{v:aG}
theorem a0k{tk:Tok}{R:Result->aJ->Prop}(X:K.In s.heap)(I:jK s.heap x ox C od)(hp:ahj K C=true)(hob:lL K C (.type "object")=some true)(ht:mV K C name=some none)
  (h:∀b,bK (bR prog w) A.in1 (Builtin.ObjectAttr.storeInOwnDict (.ref x) (.ref C) (.str name tk) name v b)
   (fun fin s'=>match fin with | .done f=>R (.ok f) s' | .again c'=>c'.quiet=true/\oK (bR prog w) A c' R s') (fun e s'=>R (.error e) s') s) :
  oK (bR prog w) A (.call (.builtin "object.__setattr__") ⟨[.ref x,.str name tk,v],[]⟩) R s:=by
 have SF:=PySem.F.store_object;obtain⟨cd,hc,ho⟩:=kY hp;have ho:=beq_iff_eq.mp ho;have sub:jT (bR prog w) s.heap (isInstance (.ref x) (.type "object")) true:=I.type.andThen (vU X hob);refine codeAny_call_builtin SF.slot.plain SF.entry (@wF (bR prog w) _ _ s "object.__setattr__" "object" "__setattr__" (.ref x) [.str name tk,v] [] _ SF.kind SF.split sub (SF.args (.ref x) (.str name tk) v) ?_);obtain⟨attr,ha,hr⟩:=Option.bind_eq_some_iff.mp ht;have hm:jT (bR prog w) s.heap (mroOf (.ref C)) cd.mro:=(vV X hc).andThen .now;have L3:jT (bR prog w) s.heap (Builtin.ObjectAttr.storeTaker? attr) none:=by
  cases attr with
  | none=>exact .now
  | some a =>
   obtain⟨b,hb,hz⟩:=eQ.mp hr;refine(PySem.W.looks_takesIn X hb).andThen ?_;cases b with
   | true=>cases hz
   | false=>exact .now
 rw[PySem.W.osa_eq,refuse_eq];refine aA (aA (I.type.here (aA (hm.here ?_))));rw[ail _ ho];refine aH (aA (I.type.here (aA ((qD X ha).here (aA (L3.here ?_))))));exact h _
theorem am4{vs:Array aG}{Q:Unit->aJ->Prop}(X:K.In s.heap)(I:jK s.heap x ox C none)(hx:s.heap.get? x=some ox)(hc:ox.cls=.ref C)(hdn:ox.dict=none)(hdt:ox.data=.fields vs)
  (hs:mR K (.ref C) "__setattr__" = some (some (.builtin "object.__setattr__"))) (hp:ahj K C=true) (hob:lL K C (.type "object")=some true) (ht:mV K C name=some none) (hh:lZ K C=true)
  (h:∀h' tk',h'.get? x=some { ox with dict:=some s.heap.objs.size }->h'.Ns1 s.heap.objs.size (fun y=>if y=name then some v else none)->(∀b o,b≠x->s.heap.get? b=some o->h'.get? b=some o)->Q () { s with heap:=h',toks:=tk' }) :
  bK (bR prog w) A (setAttr (.ref x) name v) Q E s:=by
 obtain⟨oc,odict,odata,osl⟩:=ox;simp only at hc hdn hdt;subst hc hdn hdt;refine PySem.W.set_plain X I hs (a0k (s:={ s with toks:=s.toks+1 }) X I hp hob ht fun b =>?_)
 obtain⟨cd,hcd,hd'⟩:=kY hh;have hxs:x≠s.heap.objs.size:=bI (aP hx);refine aA (aH (aA (aA (wpAny_loadPart hx (aA (PySem.W.Looks.here (s:={ s with toks:=s.toks+1 }) (vV X hcd) ?_))))))
 rw[hd']
 let o0:Obj:={ cls:=.type "dict", data:=.dict #[] }
 have hx1:(s.heap.push o0).get? x=some ⟨.ref C,none,.fields vs,osl⟩:=aD _ hx;have hgd:((s.heap.push o0).update x fun o=>{ cls:=o.cls,dict:=some s.heap.objs.size,data:=o.data,slots:=o.slots }).get? s.heap.objs.size=some o0:=(vX _ _ _ _ hxs.symm).trans (xQ rfl rfl)
 have hnd:((s.heap.push o0).update x fun o=>{ cls:=o.cls,dict:=some s.heap.objs.size,data:=o.data,slots:=o.slots }).Ns s.heap.objs.size (fun _=>none):=⟨_,#[],_,hgd,rfl,fun e he=>absurd he (by simp),fun _=>rfl⟩
 refine aA (wpAny_alloc' (aA (wpAny_update' hx1 (aH ?_))));show bK _ _ (rP s.heap.objs.size (.str name _) name v) _ _ _;unfold rP Builtin.ObjectAttr.newKeyGuard;refine aA (aH (aA (wpAny_nsSet1 (xT hnd) fun h' hn' hs' =>?_)))
 obtain⟨oD,esD,epD,hoD,hdD,hcD⟩:=hn'.count (Within.cons name v Within.nil);refine aA (wpAny_lookBehind hoD (by rw[hdD];exact pastItsLine_dict (cL hcD (by rw[cG,yM,iV];omega))) (aH ?_))
 refine h h' _ ((hs'.2 x hxs).trans (cC _ hx1 rfl)) hn' fun b o hb e=>(hs'.2 b (bI (aP e))).trans ((vX _ _ _ _ hb).trans (aD _ e))
end
def exV(a C:aZ)(dx:Option aZ)(vs:Array aG):fH->Prop:=fun h=>∃oe,h.get? a=some oe/\oe.cls=.ref C/\oe.dict=dx/\oe.data=.fields vs
section
variable{vs:Array aG}{X:Cx}{zv:List (aZ×Obj)}{σ:L2.St}{H:Hp}{s:aJ}{A:cQ}{E:aG->aJ->Prop}{a C:aZ}{f:Str}
theorem asi{y:V}{u:aG}{Q:Unit->aJ->Prop}(I:Inv X zv σ H s)(e:H a=some (.ext (exV a C none vs)))(k:ExcK X.K C)(hs:mR X.K (.ref C) "__setattr__" = some (some (.builtin "object.__setattr__")))(hp:ahj X.K C=true)(ht:mV X.K C f=some none)(ry:RelV y u)
  (h:∀d s',H d=none->Inv X zv σ (upd (upd H a (.ext (exV a C (some d) vs))) d (.xd [(f,y)])) s'->Q () s'):bK (bR X.prog X.w) A (setAttr (.ref a) f u) Q E s:=by
 obtain⟨⟨oe,he,hc,hdn,hdt⟩,_,_⟩:=I.hok _ _ e;refine am4 I.kIn ⟨he,hc,by unfold nO;rw[hdt],by rw[hdn];trivial⟩ he hc hdn hdt hs hp k.ob ht k.hd fun h' tk' e1 e2 e3 =>?_
 have hd:H s.heap.objs.size=none:=I.hok.fresh (aL _);have hda:s.heap.objs.size≠a:=gY (aP he);have I2:=I.write (x:=a) (e:=a) (o:=.ext (exV a C (some s.heap.objs.size) vs)) (t':=tk') (h':=h') (by rw[e];trivial) (.inl rfl) (fun b u hb q=>e3 b u hb q) ⟨_,e1⟩ ⟨⟨_,e1,hc,rfl,hdt⟩,⟨_,e1⟩,fun h1 h2 p q=>by obtain⟨oe,z1,z2⟩:=p;exact⟨oe,q _ z1,z2⟩⟩
 have fp:FpX X zv (upd H a (.ext (exV a C (some s.heap.objs.size) vs))) s.heap.objs.size:=Inv.fpX I (kI (aL _)) (by rw[cu hda];exact hd)
 refine h s.heap.objs.size _ hd (Inv.track I2 fp ⟨_,e2,fun g =>?_⟩)
 by_cases q:g=f
 ·subst q;have e1:[(g,y)].lookup g=some y:=by simp[dU]
  rw[e1];show RelO (some y) (if g=g then some u else none)
  rw[if_pos rfl];exact ry
 ·have:(g==f)=false:=beq_eq_false_iff_ne.mpr q;simp[dU,this,q,RelO]
structure FldK (K:Fg9) (C:aZ) (f:Str):Prop where
 k:ExcK K C
 sa:mR K (.ref C) "__setattr__" = some (some (.builtin "object.__setattr__"))
 ov:ahj K C=true
 tk:mV K C f=some none
def a3f(C:aZ)(vs:Array aG)(ta tv:TE)(f:Str):TS:=fun D σ H=>tv σ H fun y H1=>ta σ H1 fun x H2=>∃a,x=.ref a/\H2 a=some (.ext (exV a C none vs))/\∀d,H2 d=none->D.nx σ (upd (upd H2 a (.ext (exV a C (some d) vs))) d (.xd [(f,y)]))
theorem az3{o value:dW}{ta tv:TE}{pos pos':Pos}(k:FldK X.K C f)(ha:PE X o ta)(hv:PE X value tv)(hs:mD value (some (.Attribute o f pos')) pos.line X.env=pure false):PS X (.Assign [.Attribute o f pos'] value pos) (a3f C vs ta tv f):=by
 intro zv s σ H D I h;refine plainObj_wpAny_Assign_Attribute (thn (hv zv s σ H _ I h) fun u s1 ⟨y,H1,I1,ry,q⟩=>thn (ha zv s1 σ H1 _ I1 q) fun ov s2 ⟨x,H2,I2,rx,a,ex,ea,q2⟩ =>?_) hs
 subst ex;obtain rfl:ov=dJ a:=rx;exact asi I2 ea k.k k.sa k.ov k.tk ry fun d s3 hd I3=>⟨σ,_,I3,q2 d hd⟩
def spI(C:aZ)(vs:Array aG)(f:Str):Sp:=fun us H Q _=>∃a i,us=[.ref a,.int i]/\H a=some (.ext (exV a C none vs))/\∀d,H d=none->Q .non (upd (upd H a (.ext (exV a C (some d) vs))) d (.xd [(f,.int i)]))
theorem a1n{K:Fg9}{P:cF}{w:dR}{mg:Str->Option aG}{base:fH}{x qual:Str}{st:iM}{fa:aZ}{fd:fX}{k:Nat}{p1 p2 p3 p4:Pos}(F:Fun K x qual st fa fd)(S:FnScope ["self", f] ["self", f] (au st))(hf:FldK K C f)
  (hb:jm st=[.Assign [.Attribute (.Name "self" p1) f p2] (.Name f p3) p4]) (h1:(f==("__debug__" : Str))=false) (h2:(f==("__classdict__" : Str))=false)
  (hs:∀env,mD (.Name f p3) (some (.Attribute (.Name "self" p1) f p2)) p4.line env=pure false) (hv1:Vis (au st) "self") (hv2:Vis (au st) f) :
  FnOk P w K mg base CX0 (k+1) fa fd ["self", f] (spI C vs f):=by
 refine F.ok S (fun us H Q E h =>?_) fun cdv A outer s H us Q E hr h=>⟨a3f C vs (tVar 0) (tVar 1) f,?_,?_⟩
 ·obtain⟨a,i,rfl,_⟩:=h;rfl
 ·rw[hb];exact asu (az3 hf (pv 0 rfl hv1) (pv 1 rfl hv2 h1 h2) (hs _))
 ·obtain⟨a,i,rfl,e,q⟩:=h;exact⟨_,rfl,_,rfl,a,rfl,e,fun d hd=>q d hd⟩
end
end Dn
namespace Mn
open L2
section
variable{M:uX}{A:cQ}{E:aG->aJ->Prop}{env:Env}
variable{nm q:Str}{C N:aZ}{bs bm:List aG}{hdct:Bool}{sn:List Str}{sub:List aG}{ab:Bool}{col:Option Bool}{dd:Option aZ}{k0 k1 k2 k3 k5:Option aG}{newId:String}
theorem aim{s:aJ}{x:Sem aG}{Q:Flow->aJ->Prop}(hbase:bm.contains (.type "BaseException")=true)(hh:A.handled=none)
  (h:bK M A x (fun v s₁=>∃e oe vs,v=.ref e/\s₁.heap.get? C=some (excClassObj nm q C N bs bm hdct sn sub ab col dd k0 k1 k2 k3 k5 newId)/\s₁.heap.get? e=some oe/\oe.cls=.ref C/\oe.data=.fields vs/\vs[1]? = some .none/\E (.ref e) s₁) E s) :
  bK M A (raiseStmt env (some x) none) Q E s:=by
 have hcB:(dJ C::bm).contains (.type "BaseException")=true:=by rw[List.contains_cons,hbase,Bool.or_true]
 unfold raiseStmt;refine aA (bC h (fun v s₁ h₁ =>?_) fun _ _ x=>x)
 obtain⟨e,⟨oc,od,odt,osl⟩,vs,rfl,hC,he,hc,hd,h1,hE⟩:=h₁;simp only at hc hd;subst hc hd;obtain⟨hp,g,d,tk,os⟩:=s₁
 repeat (first | with_reducible refine wpAny_loadPart_at he ?_ | with_reducible refine wpAny_loadPart_at hC ?_ | (with_reducible refine wpAny_isSubtype_exc hC ?_;rw[hcB]) | wp_step)
 rw[h1];exact aH (aH (wpAny_raiseNew_none hh hE))
end
section
variable{prog:cF}{w:dR}{A:cQ}{E:aG->aJ->Prop}{s:aJ}{env:Env}
variable{nm q:Str}{C N:aZ}{bs bm bmB:List aG}{hdct:Bool}{sn:List Str}{sub:List aG}{ab:Bool}{col:Option Bool}{dd:Option aZ}{k0 k1 k2 k3 k5:Option aG}{B Bn newId nid initId inN:String}{bmN:List aG}
theorem anb(Fn:ExcBaseFacts Bn newId inN bmN)(hBn:bmB.contains (.type Bn)=true)(F:ExcBaseFacts B nid initId bmB){x:Str}{np cpos pos:Pos}{args:List dW}{Q:Flow->aJ->Prop}{fI:aZ}
  (hbase:bm.contains (.type "BaseException")=true) (hh:A.handled=none) (hplain:(jB cpos (aX args env)).any (·.1)=false)
  (h:bK (bR prog w) A (eval (.Name x np) env) (fun f s₁=>f=.ref C/\bK (bR prog w) A (evalArgs (.ref C) true (jB cpos (aX args env)) [])
   (fun a s₂=>a.kw=[]/\a.pos.length<=cJ/\s₂.heap.get? C=some (excClassObj nm q C N bs bm hdct sn sub ab col dd k0 k1 k2 k3 k5 newId)/\(∃mN,s₂.heap.Ns N mN/\mN "__init__" = some (.ref fI))/\OwnTail s₂.heap bmB bm/\(∃oI,s₂.heap.get? fI=some oI/\oI.cls=.type "function") /\
    ∀h' e,tZ s₂.heap h' e (.ref C) a.pos->bK (bR prog w) (A.under (.builtin "type.__call__" ⟨.ref C::a.pos,[]⟩)) (call (.ref fI) (.ref e::a.pos))
     (fun r s'=>r=.none/\s'.heap.get? C=some (excClassObj nm q C N bs bm hdct sn sub ab col dd k0 k1 k2 k3 k5 newId)/\∃oe vs,s'.heap.get? e=some oe/\oe.cls=.ref C/\oe.data=.fields vs/\vs[1]? = some .none/\E (.ref e) s') E { s₂ with heap:=h' }) E s₁) E s) :
  bK (bR prog w) A (exec (.Raise (some (.Call (.Name x np) args [] cpos)) none pos) env) Q E s:=by
 rw[arm_exec_Raise]
 first
  | refine aA (jE (aim (C:=C) (nm:=nm) (q:=q) (N:=N) (bs:=bs) (bm:=bm) (hdct:=hdct) (sn:=sn) (sub:=sub) (ab:=ab) (col:=col) (dd:=dd) (k0:=k0) (k1:=k1) (k2:=k2) (k3:=k3) (k5:=k5) (newId:=newId) hbase hh (aA (bC (wpAny_Call_ofName (bC h (fun f s₁ h₁ =>?_) fun _ _ x=>x)) (fun v s₃ h₃=>aA (jE (aH h₃))) fun _ _ x=>x))))
  | (simp only[evalOpt,Option.map];refine aA (jE (aim (C:=C) (nm:=nm) (q:=q) (N:=N) (bs:=bs) (bm:=bm) (hdct:=hdct) (sn:=sn) (sub:=sub) (ab:=ab) (col:=col) (dd:=dd) (k0:=k0) (k1:=k1) (k2:=k2) (k3:=k3) (k5:=k5) (newId:=newId) hbase hh (aA (bC (wpAny_Call_ofName (bC h (fun f s₁ h₁ =>?_) fun _ _ x=>x)) (fun v s₃ h₃=>aA (jE (aH h₃))) fun _ _ x=>x)))))
 obtain⟨rfl,h₁⟩:=h₁;unfold callWith;refine aA (eU (bC h₁ (fun a s₂ h₂=>aA (jE ?_)) fun _ _ x=>x))
 obtain⟨apos,akw⟩:=a;obtain⟨hkw,hlen,hC,⟨mN,hn,hi⟩,T,⟨oI,hfI,hfc⟩,h₂⟩:=h₂;obtain rfl:akw=[]:=hkw;obtain⟨hp,g,d,tk,os⟩:=s₂;simp only[hplain];refine aA (wpAny_keeperOf_exc hC ?_);refine aA (aq7 (hrest:=hlen) Fn hBn F T hC hn hi hfI hfc fun h' e hm=>bC (h₂ h' e hm) (fun r s' ⟨hr,hC',oe,vs,he,hc,hd,h1,hE⟩=>⟨hr,aA (eU (wpAny_point (aH ?_)))⟩) fun _ _ z=>z)
 exact⟨e,oe,vs,rfl,hC',he,hc,hd,h1,hE⟩
end
end Mn
namespace Dn
open L2 Mn
theorem age{H:Hp}{a b:aZ}{o:HO}(h:upd H a o b=none):H b=none:=by
 by_cases z:b=a
 ·rw[z,gw] at h;cases h
 ·rw[cu z] at h;exact h
theorem ad8{H:Hp}{a b:aZ}{φ:fH->Prop}{u:HO}(h:upd H a (.ext φ) b=some u)(hu:∀ψ,u≠.ext ψ):H b=some u:=by
 by_cases z:b=a
 ·rw[z,gw] at h;cases h;exact absurd rfl (hu φ)
 ·rw[cu z] at h;exact h
theorem Inv.untrack{X:Cx}{zv:List (aZ×Obj)}{σ:L2.St}{H:Hp}{s:aJ}{a:aZ}{φ:fH->Prop}(I:L2.Inv X zv σ (upd H a (.ext φ)) s)(hn:H a=none):L2.Inv X zv σ H s :=
 ⟨I.ok,I.os,I.bare,⟨I.base.keep,I.base.slot,fun b o e n hx=>age (I.base.free b o e n hx),I.base.there,fun b xs q=>ad8 (I.base.tups b xs q) (fun _ z=>by cases z),fun b ob u q=>ad8 (I.base.frzs b ob u q) (fun _ z=>by cases z),fun b ps q=>let ⟨more,h⟩:=I.base.tbls b ps q;⟨more,ad8 h (fun _ z=>by cases z)⟩⟩,
  I.loc,I.cell,age I.free,fun x c e=>age (I.freeC x c e),fun p hp=>let ⟨h1,h2,h3⟩:=I.pin p hp;⟨h1,age h2,h3⟩,fun b u e=>by
   have hb:b≠a:=fun z=>by rw[z,hn] at e;cases e
   exact(I.hok b u (by rw[cu hb];exact e)).stay (fun c v _ q=>q) (fun c q=>ad8 q (fun _ z=>by cases z)) fun c xs q=>ad8 q (fun _ z=>by cases z),I.len⟩
def al6(K:Fg9)(C fI:aZ):Bool:=match K.lookup C with
 | some ⟨.type "type", _,.cls cd,sl⟩=>(match cd.mro,sl.toList with
  | .ref C'::bm,[_,_,_,_,some (.builtin n),_]=>C'==C&&n == "ValueError.__new__" && !cd.hasDel&&PySem.W.tailIn K bmV bm&&PySem.W.nsOkIn K cd.ns&&nsIn K cd.ns "__init__" == some (some (.ref fI))&&qJ K (.ref fI)==some (.type "function")
  | _,_=>false)
 | _=>false
theorem a0s{K:Fg9}{h:fH}{N:aZ}{mg:Str->Option aG}{n:Str}{v:aG}(X:K.In h)(G:h.Ns N mg)(e:nsIn K N n=some (some v)):mg n=some v:=by
 obtain⟨o,es,ep,ho,hd,_,hf⟩:=G;unfold nsIn at e;split at e
 ·rename_i c d es' n' sl q;have:=X _ _ q;rw[ho] at this;cases this;cases hd;split at e
  ·rename_i en he;cases e;rw[<-hf];unfold nsFind findBy;rw[<-wQ,he];rfl
  ·split at e <;> cases e
 ·cases e
theorem axr{K:Fg9}{C fI:aZ}(q:al6 K C fI=true) :
  ∃bm N nm qn bs hdct sn sub ab col dd k0 k1 k2 k3 k5,∀h:fH,K.In h->h.get? C=some (excClassObj nm qn C N bs bm hdct sn sub ab col dd k0 k1 k2 k3 k5 "ValueError.__new__")/\(∃mN,h.Ns N mN/\mN "__init__" = some (.ref fI))/\OwnTail h bmV bm/\∃oI,h.get? fI=some oI/\oI.cls=.type "function" := by
 unfold al6 at q;split at q
 ·rename_i dd cd sl ho;split at q
  ·rename_i C' bm k0 k1 k2 k3 n k5 hm hs;simp only[bH,beq_iff_eq,xX] at q;obtain⟨⟨⟨⟨⟨⟨e1,e2⟩,e3⟩,e4⟩,e5⟩,e6⟩,e7⟩:=q;subst e1 e2;obtain⟨nm,bs,mro,ns,qn,hd,sn,sub,ab,col,del⟩:=cd;have hm:mro=_:=hm;have e3:del=false:=e3;subst hm e3;have z:sl = #[k0,k1,k2,k3,some (.builtin "ValueError.__new__"),k5]:=yH.mp hs;subst z;refine⟨bm,ns,nm,qn,bs,hd,sn,sub,ab,col,dd,k0,k1,k2,k3,k5,fun h X=>⟨X _ _ ho,⟨h.nsMap ns,.of_isNs (qP X e5),?_⟩,wC X e4,?_⟩⟩
   ·exact a0s X (.of_isNs (qP X e5)) e6
   ·obtain⟨o,ho2,hc2⟩:=eQ.mp e7;exact⟨o,X _ _ ho2,hc2⟩
  ·cases q
 ·cases q
def ad2(c f:Str)(m:M D):Sd:=dM m fun d ρ=>match d with
 | .int i=>some (.exc ⟨c,[(f,i)]⟩,ρ)
 | _=>none
section
variable{K:Fg9}{X:Cx}{c f:Str}{C fI:aZ}{fd:fX}{kk:Nat}{e1:dW}{m:M D}{np cpos pos:Pos}
theorem arj(hcalm:X.calm=true)(hg:Gl X c)(hm:X.mg c=some (.ref C))(k:ClsOk X.K c C)(qq:al6 X.K C fI=true)(Fi:∀vs,FnOk X.prog X.w X.K X.mg X.base CX0 kk fI fd ["self", f] (spI C vs f))(hb:∀s us,us.length=2->pA s fd ⟨us,[]⟩ ((["self", f]:List Str).zip us))
  (hr:Room (kk+1) X.A) (h:EV K X e1 m) (hn:NoX m) (hs:aX [e1] X.env=(false,eval e1 X.env)::aX [] X.env:=by rfl) (hd:(c==("__debug__" : Str))=false:=by decide) :
  XS K X (.Raise (some (.Call (.Name c np) [e1] [] cpos)) none pos) (ad2 c f m):=⟨fun hk hnx zv s σ H tg F ρ x ρ' I G em=>by
 have em:=vh.mp em;unfold ad2 dM at em;split at em
 ·rename_i d ρ1 em1;dsimp only at em;split at em
  ·rename_i i;cases em;have h:=h hk;subst hk;obtain⟨bm,N,nm,qn,bs,hdct,sn,sub,ab,col,dd,k0,k1,k2,k3,k5,hobj⟩:=axr qq;have T0:=(hobj _ I.kIn).2.2.1;refine anb (C:=C) (nm:=nm) (q:=qn) (N:=N) (bs:=bs) (bm:=bm) (hdct:=hdct) (sn:=sn) (sub:=sub) (ab:=ab) (col:=col) (dd:=dd) (k0:=k0) (k1:=k1) (k2:=k2) (k3:=k3) (k5:=k5) (fI:=fI)
    gD (by decide +kernel) gD (T0.hasType gD.hasBase) (I.ok.hd hcalm) (by rw[hs];rfl) ?_
   refine adu I hg hm ⟨rfl,?_⟩ hd;have pa:=tu h aeh hs cpos zv s σ H (fun vs H1=>∃F1,vs=[.int i]/\Good X.K tg F1 H1 ρ' σ/\Ext (Own ρ σ) (Own ρ' σ) F H F1 H1) I ⟨tg,F,ρ,.int i,ρ',G,em1,fun v H' F' G' x' r=>by
    cases r;exact⟨F',rfl,G',x'⟩⟩
   rw[hs] at pa ⊢
   refine vK (bC pa (fun us s2 ⟨vs,H2,I2,r2,F2,ev,G2,x2⟩ =>?_) fun e s1 q=>by rw[hnx] at q;exact q.elim)
   subst ev;have hlen:us.length=1:=r2.length.symm;obtain⟨o1,o2,o3,o4⟩:=hobj _ I2.kIn;refine⟨rfl,by rw[iV];show us.length<=_;omega,o1,o2,o3,o4,fun h' e hme =>?_⟩
   obtain⟨t,he,_,_⟩:=hme.there;have hnH:H2 e=none:=by
    cases z:H2 e with
    | none=>rfl
    | some o =>
     obtain⟨ob,h1⟩:=alj (I2.hok e o z);have h2:s2.heap.get? e=none:=hme.new;rw[h2] at h1;cases h1
   have J:L2.Inv X zv σ H2 { s2 with heap:=h' }:=I2.kept (t':=s2.toks) hme.keeps
   have J1:L2.Inv X zv σ (upd H2 e (.ext (exV e C none #[.ref t,.none,.none,.none,.bool false,.none]))) { s2 with heap:=h' } :=
    Inv.track J (Inv.fpX I2 hme.new hnH) ⟨⟨_,he,rfl,rfl,rfl⟩,⟨_,he⟩,fun h1 h2 p q=>by obtain⟨oe,z1,z2⟩:=p;exact⟨oe,q _ z1,z2⟩⟩
   refine mO (lC ((Fi #[.ref t,.none,.none,.none,.bool false,.none]).run (X.A.under (.builtin "type.__call__" ⟨.ref C::us,[]⟩)) X.stack _ _ ⟨.ref e::us,[]⟩ (.ref e::us) [.ref e,.int i]
    (fun v H3=>v=.non/\∃d,upd H2 e (.ext (exV e C none #[.ref t,.none,.none,.none,.bool false,.none])) d=none/\H3=upd (upd (upd H2 e (.ext (exV e C none #[.ref t,.none,.none,.none,.bool false,.none]))) e (.ext (exV e C (some d) #[.ref t,.none,.none,.none,.bool false,.none]))) d (.xd [(f,.int i)]))
    (fun _ _ _=>False) (hr.make C us []) (J1.env0.make C us []) (hb _ _ (by rw[cG,hlen])) (.cons rfl r2) ⟨e,i,rfl,gw,fun d hd=>⟨rfl,d,hd,rfl⟩⟩) fun r s' z =>?_)
   cases r with
   | error er=>exact z.elim
   | ok fl =>
    cases fl with
    | ret u =>
    obtain⟨v,H3,J3,rv,rfl,d,hd,rfl⟩:=Inv.after J1 z;have hde:d≠e:=fun q=>by rw[q,gw] at hd;cases hd
    have hd2:H2 d=none:=by rw[cu hde] at hd;exact hd
    have eq:upd (upd (upd H2 e (.ext (exV e C none #[.ref t,.none,.none,.none,.bool false,.none]))) e (.ext (exV e C (some d) #[.ref t,.none,.none,.none,.bool false,.none]))) d (.xd [(f,.int i)])=upd (upd H2 d (.xd [(f,.int i)])) e (.ext (exV e C (some d) #[.ref t,.none,.none,.none,.bool false,.none])):=by
     rw[azf]
     funext b
     unfold upd
     by_cases q1:b=d
     ·rw[if_pos q1,if_neg (fun q=>hde (q1.symm.trans q)),if_pos q1]
     ·rw[if_neg q1,if_neg q1]
    rw[eq] at J3;obtain⟨⟨oe,he2,hc2,hdx2,hdt2⟩,_⟩:=J3.hok e _ gw;have hne:upd H2 d (.xd [(f,.int i)]) e=none:=by rw[cu (fU hde)];exact hnH
    have J4:=Inv.untrack J3 hne;have rv:u=cT:=rv;refine⟨rv,(hobj _ J4.kIn).1,oe,_,he2,hc2,hdt2,rfl,σ,upd H2 d (.xd [(f,.int i)]),upd F2 d (.xd [(f,.int i)]),J4,G2.new hd2 _,x2.trans (G2.newX hd2 _),e,C,some d,[e],rfl,k,.inr ⟨d,rfl,gw⟩,⟨oe,_,he2,hc2,hdx2,hdt2,by simp,.inl ⟨rfl,rfl⟩⟩,fun b hb =>?_⟩
    obtain rfl:=bY.mp hb;exact Inv.fpX I2 hme.new hne
    | _=>exact z.elim
  ·cases em
 ·rename_i y ρ1 em1;exact absurd em1 (hn _ _ _)
 ·cases em⟩
end
def a1w(s:iM):iM:=match s with
 | .ClassDef _ _ _ b _ _ _ _ _ _ _=>b.getD 0 s
 | _=>s
section
variable{K:Fg9}{X:Cx}{c f:Str}{st st':iM}{e1:dW}{m:M D}{np cpos pos p1 p2 p3 p4:Pos}
theorem ar5:SV K X st (ad2 c f m):=SV.mk fun _=>PS.imp aoy fun E σ H hq0=>by
 obtain⟨tg,F,ρ,fl,ρ',G,em,q⟩:=hq0;unfold ad2 dM at em;split at em
 ·dsimp only at em;split at em
  ·cases em;exact(show False from q).elim
  ·cases em
 ·cases em;exact(show False from q).elim
 ·cases em
structure IniT (K:Fg9) (mg:Str->Option aG) (c f q:Str) (st:iM):Prop where
 ex:∃C fI fd,mg c=some (.ref C)/\ClsOk K c C/\al6 K C fI=true/\FldK K C f/\Fun K "__init__" q st fI fd
theorem ari{q:Str}(hk:X.K=K)(hcalm:X.calm=true)(hg:Gl X c)(h:IniT K X.mg c f q st)(S:FnScope ["self", f] ["self", f] (au st))(hb:jm st=[.Assign [.Attribute (.Name "self" p1) f p2] (.Name f p3) p4])(h1:(f==("__debug__" : Str))=false)(h2:(f==("__classdict__" : Str))=false)
  (hs:∀env,mD (.Name f p3) (some (.Attribute (.Name "self" p1) f p2)) p4.line env=pure false) (hv1:Vis (au st) "self") (hv2:Vis (au st) f)
  (hbd:∀fI fd,Fun K "__init__" q st fI fd->∀s us,us.length=2->pA s fd ⟨us,[]⟩ ((["self", f]:List Str).zip us))
  (hr:Room 2 X.A) (he:EV K X e1 m) (hn:NoX m) (hst:aX [e1] X.env=(false,eval e1 X.env)::aX [] X.env:=by rfl) (hd:(c==("__debug__" : Str))=false:=by decide) :
  XS K X (.Raise (some (.Call (.Name c np) [e1] [] cpos)) none pos) (ad2 c f m):=by
 subst hk;obtain⟨C,fI,fd,hm,k,qq,kf,F⟩:=h.ex;exact arj (kk:=1) hcalm hg hm k qq (fun vs=>a1n F S kf hb h1 h2 hs hv1 hv2) (hbd fI fd F) hr he hn hst hd
theorem aqy{q:Str}(h:∀(kV doc pm:aG) (an:Option aZ) (cdv ct:aG) (us:List aG),us.length=2->bindArgs (fnOf "__init__" q (mz st) (jm st) (au st) .none kV doc pm an cdv ct) ⟨us,[]⟩=pure ((["self", f]:List Str).zip us)) :
  ∀fI fd,Fun K "__init__" q st fI fd->∀s us,us.length=2->pA s fd ⟨us,[]⟩ ((["self", f]:List Str).zip us):=fun fI fd F s us hl=>by
 obtain⟨oc,od,kV,doc,pm,an,cdv,ct,osl,rfl,lk,hcd⟩:=F.ex;exact .of_eq (h kV doc pm an cdv ct us hl)
def a1a(K:Fg9)(C fI:aZ)(f:Str):Bool:=al6 K C fI&&(mR K (.ref C) "__setattr__" == some (some (.builtin "object.__setattr__")))&&ahj K C&&(mV K C f==some none)
theorem axe{h:fH}{mg:Str->Option aG}{ns:List Str}{q:Str}{C fI:aZ}{fd:fX}(X:K.In h)(G:h.Ns bB mg)(e:apt K ns=true)(hc:ns.contains c=true)(aC:nsIn K bB c=some (some (.ref C)))(e2:a1a K C fI f=true)(F:Fun K "__init__" q st fI fd):IniT K mg c f q st:=by
 obtain⟨C',h1,h2⟩:=sr X G e hc;have z:=h2.ns.symm.trans aC;cases z;unfold a1a at e2;simp only[bH,beq_iff_eq] at e2;obtain⟨⟨⟨a1,a2⟩,a3⟩,a4⟩:=e2;exact⟨C,fI,fd,h1,h2,a1,⟨h2.ok,a2,a3,a4⟩,F⟩
end
end Dn
namespace Stt
open PySem
def Rise(t:cY):Prop:=t.place.toList.Pairwise (· < ·)
theorem Rise.lt{t:cY}(h:Rise t){i j:Nat}{x y:Nat}(hij:i < j)(hx:t.place[i]? = some x)(hy:t.place[j]? = some y):x < y:=by
 obtain⟨hi,rfl⟩:=fG.mp hx;obtain⟨hj,rfl⟩:=fG.mp hy;have:=List.pairwise_iff_getElem.mp h i j (by simpa using hi) (by simpa using hj) hij
 simpa using this
def Cut(xs:Array Nat)(j p:Nat):Prop:=p<=xs.size/\(∀i x,i < p->xs[i]? = some x->x < j)/\∀i x,p<=i->xs[i]? = some x->j<=x
theorem ako{xs:Array Nat}(hs:xs.toList.Pairwise (· < ·))(j:Nat):∀(fuel lo hi:Nat),hi - lo<=fuel->lo<=hi->hi<=xs.size->(∀i x,i < lo->xs[i]? = some x->x < j)->(∀i x,hi<=i->xs[i]? = some x->j<=x) ->
  Cut xs j (wU xs j fuel lo hi)
 | 0,lo,hi,hf,hle,hsz,a,b=>by
  have:lo=hi:=by omega
  subst this;exact⟨hsz,a,b⟩
 | fuel+1,lo,hi,hf,hle,hsz,a,b=>by
  unfold wU;split
  ·rename_i hlt;dsimp only;have hm:(lo+hi) / 2 < xs.size:=by omega
   have hg:xs.getD ((lo+hi) / 2) j=xs[(lo+hi) / 2]:=by simp[xZ,hm]
   have hx:xs[(lo+hi) / 2]? = some (xs[(lo+hi) / 2]):=by simp[hm]
   rw[hg]
   by_cases hc:xs[(lo+hi) / 2] < j
   ·rw[if_pos hc];refine ako hs j fuel ((lo+hi) / 2+1) hi (by omega) (by omega) hsz (fun i x hi' hx' =>?_) b
    rcases jQ i ((lo+hi) / 2) with h | h
    ·exact jC (Rise.lt (t:={ mask:=0,place:=xs,dummies := #[],finger:=0,led:=true,moves:=0,plain:=true }) hs h hx' hx) hc
    ·have:i=(lo+hi) / 2:=by omega
     subst this;rw[hx] at hx';cases hx';exact hc
   ·rw[if_neg hc];refine ako hs j fuel lo ((lo+hi) / 2) (by omega) (by omega) (by omega) a (fun i x hi' hx' =>?_)
    rcases jQ ((lo+hi) / 2) i with h | h
    ·exact cL (lG.mp hc) (nF (Rise.lt (t:={ mask:=0,place:=xs,dummies := #[],finger:=0,led:=true,moves:=0,plain:=true }) hs h hx hx'))
    ·have:i=(lo+hi) / 2:=by omega
     subst this;rw[hx] at hx';cases hx';omega
  ·have:lo=hi:=by omega
   subst this;exact⟨hsz,a,b⟩
theorem ahy{xs:Array Nat}(hs:xs.toList.Pairwise (· < ·))(j:Nat):Cut xs j (fM xs j) :=
 ako hs j xs.size 0 xs.size (by omega) (eF _) (aL _) (fun i x h _=>absurd h (pL _)) fun i x h hx=>by
  obtain⟨h',_⟩:=fG.mp hx;omega
theorem aq8{t:cY}(h:Rise t):fM t.place 0=0:=by
 obtain⟨hp,a,b⟩:=ahy h 0;rcases lN (fM t.place 0) with h0 | h0
 ·exact h0
 ·have h1:0 < t.place.size:=by omega
  exact absurd (a 0 t.place[0] h0 (by simp[h1])) (pL _)
theorem aq9{t:cY}(h:Rise t){i x:Nat}(hx:t.place[i]? = some x):fM t.place (x+1)=i+1:=by
 obtain⟨hp,a,b⟩:=ahy h (x+1);rcases Nat.lt_trichotomy (fM t.place (x+1)) (i+1) with h1 | h1 | h1
 ·have:=b i x (by omega) hx
  omega
 ·exact h1
 ·have h2:i+1 < t.place.size:=by omega
  have h3:t.place[i+1]? = some t.place[i+1]:=by simp[h2]
  have:=a (i+1) _ h1 h3;have:=h.lt (kZ i) hx h3;omega
theorem ana{t:cY}(h:Rise t){j:Nat}(hj:t.place[fM t.place j]? ≠ some j):(SetTable.insertAt t.place (fM t.place j) j).toList.Pairwise (· < ·):=by
 obtain⟨hp,a,b⟩:=ahy h j;rw[SetTable.toList_insertAt];generalize hq:fM t.place j=p at *;rw[List.pairwise_append];refine⟨List.Pairwise.sublist (xF _ _) h,?_,?_⟩
 ·rw[fZ];refine⟨fun y hy =>?_,pW (List.drop_sublist _ _) h⟩
  obtain⟨i,hi,rfl⟩:=gR.mp hy;rw[lA,bM] at hi;rw[xK,qH];have h1:t.place[p+i]? = some t.place[p+i]:=by simp
  have h2:=b (p+i) _ (by omega) h1
  rcases Nat.eq_or_lt_of_le h2 with e | e
  ·exfalso;rcases lN i with z | z
   ·subst z;exact hj (by rw[e];exact h1)
   ·have h3:t.place[p]? = some t.place[p]:=by simp
    have h4:=h.lt (show p < p+i by omega) h3 h1
    have h5:=b p _ (aL _) h3;omega
  ·exact e
 ·intro x hx y hy;have hxj:x < j:=by
   obtain⟨i,hi,rfl⟩:=gR.mp hx;rw[gM,bM] at hi;rw[List.getElem_take,qH];exact a i _ (by omega) (by simp)
  rcases bD.mp hy with rfl | hy
  ·exact hxj
  ·obtain⟨i,hi,rfl⟩:=gR.mp hy;rw[lA,bM] at hi;rw[xK,qH];have:=b (p+i) t.place[p+i] (by omega) (by simp)
   omega
def Away(t:cY)(j:Nat):Prop:=t.place[fM t.place j]? ≠ some j
theorem aky{t:cY}{j:Nat}(h:∀i,t.slot j≠.live i):Away t j:=fun e=>h (fM t.place j) (by
 unfold SetTable.slot;dsimp only;rw[if_pos (by rw[e];exact beq_self_eq_true _)])
theorem afe{t:cY}{f:Nat->Int}{h:Int}:∀(fuel:Nat) (p:yX) (j:Nat) (d:Option Nat),(∀x,p.dummy=some x->Away t x)->wR t f h fuel p=some (.empty j d)->Away t (d.getD j)
 | 0,p,j,d,_,e=>by cases e
 | fuel+1,p,j,d,hd,e=>by
  unfold wR at e;have adv:∀q:yX,(t.advance q).dummy=q.dummy:=fun q=>by unfold SetTable.advance;split <;> rfl
  split at e
  ·rename_i hs;cases e;cases hq:p.dummy with
   | none=>exact aky fun i z=>by rw[rR,hs] at z;cases z
   | some x=>exact hd x hq
  ·rename_i hs;refine afe fuel _ j d (fun x hx =>?_) e
   rw[adv] at hx;cases hx;exact aky fun i z=>by rw[hs] at z;cases z
  ·split at e
   ·cases e
   ·exact afe fuel _ j d (fun x hx=>by rw[adv] at hx;exact hd x hx) e
theorem auj{t:cY}{h:Int}{j:Nat}{b:Bool}(e:t.freeSlot h=some (j,b)):Away t j:=by
 unfold SetTable.freeSlot at e;split at e
 ·rename_i j' d hp;cases e;exact afe _ _ j' d (fun x hx=>by cases hx) hp
 ·cases e
theorem aqg(n:Nat):(Array.range n).toList.Pairwise (· < ·):=by
 rw[Array.toList_range];exact jL
def Kept(b:Bool)(t:cY):Prop:=Rise t/\t.led=b
theorem Kept.standIn{b:Bool}{t:cY}(h:Kept b t)(n:Nat):Kept b (t.standIn n):=⟨aqg n,h.2⟩
theorem anv{b:Bool}{t:cY}(h:Kept b t)(es:Array (Int×Value))(k:Int)(x:aG):Kept b (layNew t es k x).2.1:=by
 unfold layNew;split
 ·rename_i slot wd e;dsimp only;have h':Kept b (t.put slot).1:=⟨ana h.1 (auj e),h.2⟩;unfold SetTable.orStandIn;split
  ·exact h'
  ·exact h'.standIn _
 ·exact h.standIn _
theorem atm{m f mv:Nat}{b p:Bool}{hs:Array Int}{t:cY}{o:Array Nat}(e:zJ m f mv b p hs=some (t,o)):Kept b t:=by
 unfold zJ at e;cases e1:SetTable.layClean m hs with
 | none=>rw[e1] at e;cases e
 | some ow =>
  rw[e1] at e;cases e;refine⟨?_,rfl⟩;show List.Pairwise _ _;dsimp only;have h0:((aK (m+1)).filterMap fun j=>(ow.getD j none).map (j,·)).map (·.1)=(aK (m+1)).filter fun j=>(ow.getD j none).isSome:=by
   generalize aK (m+1)=l
   induction l with
   | nil=>rfl
   | cons a r ih =>
    cases h:ow.getD a none with
    | none=>simp only[iJ,yG,h,Option.map_none,Option.isSome_none];simpa using ih
    | some z=>simp only[iJ,yG,h,Option.map_some,wG,aV];simpa using ih
  rw[h0];exact pW vW jL
theorem aqe{b:Bool}{t:cY}(h:Kept b t)(es:Array (Int×Value))(n:Nat):Kept b (relayAll t es n).2.1:=by
 unfold relayAll;split
 ·rename_i t' o e;dsimp only;split
  ·have:=atm e;rw[h.2] at this;exact this
  ·exact h.standIn _
 ·exact h.standIn _
theorem aq1(b:Bool):Kept b (.fresh 0 0 b):=⟨List.Pairwise.nil,rfl⟩
open PySem.Spec PyProof.Rows
def keyE(e:Int×Value):Int:=match e.2 with
 | .int k _=>k
 | _=>0
def Ent(e:Int×Value):Prop:=∃k u,e=(qM k,nZ k u)
structure SetG (w:dR) (es:Array (Int×Value)) (t:cY) (ns:List Int):Prop where
 ent:∀e∈es.toList,Ent e
 nd:(es.toList.map keyE).Nodup
 mem:∀k,k∈es.toList.map keyE↔k∈ns
 fit:t.fits es.size=true
 kept:Kept (!w.params.followText "set-order") t
def setO(es:Array (Int×Value))(ep:Nat)(t:cY):Obj:={ cls:=.type "set", dict:=none,data:=.set es ep t }
theorem SetG.elems{prog:cF}{w:dR}{es:Array (Int×Value)}{t:cY}{ns:List Int}(g:SetG w es t ns):ElemsOf (qL prog w) es.toList:=fun e he=>by
 obtain⟨k,u,rfl⟩:=g.ent e he;exact⟨⟨k,intKind_is _ _ _ _,rfl⟩,rfl⟩
theorem SetG.empty(w:dR):SetG w #[] (.fresh 0 0 (!w.params.followText "set-order")) []:=⟨fun e he=>by simp at he,oG,fun k=>by simp,rfl,aq1 _⟩
theorem auv{e:Int×Value}(h:Ent e)(k:Int):vO k e.2=true↔keyE e=k:=by
 obtain⟨j,u,rfl⟩:=h;simp[vO,keyE]
theorem SetG.push{w:dR}{es es':Array (Int×Value)}{t t':cY}{ns:List Int}{k:Int}{u:Tok}(g:SetG w es t ns)(hn:k∉es.toList.map keyE)(hp:es'.toList.Perm (es.push (qM k,.int k u)).toList)(hf:t'.fits es'.size=true)
  (hk:Kept (!w.params.followText "set-order") t'):SetG w es' t' (ns++[k]):=by
 rw[xY] at hp;have hm:=hp.map keyE;rw[cI] at hm;refine⟨fun e he =>?_,?_,fun j =>?_,hf,hk⟩
 ·rcases cX.mp (hp.mem_iff.mp he) with h | h
  ·exact g.ent e h
  ·rw[bY] at h;exact⟨k,u,h⟩
 ·rw[hm.nodup_iff,xH];refine⟨g.nd,by simp,fun a ha b hb e =>?_⟩
  simp only[aV,uZ,bY] at hb;subst hb;subst e;exact hn ha
 ·rw[hm.mem_iff,cX,cX,g.mem j];rfl
theorem SetG.perm{w:dR}{es es':Array (Int×Value)}{t t':cY}{ns:List Int}(g:SetG w es t ns)(hp:es'.toList.Perm es.toList)(hf:t'.fits es'.size=true)(hk:Kept (!w.params.followText "set-order") t'):SetG w es' t' ns :=
 ⟨fun e he=>g.ent e (hp.mem_iff.mp he),(hp.map keyE).nodup_iff.mpr g.nd,fun k=>by rw[(hp.map keyE).mem_iff,g.mem k],hf,hk⟩
section
variable{prog:cF}{w:dR}{A:cQ}{E:aG->aJ->Prop}{s:aJ}
theorem aor{h:fH}{a:aZ}{es es':Array (Int×Value)}{ep:Nat}{t t':cY}(ho:h.get? a=some (setO es ep t)):(h.update a (wY es' t')).get? a=some (setO es' (ep+1) t'):=by
 have:=cC (wY es' t') ho (by rw[putSet_of es' t' (o:=setO es ep t) rfl];rfl)
 rw[putSet_of es' t' (o:=setO es ep t) rfl] at this;exact this
theorem aza{a:aZ}{es es1:Array (Int×Value)}{ep:Nat}{t t2:cY}{ns:List Int}(g:Bool->Sem Unit)(hg:∀(b:Bool) (s₁:aJ) (Q':Unit->aJ->Prop),Q' () s₁->bK (bR prog w) A (g b) Q' E s₁)
  (ho:s.heap.get? a=some (setO es ep t)) (G:SetG w es1 t2 ns) (hb:es1.size < nU) {wasDummy:Bool} {R:Option Bool->aJ->Prop}
  (h:∀h' es' ep' t',fJ a s.heap h'->h'.get? a=some (setO es' ep' t')->SetG w es' t' ns->es'.size=es1.size->R (some true) { s with heap:=h' }) :
  bK (bR prog w) A (do
    storeSet a es1 t2
    if (!wasDummy&&t2.tooFull)=true then do
      g (relayAll t2 es1 (nM es1.size)).2.2
      storeSet a (relayAll t2 es1 (nM es1.size)).1 (relayAll t2 es1 (nM es1.size)).2.1
      pure (some true)
     else pure (some true)) R E s:=by
 refine aA (wpAny_storeSet_of ho rfl ?_ (fits_of_scanBound hb));have h1:=aor (es':=es1) (t':=t2) ho;have b1:=dI s.heap a (wY es1 t2);split
 ·have hp:=relayAll_perm t2 es1 (nM es1.size);have hsz:(relayAll t2 es1 (nM es1.size)).1.size=es1.size:=by rw[<-bM,hp.length_eq,bM]
  refine aA (hg _ _ _ ?_);refine aA (wpAny_storeSet_of h1 rfl ?_ (fits_of_scanBound (by rw[hsz];exact hb)))
  exact aH (h _ _ _ _ (b1.trans (dI _ a _)) (aor h1) (G.perm hp (relayAll_fits _ _ _) (aqe G.kept _ _)) hsz)
 ·exact aH (h _ _ _ _ b1 h1 G rfl)
theorem a6q{a:aZ}{es:Array (Int×Value)}{ep:Nat}{t:cY}{ns:List Int}{k:Int}{u:Tok}{Q:Bool->aJ->Prop}(ho:s.heap.get? a=some (setO es ep t))(G:SetG w es t ns)(hb:es.size+1 < nU)
  (h:∀h' es' ep' t' b,fJ a s.heap h'->h'.get? a=some (setO es' ep' t')->SetG w es' t' (ns++[k])->es'.size<=es.size+1->Q b { s with heap:=h' }) :
  bK (bR prog w) A (setAddHashed a (.int k u) (qM k)) Q E s:=by
 have hel:ElemsOf (qL prog w) es.toList:=G.elems;have hkey:(qL prog w).is k (.int k u)=true:=intKind_is _ _ _ _;unfold setAddHashed setAddHashedIn;refine eU (aA (wpAny_setState_of ho rfl G.fit ?_));dsimp only;rw[byScan_of (knd:=qL prog w) rfl (by omega) hel]
 simp only[↓reduceIte];unfold setAddByScan;refine aA ?_;refine aA (lB ?_);refine aA (wpAny_setScan_of (knd:=qL prog w) hkey ho rfl G.fit hel ?_);cases hr:qT (fun e=>(qL prog w).is k e.2) es.toList with
 | some j =>
  dsimp only;obtain⟨hj,hpj,_⟩:=lQ.mp hr;have hin:k∈es.toList.map keyE:=bV.mpr ⟨_,cZ hj,(auv (G.ent _ (cZ hj)) k).mp hpj⟩;refine aH (aH ?_);refine h s.heap es ep t _ (xR a s.heap) ho ⟨G.ent,G.nd,fun j' =>?_,G.fit,G.kept⟩ (by omega)
  rw[cX,bY,G.mem j'];exact⟨.inl,fun z=>z.elim id fun z=>z▸(G.mem k).mp hin⟩
 | none =>
  dsimp only;have hout:k∉es.toList.map keyE:=fun z=>by
   obtain⟨e,he,hk⟩:=bV.mp z;have h1:=tX.mp hr e he;have h2:(qL prog w).is k e.2=true:=(auv (G.ent e he) k).mpr hk;rw[h2] at h1;cases h1
  have hgw:∀(b:Bool) {s₁:aJ} {Q':Unit->aJ->Prop},Q' () s₁->bK (bR prog w) A (match b with | true=>rule "set.scan.the-table-gave-way" | false=>pure ()) Q' E s₁ :=
   fun b s₁ Q' hq=>by cases b <;> first | exact aH hq | exact lB hq
  have hperm:=layNew_perm t es (qM k) (.int k u);have hfits:=layNew_fits t es (qM k) (.int k u);have hkept:=anv G.kept es (qM k) (.int k u);show bK (bR prog w) A _ _ _ _
  change bK (bR prog w) A (match layNew t es (qM k) (.int k u) with | (es,t,wasDummy,gave)=>_) _ _ _
  generalize hL:layNew t es (qM k) (.int k u)=L at hperm hfits hkept ⊢
  obtain⟨es1,t1,wasDummy,gave⟩:=L;dsimp only at hperm hfits hkept ⊢
  have G1:=G.push hout hperm hfits hkept;have hsz1:es1.size=es.size+1:=by rw[<-bM,hperm.length_eq,bM,Array.size_push]
  refine aA (hgw _ ?_);split
  ·refine aA ?_;rw[hashByValue_scannable 8 rfl];refine aH ?_;refine aza _ ?_ ho (ns:=ns++[k]) ?_ (by omega) ?_
   ·intro b s₁ Q' hq;cases b <;> first | exact aH hq | exact lB hq
   ·exact G1
   ·intro h' es' ep' t' hsb ho' G' hz;exact aH (h h' es' ep' t' _ hsb ho' G' (by omega))
  ·refine aA (aH ?_);simp only[↓reduceIte];refine aza _ ?_ ho (ns:=ns++[k]) G1 (by omega) ?_
   ·intro b s₁ Q' hq;cases b <;> first | exact aH hq | exact lB hq
   ·intro h' es' ep' t' hsb ho' G' hz;exact aH (h h' es' ep' t' _ hsb ho' G' (by omega))
end
section
variable{prog:cF}{w:dR}{A:cQ}{R:Result->aJ->Prop}{I:aZ}{fp wr:List aZ}{G:Array GenState->Array GenState->Prop}{n:Nat}{P:Nat->aG->Prop}{St:Nat->aJ->Prop}
theorem azg(W:WalksS prog w A.in1 I fp wr G n P St)(S:aZ)(hSf:S∉fp)(val:Nat->Int)(hval:∀i v,P i v->∃t,v=.int (val i) t)(hb:n+1 < nU) :
  ∀(k i:Nat) (s:aJ) (es:Array (Int×Value)) (ep:Nat) (t:cY),n - i=k->i<=n->St i s->s.heap.get? S=some (setO es ep t)->SetG w es t ((aK i).map val)->es.size<=i ->
   (∀s' es' ep' t',Moved (S::wr) G s s'->s'.heap.get? S=some (setO es' ep' t')->SetG w es' t' ((aK n).map val)->es'.size<=n->R (.ok (.ret .none)) s') ->
   oK (bR prog w) A (.builtin "set.update.loop" ⟨[.ref S,.ref I],[]⟩) R s:=by
 have hSw:S∉wr:=fun h=>hSf (W.sub _ h)
 have hsub:∀b∈wr,b∈S::wr:=fun b hb=>aN _ hb
 intro k
 induction k with
 | zero =>
  intro i s es ep t hk hi hst ho g hz hR;have hin:i=n:=by omega
  subst hin;refine codeAny_builtin uO ?_;rw[kO oZ _];show bK _ A.in1 (nW (.ref I) >>= _) _ _ s;refine aA (W.done s _ _ hst fun s' hm =>?_)
  show bK _ A.in1 (ret cT) _ _ s';exact aH (hR s' es ep t (hm.mono hsub) (hm.heap S _ hSw ho) g hz)
 | succ k ih =>
  intro i s es ep t hk hi hst ho g hz hR;have hlt:i < n:=by omega
  refine codeAny_builtin uO ?_;rw[kO oZ _];show bK _ A.in1 (nW (.ref I) >>= _) _ _ s;refine aA (W.item i s _ _ hlt hst fun v s' hP hst' hm =>?_)
  obtain⟨u,rfl⟩:=hval i v hP;have ho':s'.heap.get? S=some (setO es ep t):=hm.heap S _ hSw ho;show bK _ A.in1 (nJ [nZ (val i) u] (setAdd S (.int (val i) u)) >>= _) _ _ s';refine aA (eU ?_);unfold setAdd;refine eU ?_;refine aA ((qL prog w).pyHash (k:=val i) (intKind_is _ _ _ _) ?_);refine a6q (s:={ s' with toks:=s'.toks+1 }) (u:=u) (k:=val i) ho' g (by omega) fun h' es' ep' t' b hsb ho2 g2 hz2 =>?_
  have g3:SetG w es' t' ((aK (i+1)).map val):=by
   rw[iI,cI];exact g2
  refine aH ⟨plainId_quiet oZ _,ih (i+1) _ es' ep' t' (by omega) hlt (W.frame _ s' _ _ hst' (iG _) fun b hb o e =>?_) ho2 g3 (by omega) fun s'' es'' ep'' t'' hm'' ho'' g'' hz'' =>?_⟩
  ·rw[hsb.2 b (fun h:b=S=>hSf (by rw[<-h];exact hb))];exact e
  ·refine hR s'' es'' ep'' t'' (Moved.trans W.gtrans ((hm.mono hsub).then_heap (iG _) fun b o hb e =>?_) hm'') ho'' g'' hz''
   rw[hsb.2 b (fun h:b=S=>hb (by rw[h];exact aR))];exact e
end
theorem sub_tuple_set:isSubtype (.type "tuple") (.type "set")=pure false:=by rw[isSubtype_type];kernel_rfl
theorem sub_tuple_frozenset:isSubtype (.type "tuple") (.type "frozenset")=pure false:=by rw[isSubtype_type];kernel_rfl
section
variable{prog:cF}{w:dR}{A:cQ}{E:aG->aJ->Prop}{s:aJ}
abbrev fresh0(w:dR):Obj:=setO #[] 0 (.fresh 0 0 (!w.params.followText "set-order"))
theorem a0w(a:aG){Q₁:aG->aJ->Prop}(h:Q₁ (.ref s.heap.objs.size) { s with heap:=s.heap.push (fresh0 w) }) :
  oK (bR prog w) A (.call (.builtin "set.__new__") ⟨[.type "set", a],[]⟩) (wants Q₁ E) s:=by
 refine codeAny_of_tree ?_;show bK _ A.in1 (do checkBuiltinCall "set.__new__" ⟨[.type "set", a],[]⟩;again (.builtin "set.__new__" ⟨[.type "set", a],[]⟩)) _ _ s
 refine aA (wpAny_of_eq (F.newCall_set_1 a) (aH ⟨plainId_quiet yU _,codeAny_builtin F.entry_set_new ?_⟩));rw[kO yU _];unfold kJ.«set.__new__» Builtin.Frozenset.newClass;have hsub:=sub_set_self;obtain⟨hp,g,d,tk,os⟩:=s;dsimp only;wp_walk;refine wpAny_askSetting (aH ?_);dsimp only;simp only[newObj];refine aA (wpAny_alloc (aH ?_));exact aH h
set_option maxRecDepth 100000 in
set_option maxHeartbeats 3200000 in
theorem a3d{l:aZ}{items:Array aG}{ns:List Int}{Q:aG->aJ->Prop}(hh:A.handled=none)(hl:s.heap.IsTuple l items)(hi:oV items.toList ns)(hb:items.size+1 < nU)
  (h:∀(h':fH) (tk:Nat) es ep t,h'.get? s.heap.objs.size=some (setO es ep t)->SetG w es t ns->es.size<=items.size->(∀b o,s.heap.get? b=some o->h'.get? b=some o)->Q (.ref s.heap.objs.size) { s with heap:=h',toks:=tk }) :
  bK (bR prog w) A (call (.type "set") [.ref l]) Q E s:=by
 obtain⟨c,tl,hmro⟩:=lJ.mro;have hmade:=lJ.made;have hsub:=lJ.sub;refine mO (codeAny_of_tree ?_);show bK _ _ (callAny (.type "set") _) _ _ _;refine aH ⟨Code.quiet_builtin _ (by decide +kernel),codeAny_builtin F.entry_type_call ?_⟩
 rw[Around.under_plain (weight_type_call_type "set" [.ref l] []) rfl];have h1:=lJ.notType;have h2:=lJ.canCreate;have hct:=F.typeCall_set_1 (.ref l)
 repeat (any_goals (first | assumption | wp_step))
 refine lC (a0w (.ref l) (E:=E) (Q₁:=fun obj s₁=>obj=.ref s.heap.objs.size/\s₁={ s with heap:=s.heap.push (fresh0 w) }) ⟨rfl,rfl⟩) fun r s₁ hr =>?_
 cases r with
 | error e=>exact hr
 | ok fl =>
  cases fl with
  | ret obj =>
   obtain⟨rfl,rfl⟩:=hr;have hS:(s.heap.push (fresh0 w)).get? s.heap.objs.size=some (fresh0 w):=aO _ rfl;have hT:Shared.TypeIs { s with heap:=s.heap.push (fresh0 w) } (.ref s.heap.objs.size) "set" := ⟨_,hS,rfl⟩
   have hli:=lJ.init.lookup;have hbi:=lJ.init.bind (.ref s.heap.objs.size)
   repeat (any_goals (first | assumption | wp_step))
   refine lC (codeAny_call_builtin (R:=wants (fun r s₂=>r=.none/\∃h' tk es ep t,s₂={ s with heap:=h',toks:=tk }/\h'.get? s.heap.objs.size=some (setO es ep t)/\SetG w es t ns/\es.size<=items.size /\
     (∀b o,s.heap.get? b=some o->h'.get? b=some o)) E) lJ.init.plain F.entry_set_init (check_set_init_1 hT ?_)) fun r₂ s₂ hr₂ =>?_
   ·obtain⟨ol,hol,hcl,nl,hdl⟩:=hl;obtain⟨ocls,odict,odata,oslots⟩:=ol;simp only at hcl hdl;subst hcl;subst hdl;have hol':(s.heap.push (fresh0 w)).get? l=some { cls:=.type "tuple", dict:=odict,data:=.seq items nl,slots:=oslots }:=aD _ hol;have hsls:=sub_tuple_set;have hslf:=sub_tuple_frozenset;have hne:(jR "tuple" == jR "dict")=false:=by decide
    have hl1:(s.heap.push (fresh0 w)).IsTuple l items:=⟨_,hol',rfl,nl,rfl⟩;unfold kJ.«set.__init__» noKeywords Builtin.Frozenset.updateFrom;generalize hPI:pyIter=PI;wp_walk;subst hPI;refine wpAny_pyIter_tuple hl1 ?_;refine aA (wpAny_runValue ?_);have hlS:l < s.heap.objs.size:=aP hol;have hh3:A.in1.in1.in1.handled=none:=by simp[hh]
    have hneI:l≠(s.heap.push (fresh0 w)).objs.size:=by
     rw[cH];exact bI (rG hlS)
    have hSf:s.heap.objs.size∉[(s.heap.push (fresh0 w)).objs.size,l]:=by
     rw[cH];simp only[bD,bY,fP,or_false,not_or];exact⟨Nat.ne_of_lt (kZ _),gY hlS⟩
    have hval:∀(i:Nat) (v:aG),items[i]? = some v->∃t,v=.int ((fun i=>ns.getD i 0) i) t:=fun i v hv =>
     PyProof.Rows.IntsAre.int_at hi i v (by rw[pZ];exact hv)
    have hlen:items.size=ns.length:=by rw[<-bM];exact hi.length
    have hns:(aK items.size).map (fun i=>ns.getD i 0)=ns:=by
     rw[hlen];apply rT
     ·simp
     ·intro i h1 h2;simp[aM,h2]
    refine azg ((Walks.tuple hh3 _ l hneI items).toS) s.heap.objs.size hSf (fun i=>ns.getD i 0) hval hb (items.size - 0) 0 _ #[] 0 _ (by omega) (eF _)
     ⟨⟨_,aO _ rfl,rfl,rfl⟩,(hl1.push _)⟩ (aD _ hS) (SetG.empty w) (eF _) ?hR
    case hR =>
     intro s' es ep t hm ho' g' hz';rw[hns] at g';obtain⟨h',g₀,d',tk',os'⟩:=s';have eg:g₀=s.gens:=hm.gens;have ed:d'=s.drawn:=hm.drawn;have eo:os'=s.os:=hm.os;subst eg;subst ed;subst eo;show bK _ _ _ _ _ _;refine aH ?_;show bK _ _ (ret cT) _ _ _;refine aH ⟨rfl,h',tk',es,ep,t,rfl,ho',g',hz',fun b o e =>?_⟩
     have hlt:=aP e;have hb1:b≠s.heap.objs.size:=bI hlt;have hb2:b≠(s.heap.push (fresh0 w)).objs.size:=by
      rw[cH];exact bI (rG hlt)
     exact hm.heap b o (by simp only[bD,bY,fP,or_false,not_or];exact⟨hb1,hb2⟩) (aD _ (aD _ e))
   ·cases r₂ with
    | error e=>exact hr₂
    | ok fl₂ =>
     cases fl₂ with
     | ret r =>
      obtain⟨rfl,h',tk,es,ep,t,rfl,hS',g',hz',hk'⟩:=hr₂
      repeat (any_goals (first | assumption | wp_step))
      exact h _ _ _ _ _ hS' g' hz' hk'
     | _=>exact hr₂.elim
  | _=>exact hr.elim
end
theorem aic:entryFor table "set.__iter__" = some kJ.«frozenset.__iter__» :=
 entryFor_alias (id' := "frozenset.__iter__") (by kernel_rfl) rfl (by decide +kernel) (by kernel_rfl)
theorem jg:Slot "set_iterator" "__next__" "set_iterator.__next__" :=
 .of (owner := "set_iterator") (n := "__next__") (by rw[typeLookup_type,builtinLookup_eq_fast];kernel_rfl) (by decide +kernel) (by decide +kernel) (by decide +kernel)
  (by first | exact .inl (by decide +kernel) | exact .inr (by decide +kernel)) (by rw[isSubtype_type];kernel_rfl)
theorem yo:entryFor table "set_iterator.__next__" = some kJ.«set_iterator.__next__» := entryFor_of_tree (by kernel_rfl)
theorem afw:Slot "set_iterator" "__iter__" "set_iterator.__iter__" :=
 .of (owner := "set_iterator") (n := "__iter__") (by rw[typeLookup_type,builtinLookup_eq_fast];kernel_rfl) (by decide +kernel) (by decide +kernel) (by decide +kernel)
  (by first | exact .inl (by decide +kernel) | exact .inr (by decide +kernel)) (by rw[isSubtype_type];kernel_rfl)
theorem aki:entryFor table "set_iterator.__iter__" = some kJ.«dict_keyiterator.__iter__» :=
 entryFor_alias (id' := "dict_keyiterator.__iter__") (by kernel_rfl) rfl (by decide +kernel) (by kernel_rfl)
theorem ao1:Manifest.owners.lookup (String.ofList ['r','o','t','a','r','e','t','i','_','t','e','s'].reverse)=some Manifest.sig_set_iterator:=by kernel_rfl
theorem aag(a:aG):argsOk "set_iterator.__next__" ⟨[a],[]⟩:=by
 unfold argsOk;rw[signature?_of (id := "set_iterator.__next__") (n:=['_','_','t','x','e','n','_','_']) (o:=['r','o','t','a','r','e','t','i','_','t','e','s']) (by kernel_rfl) ao1];kernel_rfl
theorem amq(a:aG):argsOk "set_iterator.__iter__" ⟨[a],[]⟩:=by
 unfold argsOk;rw[signature?_of (id := "set_iterator.__iter__") (n:=['_','_','r','e','t','i','_','_']) (o:=['r','o','t','a','r','e','t','i','_','t','e','s']) (by kernel_rfl) ao1];kernel_rfl
def IsSI(h:fH)(I S:aZ)(first:aG)(i n ep:Nat):Prop:=∃o,h.get? I=some o/\o.cls=.type "set_iterator" /\ o.data=.fields #[first,.int i 0,.ref S,.int n 0,.int ep 0]
theorem IsSI.typeIs{s:aJ}{I S:aZ}{first:aG}{i n ep:Nat}(x:IsSI s.heap I S first i n ep):s.TypeIs (.ref I) "set_iterator" := let ⟨o,ho,hc,_⟩:=x;⟨o,ho,hc⟩
theorem IsSI.at{h h':fH}{I S:aZ}{first:aG}{i n ep:Nat}(x:IsSI h I S first i n ep)(e:∀o,h.get? I=some o->h'.get? I=some o):IsSI h' I S first i n ep:=let ⟨o,ho,r⟩:=x;⟨o,e _ ho,r⟩
section
variable{prog:cF}{w:dR}{A:cQ}{E:aG->aJ->Prop}{s:aJ}
theorem am2{I S:aZ}{first:aG}{i n ep:Nat}{Q:aG->aJ->Prop}(hit:IsSI s.heap I S first i n ep)(h:Q (.ref I) s):bK (bR prog w) A (pyIter (.ref I)) Q E s:=by
 refine wpAny_pyIter_slot hit.typeIs afw (eY afw hit.typeIs aki ?_ (amq _));show bK _ _ (ret (.ref I)) _ _ s;exact aH ⟨_,rfl, "set_iterator", _,hit.typeIs,jg.lookup,h⟩
theorem ase{I S:aZ}{slot i:Nat}{es:Array (Int×Value)}{ep:Nat}{t:cY}{Q:Option aG->aJ->Prop}{x:aG}{slot':Nat}(hit:IsSI s.heap I S (.int slot 0) i es.size ep)(ho:s.heap.get? S=some (setO es ep t))(hf:t.fits es.size=true)
  (hn:∀(A':cQ) (Q':Option (aG×Nat)->aJ->Prop) (E':aG->aJ->Prop),Q' (some (x,slot')) s->bK (bR prog w) A' (qZ S slot i ep) Q' E' s)
  (hQ:∀h',IsSI h' I S (.int slot' 0) (i+1) es.size ep->fJ I s.heap h'->Q (some x) { s with heap:=h' }) :
  bK (bR prog w) A (nW (.ref I)) Q E s:=by
 obtain⟨o,hI,hc,hd⟩:=id hit;unfold nW;refine aA (wpAny_attempt (eE (name:=jO "__next__") hit.typeIs jg
  (eY jg hit.typeIs yo ?_ (aag _))))
 refine aA (aH ?_);refine aA (wpAny_fieldsOf hI hd ?_);dsimp only;refine aA (wpAny_setEntries_of ho rfl hf ?_);rw[if_neg (by simp)]
 simp only[cD];refine aA (hn _ _ _ ?_);dsimp only;refine aA (fL hI hd (by simp) ?_)
 have h1:=cC (mL (·.setIfInBounds 0 (jZ (slot':Int)))) hI (eV (bO hd _));refine aA (fL h1 (bO hd _) (by simp) ?_)
 refine aH ⟨_,rfl,aH (hQ _ ?_ ((dI ..).trans (dI ..)))⟩;exact⟨_,cC _ h1 (eV (bO (bO hd _) _)),(jV ..).trans ((jV ..).trans hc),by
  rw[bO (bO hd _)];simp[jZ]⟩
theorem ayd{I S:aZ}{slot i:Nat}{es:Array (Int×Value)}{ep:Nat}{t:cY}{Q:Option aG->aJ->Prop}(hh:A.handled=none)(hit:IsSI s.heap I S (.int slot 0) i es.size ep)(ho:s.heap.get? S=some (setO es ep t))(hf:t.fits es.size=true)
  (hn:∀(A':cQ) (Q':Option (aG×Nat)->aJ->Prop) (E':aG->aJ->Prop),Q' none s->bK (bR prog w) A' (qZ S slot i ep) Q' E' s)
  (hQ:∀h',vY I s.heap h'->Q none { s with heap:=h' }):bK (bR prog w) A (nW (.ref I)) Q E s:=by
 obtain⟨o,hI,hc,hd⟩:=id hit;unfold nW;refine aA (wpAny_attempt (eE (name:=jO "__next__") hit.typeIs jg
  (eY jg hit.typeIs yo ?_ (aag _))))
 refine aA (aH ?_);refine aA (wpAny_fieldsOf hI hd ?_);dsimp only;refine aA (wpAny_setEntries_of ho rfl hf ?_);rw[if_neg (by simp)]
 simp only[cD];refine aA (hn _ _ _ ?_);dsimp only;refine aA (fL hI hd (by simp) ?_)
 show bK _ _ (newExc (.type "StopIteration") [] >>= _) _ _ _;refine aA ?_;simp only[newExc,newTuple];refine aA (bZ ?_ (by size_fits))
 refine aA (m:=firstArgMember _ _) (wpAny_of_eq (a:=cT) (by first | rfl | (simp only[firstArgMember];rfl)) ?_)
 refine bZ ?_ (by size_fits)
 simp only[raiseNew];refine aA (wpAny_handled ?_);rw[show A.in1.handled=none from hh]
 refine aA (aH (wpAny_throw ?_));refine aA (wpAny_isInstance (T := "StopIteration") (b:=true) ⟨_,aO _ rfl,rfl⟩ isSubtype_stop ?_);exact aH (hQ _ (((dI ..).extBut.push _).push _))
theorem awc{I S q:aZ}{i j m:Nat}{es:Array (Int×Value)}{ep:Nat}{t:cY}{Q:Option aG->aJ->Prop}{x:Int×Value}{ps:Array aG}(hit:IsSI s.heap I S (.ref q) i es.size ep)(ho:s.heap.get? S=some (setO es ep t))(hf:t.fits es.size=true)
  (hq:∃oq,s.heap.get? q=some oq/\oq.data=.seq ps m) (hp:ps[i]? = some (.int (j:Nat) 0)) (hx:es[j]? = some x)
  (hQ:∀h',IsSI h' I S (.ref q) (i+1) es.size ep->fJ I s.heap h'->Q (some x.2) { s with heap:=h' }) :
  bK (bR prog w) A (nW (.ref I)) Q E s:=by
 obtain⟨o,hI,hc,hd⟩:=id hit;obtain⟨oq,hoq,hdq⟩:=hq;unfold nW;refine aA (wpAny_attempt (eE (name:=jO "__next__") hit.typeIs jg
  (eY jg hit.typeIs yo ?_ (aag _))))
 refine aA (aH ?_);refine aA (wpAny_fieldsOf hI hd ?_);dsimp only;refine aA (wpAny_setEntries_of ho rfl hf ?_);rw[if_neg (by simp)]
 refine aA (iU hoq hdq ?_);dsimp only;simp only[cD,hp];unfold setNextDrawn;refine aA (aA (wpAny_setState_of ho rfl hf ?_));dsimp only;rw[if_neg (by simp)]
 rw[hx];refine aH ?_;refine aA (fL hI hd (by simp) ?_)
 refine aH ⟨_,rfl,aH (hQ _ ?_ (dI ..))⟩;exact⟨_,cC _ hI (eV (bO hd _)),(jV ..).trans hc,by
  rw[bO hd];simp[jZ]⟩
theorem ak0{I S q:aZ}{i m:Nat}{es:Array (Int×Value)}{ep:Nat}{t:cY}{Q:Option aG->aJ->Prop}{ps:Array aG}(hh:A.handled=none)(hit:IsSI s.heap I S (.ref q) i es.size ep)(ho:s.heap.get? S=some (setO es ep t))(hf:t.fits es.size=true)
  (hq:∃oq,s.heap.get? q=some oq/\oq.data=.seq ps m) (hp:ps[i]? = none)
  (hQ:∀h',vY I s.heap h'->Q none { s with heap:=h' }):bK (bR prog w) A (nW (.ref I)) Q E s:=by
 obtain⟨o,hI,hc,hd⟩:=id hit;obtain⟨oq,hoq,hdq⟩:=hq;unfold nW;refine aA (wpAny_attempt (eE (name:=jO "__next__") hit.typeIs jg
  (eY jg hit.typeIs yo ?_ (aag _))))
 refine aA (aH ?_);refine aA (wpAny_fieldsOf hI hd ?_);dsimp only;refine aA (wpAny_setEntries_of ho rfl hf ?_);rw[if_neg (by simp)]
 refine aA (iU hoq hdq ?_);dsimp only;simp only[cD,hp];refine aA (fL hI hd (by simp) ?_)
 have h1:=cC (mL (·.setIfInBounds 0 (jZ 0))) hI (eV (bO hd _));refine aA (fL h1 (bO hd _) (by simp) ?_)
 show bK _ _ (newExc (.type "StopIteration") [] >>= _) _ _ _;refine aA ?_;simp only[newExc,newTuple];refine aA (bZ ?_ (by size_fits))
 refine aA (m:=firstArgMember _ _) (wpAny_of_eq (a:=cT) (by first | rfl | (simp only[firstArgMember];rfl)) ?_)
 refine bZ ?_ (by size_fits)
 simp only[raiseNew];refine aA (wpAny_handled ?_);rw[show A.in1.handled=none from hh]
 refine aA (aH (wpAny_throw ?_));refine aA (wpAny_isInstance (T := "StopIteration") (b:=true) ⟨_,aO _ rfl,rfl⟩ isSubtype_stop ?_);exact aH (hQ _ ((((dI ..).trans (dI ..)).extBut.push _).push _))
end
section
variable{prog:cF}{w:dR}{A:cQ}{E:aG->aJ->Prop}{s:aJ}
theorem ahw{Q:Bool->aJ->Prop}(h:Q (w.params.followText "set-order") s):bK (bR prog w) A setsByText Q E s:=by
 unfold setsByText;exact aA (wpAny_askSetting (aH h))
theorem aqp{S:aZ}{slot g i j:Nat}{es:Array (Int×Value)}{ep:Nat}{t:cY}{e:Int×Value}{Q:Option (aG×Nat)->aJ->Prop}(ho:s.heap.get? S=some (setO es ep t))(hf:t.fits es.size=true)
  (hw:w.params.followText "set-order" = false) (hd:(!t.plain&&decide (es.size > 1))=false) (hl:t.led=true) (hb:fM t.place slot=i) (he:es[i]? = some e) (hp:t.place[i]? = some j)
  (h:Q (some (e.2,j+1)) s):bK (bR prog w) A (qZ S slot g ep) Q E s:=by
 unfold qZ;refine aA (wpAny_setState_of ho rfl hf ?_);dsimp only;refine aA (ahw ?_);rw[hw,if_neg (by simp)]
 show bK _ _ (if (!t.plain&&decide (es.size > 1))=true then _ else _) _ _ _
 rw[hd,if_neg (by simp)]
 refine aA (m:=if (!t.led && !es.isEmpty)=true then _ else _) ?_
 rw[hl,if_neg (by simp)]
 refine aH ?_;rw[hb,he,hp];exact aH h
theorem atd{S:aZ}{slot g i:Nat}{es:Array (Int×Value)}{ep:Nat}{t:cY}{Q:Option (aG×Nat)->aJ->Prop}(ho:s.heap.get? S=some (setO es ep t))(hf:t.fits es.size=true)
  (hw:w.params.followText "set-order" = false) (hd:(!t.plain&&decide (es.size > 1))=false) (hl:t.led=true) (hb:fM t.place slot=i) (he:es[i]? = none)
  (h:Q none s):bK (bR prog w) A (qZ S slot g ep) Q E s:=by
 unfold qZ;refine aA (wpAny_setState_of ho rfl hf ?_);dsimp only;refine aA (ahw ?_);rw[hw,if_neg (by simp)]
 show bK _ _ (if (!t.plain&&decide (es.size > 1))=true then _ else _) _ _ _
 rw[hd,if_neg (by simp)]
 refine aA (m:=if (!t.led && !es.isEmpty)=true then _ else _) ?_
 rw[hl,if_neg (by simp)]
 refine aH ?_;rw[hb,he];exact aH h
theorem aln{S:aZ}{slot g:Nat}{es:Array (Int×Value)}{ep:Nat}{t:cY}{Q:Option (aG×Nat)->aJ->Prop}(ho:s.heap.get? S=some (setO es ep t))(hf:t.fits es.size=true)
  (hw:w.params.followText "set-order" = true) (h:Q (((lK (w.params.setOrder S ep) es)[g]?).map fun e=>(e.2,slot)) s):bK (bR prog w) A (qZ S slot g ep) Q E s:=by
 unfold qZ;refine aA (wpAny_setState_of ho rfl hf ?_);dsimp only;refine aA (ahw ?_);rw[hw,if_pos rfl,if_neg (by simp)]
 unfold setWalk;refine aA (aA (wpAny_setState_of ho rfl hf ?_));dsimp only;refine aA (ahw ?_);rw[hw,if_pos rfl];exact aA (wpAny_askSetting (aH (aH h)))
theorem afr{α:Type}:∀(l:List α) (i:Nat) (x:α),l[i]? = some x->(x::l.eraseIdx i).Perm l
 | [],i,x,h=>by simp at h
 | a::r,0,x,h=>by simp at h;subst h;exact .refl _
 | a::r,i+1,x,h=>by
  rw[List.getElem?_cons_succ] at h;exact(List.Perm.swap a x _).trans ((afr r i x h).cons a)
theorem asx{α:Type}(next:Nat->Nat):∀(fuel k:Nat) (left:List α) (out:Array α),left.length=fuel->(lK.go next fuel k left out).toList.Perm (out.toList++left)
 | 0,k,left,out,h=>by
  have:left=[]:=uL.mp h;subst this;show out.toList.Perm _;simp
 | fuel+1,k,left,out,h=>by
  have hlt:next k % left.length < left.length:=wZ _ (by omega)
  unfold lK.go;have hx:left[next k % left.length]? = some left[next k % left.length]:=aF hlt;rw[hx];dsimp only;have hlen:(left.eraseIdx (next k % left.length)).length=fuel:=by rw[tG hlt];omega
  refine(asx next fuel (k+1) _ _ hlen).trans ?_;rw[xY,dB];exact List.Perm.append_left _ (afr _ _ _ hx)
theorem ag2{α:Type}(next:Nat->Nat)(xs:Array α):(lK next xs).toList.Perm xs.toList:=by
 have:=asx next xs.size 0 xs.toList #[] (by simp)
 simpa[lK] using this
theorem ai0:∀(n:Nat) {α:Type} (xs:List α) (s:aJ) (Q:List α->aJ->Prop),xs.length=n->(∀ys d,ys.Perm xs->Q ys { s with drawn:=d })->bK (bR prog w) A (drawOrder n xs) Q E s
 | 0,α,xs,s,Q,h,q=>by
  have:xs=[]:=uL.mp h;subst this;exact aH (q [] s.drawn (.refl _))
 | n+1,α,[],s,Q,h,q=>by cases h
 | n+1,α,x::r,s,Q,h,q=>by
  unfold drawOrder;intro Γ p hΓ;show(x::r).length≠0/\_;refine⟨by simp,?_⟩
  revert Γ p hΓ
  show bK _ _ (match (x::r)[(bR prog w).w.draws .order (s.drawn.get .order) % (x::r).length]? with | some y=>_ | none=>_) _ _ _
  have hlt:(bR prog w).w.draws .order (s.drawn.get .order) % (x::r).length < (x::r).length:=wZ _ (by simp)
  have hx:=aF hlt;rw[hx];refine aA (ai0 n _ _ _ (by rw[tG hlt];simpa using h) fun ys d hp =>?_)
  exact aH (q _ _ ((hp.cons _).trans (afr _ _ _ hx)))
end
def PW(ord:Array (Int×Value))(i:Nat)(v:aG):Prop:=∃e,ord[i]? = some e/\v=e.2
theorem am5{h h':fH}{I S:aZ}{o:Obj}(hne:S≠I)(ho:h.get? S=some o)(hs:fJ I h h'):h'.get? S=some o:=(hs.2 S hne).trans ho
theorem aum{t:cY}{n:Nat}(h:t.fits n=true):t.place.size=n:=by
 unfold SetTable.fits at h;rw[bH] at h;exact eq_of_beq h.1
section
variable{prog:cF}{w:dR}{A:cQ}
theorem av6(hh:A.handled=none)(I S:aZ)(hne:S≠I){es:Array (Int×Value)}{ep:Nat}{t:cY}(hf:t.fits es.size=true)(hw:w.params.followText "set-order" = true) :
  Walks prog w A I [I,S] [I] es.size (PW (lK (w.params.setOrder S ep) es)) (fun i h=>IsSI h I S (.int (0:Nat) 0) i es.size ep/\h.get? S=some (setO es ep t)) where
 sub:=fun b hb=>by simp at hb;simp[hb]
 frame:=fun _ _ _ st hk=>⟨st.1.at fun o e=>hk I (by simp) o e,hk S (by simp) _ st.2⟩
 item:=fun i s Q E hi st hQ=>by
  have hsz:(lK (w.params.setOrder S ep) es).size=es.size:=by rw[<-bM,(ag2 _ _).length_eq,bM]
  have hx:(lK (w.params.setOrder S ep) es)[i]? = some (lK (w.params.setOrder S ep) es)[i]:=by simp[hsz,hi]
  refine ase (x:=((lK (w.params.setOrder S ep) es)[i]).2) (slot':=0) st.1 st.2 hf (fun A' Q' E' q=>aln st.2 hf hw (by rw[hx];exact q)) fun h' hit' hs' =>?_
  exact hQ _ h' s.toks ⟨_,hx,rfl⟩ ⟨hit',am5 hne st.2 hs'⟩ fun b o hb e=>hs'.extBut b o (fun h=>hb (by simp[h])) e
 done:=fun s Q E st hQ=>by
  have hsz:(lK (w.params.setOrder S ep) es).size=es.size:=by rw[<-bM,(ag2 _ _).length_eq,bM]
  refine ayd hh st.1 st.2 hf (fun A' Q' E' q=>aln st.2 hf hw (by rw[uT (by omega)];exact q)) fun h' he'=>hQ h' s.toks fun b o hb e=>he' b o (fun h=>hb (by simp[h])) e
 self:=fun _ _ _ _ st hQ=>am2 st.1 hQ
theorem arn(hh:A.handled=none)(I S:aZ)(hne:S≠I){es:Array (Int×Value)}{ep:Nat}{t:cY}(hf:t.fits es.size=true)(hw:w.params.followText "set-order" = false)(hr:Rise t)(hd:(!t.plain&&decide (es.size > 1))=false)(hl:t.led=true) :
  Walks prog w A I [I,S] [I] es.size (PW es) (fun i h=>(∃slot:Nat,fM t.place slot=i/\IsSI h I S (.int slot 0) i es.size ep)/\h.get? S=some (setO es ep t)) where
 sub:=fun b hb=>by simp at hb;simp[hb]
 frame:=fun _ _ _ ⟨⟨slot,hb,st⟩,ho⟩ hk=>⟨⟨slot,hb,st.at fun o e=>hk I (by simp) o e⟩,hk S (by simp) _ ho⟩
 item:=fun i s Q E hi ⟨⟨slot,hb,st⟩,ho⟩ hQ=>by
  have hx:es[i]? = some es[i]:=by simp[hi]
  have hps:=aum hf;have hp:t.place[i]? = some (t.place[i]):=by simp[hps,hi]
  refine ase (x:=(es[i]).2) (slot':=t.place[i]+1) st ho hf (fun A' Q' E' q=>aqp ho hf hw hd hl hb hx hp q) fun h' hit' hs' =>?_
  exact hQ _ h' s.toks ⟨_,hx,rfl⟩ ⟨⟨_,aq9 hr hp,hit'⟩,am5 hne ho hs'⟩ fun b o hb e=>hs'.extBut b o (fun h=>hb (by simp[h])) e
 done:=fun s Q E ⟨⟨slot,hb,st⟩,ho⟩ hQ=>by
  refine ayd hh st ho hf (fun A' Q' E' q=>atd ho hf hw hd hl hb (uT (aL _)) q) fun h' he'=>hQ h' s.toks fun b o hb e=>he' b o (fun h=>hb (by simp[h])) e
 self:=fun _ _ _ _ ⟨⟨slot,hb,st⟩,ho⟩ hQ=>am2 st hQ
theorem aro(hh:A.handled=none)(I S q:aZ)(hne:S≠I)(hq:q≠I){es:Array (Int×Value)}{ep:Nat}{t:cY}(hf:t.fits es.size=true)(js:List Nat)(hj:js.Perm (aK es.size)) :
  Walks prog w A I [I,S,q] [I] es.size (PW (js.map fun j=>es.getD j (0,.none)).toArray) (fun i h=>IsSI h I S (.ref q) i es.size ep/\h.get? S=some (setO es ep t)/\∃oq m,h.get? q=some oq/\oq.data=.seq (js.map fun(j:Nat)=>jZ j).toArray m) where
 sub:=fun b hb=>by simp at hb;simp[hb]
 frame:=fun _ _ _ ⟨st,ho,oq,m,h1,h2⟩ hk=>⟨st.at fun o e=>hk I (by simp) o e,hk S (by simp) _ ho,oq,m,hk q (by simp) _ h1,h2⟩
 item:=fun i s Q E hi ⟨st,ho,oq,m,h1,h2⟩ hQ=>by
  have hlen:js.length=es.size:=by rw[hj.length_eq,gF]
  have hjlt:js[i] < es.size:=cR.mp (hj.mem_iff.mp (cZ (by omega)))
  have hx:es[js[i]]? = some es[js[i]]:=by simp[hjlt]
  refine awc (j:=js[i]) (x:=es[js[i]]) st ho hf ⟨oq,h1,h2⟩ (by simp[hlen,hi,jZ]) hx fun h' hit' hs' =>?_
  refine hQ _ h' s.toks ⟨es[js[i]],?_,rfl⟩ ⟨hit',am5 hne ho hs',oq,m,(hs'.2 q hq).trans h1,h2⟩ fun b o hb e=>hs'.extBut b o (fun h=>hb (by simp[h])) e
  simp[hlen,hi,xZ,hjlt]
 done:=fun s Q E ⟨st,ho,oq,m,h1,h2⟩ hQ=>by
  have hlen:js.length=es.size:=by rw[hj.length_eq,gF]
  refine ak0 hh st ho hf ⟨oq,h1,h2⟩ (by simp[hlen]) fun h' he'=>hQ h' s.toks fun b o hb e=>he' b o (fun h=>hb (by simp[h])) e
 self:=fun _ _ _ _ st hQ=>am2 st.1 hQ
variable{E:aG->aJ->Prop}{s:aJ}
theorem asj{S:aZ}{es:Array (Int×Value)}{ep:Nat}{t:cY}{Q:Bool->aJ->Prop}(ho:s.heap.get? S=some (setO es ep t))(hf:t.fits es.size=true)(h:Q (!w.params.followText "set-order" && (!t.plain&&decide (es.size > 1))) s) :
  bK (bR prog w) A (setDrawn S) Q E s:=by
 unfold setDrawn;refine aA (wpAny_setState_of ho rfl hf ?_);dsimp only;refine aA (ahw ?_);exact aH h
theorem awe{S:aZ}{es:Array (Int×Value)}{ep:Nat}{t:cY}{ns:List Int}{Q:aG->aJ->Prop}(ho:s.heap.get? S=some (setO es ep t))(G:SetG w es t ns)(hb:es.size < nU)
  (h:∀(I:aZ) (fp:List aZ) (St:Nat->fH->Prop) (ord:Array (Int×Value)) (s':aJ),(∀A':cQ,A'.handled=none->Walks prog w A' I fp [I] es.size (PW ord) St)->St 0 s'.heap->ord.toList.Perm es.toList ->
   s.heap.objs.size<=I->(∀b∈fp,b=S∨s.heap.objs.size<=b)->(∀b o,s.heap.get? b=some o->s'.heap.get? b=some o)->s'.gens=s.gens->s'.os=s.os->s'.toks=s.toks->Q (.ref I) s') :
  bK (bR prog w) A (pyIter (.ref S)) Q E s:=by
 have hT:s.TypeIs (.ref S) "set" := ⟨_,ho,rfl⟩;have hSlt:S < s.heap.objs.size:=aP ho;refine wpAny_pyIter_slot hT yS (eY yS hT aic ?_ (F.args_set_iter_1 _));show bK _ _ (pure S >>= _) _ _ s;refine aA (aH ?_);unfold Builtin.Frozenset.sizeOf;refine aA (aA (wpAny_setEntries_of ho rfl G.fit (aH ?_)));refine aA (asj ho G.fit ?_);cases hw:w.params.followText "set-order" with
 | true =>
  rw[Bool.not_true,uA,if_neg (by simp)]
  refine aA (aH ?_);refine aA (wpAny_setEpoch_of ho rfl G.fit ?_);refine aA (bZ (aH ⟨_,rfl, "set_iterator", _,⟨_,aO _ rfl,rfl⟩,jg.lookup,?_⟩));refine h s.heap.objs.size [s.heap.objs.size,S] _ _ _ (fun A' hh=>av6 hh _ S (bI hSlt) G.fit hw) ⟨⟨_,aO _ rfl,rfl,rfl⟩,aD _ ho⟩ (ag2 _ _) (aL _) (fun b hb =>?_) (fun b o e=>aD _ e) rfl rfl rfl
  simp only[bD,fP,or_false] at hb;rcases hb with rfl | rfl
  ·exact .inr (aL _)
  ·exact .inl rfl
 | false =>
  have hl:t.led=true:=by
   have:=G.kept.2;rw[hw] at this;exact this
  cases hd:(!t.plain&&decide (es.size > 1)) with
  | false =>
   rw[zF,if_neg (by simp)]
   refine aA (aH ?_);refine aA (wpAny_setEpoch_of ho rfl G.fit ?_);refine aA (bZ (aH ⟨_,rfl, "set_iterator", _,⟨_,aO _ rfl,rfl⟩,jg.lookup,?_⟩));refine h s.heap.objs.size [s.heap.objs.size,S] _ _ _ (fun A' hh=>arn hh _ S (bI hSlt) G.fit hw G.kept.1 hd hl) ⟨⟨0,aq8 G.kept.1,_,aO _ rfl,rfl,rfl⟩,aD _ ho⟩ (.refl _) (aL _) (fun b hb =>?_) (fun b o e=>aD _ e) rfl rfl rfl
   simp only[bD,fP,or_false] at hb;rcases hb with rfl | rfl
   ·exact .inr (aL _)
   ·exact .inl rfl
  | true =>
   rw[Bool.not_false,qY,if_pos rfl];refine aA (ai0 _ (aK es.size) _ _ gF fun js d hj =>?_)
   have hlen:js.length=es.size:=by rw[hj.length_eq,gF]
   simp only[newTuple];refine aA (bZ ?_ (by show(js.map fun(i:Nat)=>jZ i).toArray.size<=cJ;rw[aY,aW,hlen];exact fits_of_scanBound hb))
   refine aA (wpAny_setEpoch_of (aD _ ho) rfl G.fit ?_);refine aA (bZ (aH ⟨_,rfl, "set_iterator", _,⟨_,aO _ rfl,rfl⟩,jg.lookup,?_⟩));have hq:∀o:Obj,s.heap.objs.size≠(s.heap.push o).objs.size:=fun o=>by rw[cH];exact bI (kZ _)
   have hS2:∀o:Obj,S≠(s.heap.push o).objs.size:=fun o=>by rw[cH];exact bI (rG hSlt)
   refine h _ _ _ _ _ (fun A' hh=>aro hh _ S s.heap.objs.size (hS2 _) (hq _) G.fit js hj) ⟨⟨_,aO _ rfl,rfl,rfl⟩,aD _ (aD _ ho),_,_,aD _ (aO _ rfl),rfl⟩ ?_ ?_ (fun b hb =>?_) (fun b o e=>aD _ (aD _ e)) rfl rfl rfl
   ·refine(hj.map _).trans ?_;have e:(aK es.size).map (fun j=>es.getD j (0,cT))=es.toList:=by
     apply rT
     ·simp
     ·intro i h1 h2;have h3:i < es.size:=by simpa using h2
      simp[xZ,h3]
    rw[e]
   ·rw[cH];exact iG _
   ·simp only[bD,fP,or_false] at hb;rcases hb with rfl | rfl | rfl
    ·right;rw[cH];exact iG _
    ·exact .inl rfl
    ·exact .inr (aL _)
end
theorem ah4:typeLookup (.type "set") "__len__" = pure (some (.builtin "set.__len__")):=by rw[typeLookup_type,builtinLookup_eq_fast];kernel_rfl
theorem af3:∀{es:List (Int×Value)},(∀e∈es,Ent e)->oV (es.map (·.2)) (es.map keyE)
 | [],_=>.nil
 | e::r,h=>by
  obtain⟨k,u,he⟩:=h e (aR ..);subst he;exact .cons k u (af3 fun e he=>h e (aN _ he))
theorem atx{ord:Array (Int×Value)}{acc:Array aG}{n:Nat}(h:ItemsOf (PW ord) acc n)(hn:ord.size=n):acc.toList=ord.toList.map (·.2):=by
 apply rT
 ·rw[aW,bM,bM,h.1,hn]
 ·intro i h1 h2;obtain⟨e,he,hv⟩:=h.2 i acc.toList[i] (by rw[<-pZ];exact aF h1)
  rw[hv,List.getElem_map];rw[<-pZ] at he;have h3:i < ord.toList.length:=by simpa using h2
  rw[aF h3] at he;cases he;rfl
theorem ar8{h:fH}{a:aZ}{xs:Array aG}{n:Nat}(ho:h.get? a=some (seqObj "list" xs n))(vs:List aG)(out:Array aG):∃m,(sortedHeap h a vs out).get? a=some (seqObj "list" out m) :=
 ⟨_,get?_update_seq (aD _ (aD _ (get?_update_seq ho (fun _ => #[])))) (fun _=>out)⟩
theorem aqa{h:fH}{a b:aZ}{o:Obj}{vs:List aG}{out:Array aG}(e:h.get? b=some o)(hb:b≠a):(sortedHeap h a vs out).get? b=some o :=
 (bJ _ _ (fU hb)).trans (aD _ (aD _ ((bJ _ _ (fU hb)).trans e)))
section
variable{prog:cF}{w:dR}{A:cQ}{E:aG->aJ->Prop}{s:aJ}
theorem aoe{S:aZ}{es:Array (Int×Value)}{ep:Nat}{t:cY}{ns:List Int}{Q:List aG->aJ->Prop}(hh:A.handled=none)(ho:s.heap.get? S=some (setO es ep t))(G:SetG w es t ns)(hb:es.size < nU)
  (hQ:∀(s':aJ) (acc:List aG) (ks:List Int),s.heap.objs.size < s'.heap.objs.size->(∀b o,s.heap.get? b=some o->s'.heap.get? b=some o)->s'.gens=s.gens->s'.os=s.os->oV acc ks->ks.Perm (es.toList.map keyE)->Q acc s') :
  bK (bR prog w) A (collect (.ref S)) Q E s:=by
 have hSlt:S < s.heap.objs.size:=aP ho;unfold collect;refine aA (wpAny_runValue (codeAny_builtin F.entry_proto_collect ?_));rw[kO F.plain_proto_collect _];show bK _ A.in1 (newList [] >>= fun l=>again (.builtin "list.__iadd__" ⟨[l,.ref S],[]⟩)) _ _ s
 refine aA (bZ ?_);refine aH ⟨plainId_quiet xV _,codeAny_builtin F.entry_list_iadd ?_⟩;rw[kO xV _];have ho1:(s.heap.push { cls:=.type "list", data:=.seq ([]:List aG).toArray }).get? S=some (setO es ep t):=aD _ ho;have hL:(s.heap.push { cls:=.type "list", data:=.seq ([]:List aG).toArray }).get? s.heap.objs.size=some { cls:=.type "list", data:=.seq ([]:List aG).toArray }:=aO _ rfl;have hold:∀b o,s.heap.get? b=some o->(s.heap.push { cls:=.type "list", data:=.seq ([]:List aG).toArray }).get? b=some o:=fun b o e=>aD _ e
 have hsz1:(s.heap.push { cls:=.type "list", data:=.seq ([]:List aG).toArray }).objs.size=s.heap.objs.size+1:=cH _ _;show bK _ A.in1 (tE (.ref s.heap.objs.size) (.ref S) (.ref s.heap.objs.size)) _ _ { s with heap:=s.heap.push { cls:=.type "list", data:=.seq ([]:List aG).toArray } }
 generalize s.heap.push { cls:=.type "list", data:=.seq ([]:List aG).toArray }=H1 at ho1 hL hold hsz1 ⊢
 unfold tE;refine aA (wpAny_typeOf (T := "set") ⟨_,ho1,rfl⟩ ?_);have h1:uE (.ref s.heap.objs.size) (.ref S)=false:=by simp[uE,gY hSlt]
 have h2:(jR "set" == jR "list")=false:=by decide
 have h3:(jR "set" == jR "tuple")=false:=by decide
 simp only[h1,h2,h3,zR,jN,if_false];refine aA (awe (s:={ s with heap:=H1 }) ho1 G hb fun I fp St ord s2 W hst hord hI hfp hk2 hg2 ho2 ht2 =>?_)
 have hSs:s2.heap.get? S=some (setO es ep t):=hk2 _ _ ho1;have hLs:s2.heap.get? s.heap.objs.size=some { cls:=.type "list", data:=.seq ([]:List aG).toArray }:=hk2 _ _ hL;refine aA (eU ?_);unfold Builtin.List.listLengthHint;refine aA (wpAny_specialOf (T := "set") ⟨_,hSs,rfl⟩ ah4 ?_);generalize hid:("set.__len__" : String)=id0
 wp_delta
 rw[show splitId id0=some ("set","__len__") from by subst hid;decide +kernel]
 subst hid;refine aA (wpAny_isInstance (T := "set") (b:=true) ⟨_,hSs,rfl⟩ (by rw[isSubtype_type];kernel_rfl) ?_)
 show bK _ A.in1 (typeOf (dJ S) >>= _) _ _ _;refine aA (wpAny_typeOf (T := "set") ⟨_,hSs,rfl⟩ ?_);refine aH ?_;rw[if_pos (by decide)]
 refine aA (lB ?_);refine aA ?_;show bK _ A.in1 (updateSeq s.heap.objs.size (·.push .none) >>= fun _=>updateSeq s.heap.objs.size (·.pop)) _ _ _
 refine aA (wpAny_updateSeq hLs rfl ?_);have hS₂:=cC (jU (·.push cT)) hLs rfl;refine wpAny_updateSeq hS₂ rfl ?_;have hS₃:=cC (jU (·.pop)) hS₂ rfl;have oth:∀b o,b≠s.heap.objs.size->s2.heap.get? b=some o ->
   ((s2.heap.update s.heap.objs.size (jU (·.push cT))).update s.heap.objs.size (jU (·.pop))).get? b=some o :=
  fun b o hb e=>(bJ _ _ (fU hb)).trans ((bJ _ _ (fU hb)).trans e)
 have hSf:s.heap.objs.size∉fp:=fun hm=>by
  rcases hfp _ hm with e | e
  ·exact gY hSlt e
  ·have e':s.heap.objs.size+1<=s.heap.objs.size:=hsz1▸e;exact Nat.not_succ_le_self _ e'
 have hIne:s.heap.objs.size+1<=I:=hsz1▸hI;refine aH ⟨plainId_quiet F.plain_extend_loop _,codeAny_extend_loopS (W A.in1 hh).toS (fits_of_scanBound hb) _ hSf _ es.size 0 _ _ _ rfl (eF _)
  ((W A.in1 hh).frame 0 s2.heap _ hst fun b hb o e=>oth b o (fun h=>hSf (h▸hb)) e) hS₃ (ItemsOf.nil _) fun s' acc' c' hm hS' hacc =>?_⟩
 show bK _ A (load s.heap.objs.size >>= _) _ _ s';refine aA (wpAny_load hS' ?_);have hosz:ord.size=es.size:=by rw[<-bM,hord.length_eq,bM]
 have hacc':=atx hacc hosz;refine aH (hQ s' acc'.toList (ord.toList.map keyE) (aP hS') (fun b o e =>?_) (hm.gens.trans hg2) (hm.os.trans ho2) ?_ (hord.map _))
 ·have hlt:=aP e;refine hm.heap b o (fun hb =>?_) (oth b o (bI hlt) (hk2 b o (hold b o e)))
  simp only[bD,fP,or_false] at hb;rcases hb with rfl | rfl
  ·exact jW _ hlt
  ·exact absurd hlt (lG.mpr (cL (iG _) hIne))
 ·rw[hacc'];exact af3 fun e he=>G.ent e (hord.mem_iff.mp he)
set_option maxHeartbeats 1000000 in
theorem ap9{S:aZ}{es:Array (Int×Value)}{ep:Nat}{t:cY}{ns:List Int}{Q:aG->aJ->Prop}(hh:A.handled=none)(ho:s.heap.get? S=some (setO es ep t))(G:SetG w es t ns)(h64:es.size < 64)
  (h:∀(s':aJ) (a:aZ) (out:Array aG) (m:Nat) (ns':List Int),s.heap.objs.size<=a->(∀b o,s.heap.get? b=some o->s'.heap.get? b=some o)->s'.gens=s.gens->s'.os=s.os->s'.heap.get? a=some (seqObj "list" out m) ->
   oV out.toList ns'->ns'.Perm (es.toList.map keyE)->ns'.Pairwise (· <= ·)->Q (.ref a) s') :
  bK (bR prog w) A (call (.builtin "sorted") [.ref S]) Q E s:=by
 refine Calls.call_function_entry kind_sorted plain_sorted entry_sorted (args_sorted1 _) ?_;unfold kJ.«sorted»
 refine aA (m:=checkCount "sorted" 1 1 _) (aH ?_);refine aA (aoe hh ho G (by unfold nU;omega) fun s1 acc ks hlt1 hk hg hos hI hp =>?_)
 have hlen:acc.length=es.size:=by rw[hI.length,hp.length_eq,aW,bM]
 refine aA (wpAny_newList ?_);have hoL:(s1.heap.push (seqObj "list" acc.toArray 0)).get? s1.heap.objs.size=some (seqObj "list" acc.toArray 0):=aO _ rfl;show bK _ _ _ _ _ { s1 with heap:=s1.heap.push (seqObj "list" acc.toArray 0) }
 refine aA (eU (eY slot_list_sort ⟨_,hoL,rfl⟩ entry_list_sort (list_sort_tree hoL hI (by omega) fun out ns' a1 a2 a3=>⟨_,rfl,?_⟩) (args_list_sort _)))
 obtain⟨m,hm⟩:=ar8 hoL acc out;refine aH ⟨_,rfl,?_⟩;refine h _ s1.heap.objs.size out m ns' (nF hlt1) ?_ hg hos hm a1 (a2.trans hp) a3;intro b o e;exact aqa (aD _ (hk b o e)) (bI (jC (aP e) hlt1))
end
end Stt
namespace Dn
open L2 Mn
def dedI:List Int->List Int
 | []=>[]
 | x::r=>if r.contains x then dedI r else x::dedI r
theorem aen:∀(l:List Int) (x:Int),x∈dedI l↔x∈l
 | [],x=>.rfl
 | y::r,x=>by
  unfold dedI;split
  ·rename_i h;rw[aen r x,bD];exact⟨.inr,fun z=>z.elim (fun e=>e▸List.contains_iff_mem.mp h) id⟩
  ·rw[bD,bD,aen r x]
theorem acr:∀l:List Int,(dedI l).Nodup
 | []=>oG
 | y::r=>by
  unfold dedI;split
  ·exact acr r
  ·rename_i h;exact qW (fun z hz e=>h (dY.mpr (e▸(aen r z).mp hz))) (acr r)
theorem adt:∀l:List Int,(dedI l).length<=l.length
 | []=>aL _
 | y::r=>by
  unfold dedI;have:=adt r;split
  ·simp only[cG];omega
  ·simp only[cG];omega
theorem aee:∀{a b:List Int},a.Nodup->b.Nodup->(∀x,x∈a↔x∈b)->a.Perm b
 | [],b,_,_,h=>by
  cases b with
  | nil=>exact .refl _
  | cons y r=>exact absurd ((h y).mpr (aR ..)) (fP)
 | x::r,b,ha,hb,h=>by
  have hx:x∈b:=(h x).mp (aR ..);have hp:=List.perm_cons_erase hx;refine(List.Perm.cons x (aee (vA ha) (hb.erase x) fun y =>?_)).trans hp.symm
  rw[hb.mem_erase_iff];have hxr:x∉r:=fun z=>(fZ.mp ha).1 x z rfl
  constructor
  ·intro hy;exact⟨fun e=>hxr (e▸hy),(h y).mp (aN _ hy)⟩
  ·rintro⟨hne,hy⟩
   exact(bD.mp ((h y).mpr hy)).resolve_left hne
def setI(ns:List Int):List Int:=sortI (dedI ns)
section
variable{K:Fg9}{X:Cx}{e a b c:dW}{es:List dW}{pos p p2:Pos}
def SetH(w:dR)(a:aZ)(ns:List Int):fH->Prop:=fun h=>∃es ep t,h.get? a=some (Stt.setO es ep t)/\Stt.SetG w es t ns/\es.size<=ns.length
def a77(w:dR):List V->Hp->VK->Prop:=fun vs H Q=>∃p ns,vs=[.ref p]/\H p=some (.tup (ns.map V.int))/\ns.length < 4000/\∀a,H a=none->Q (.ref a) (upd H a (.ext (SetH w a ns)))
theorem axz(hc:X.calm=true):abv X (.type "set") (a77 X.w):=by
 intro zv s σ H xs us Q I r ⟨p,ns,hv,hp,hz,q⟩;subst hv;obtain⟨u,rfl,ru⟩:=vals1 r;cases ru;obtain⟨its,rv,pt,_⟩:=I.tuple (SqT.of hp);have hlen:=rv.length;rw[aW] at hlen;refine Stt.a3d (I.ok.hd hc) pt (intsAre_of rv) (by rw[aY];unfold nU;omega) fun h' tk es ep t ho g hsz hk =>?_
 have hn:H s.heap.objs.size=none:=I.hok.fresh (aL _);refine⟨.ref s.heap.objs.size,_,I.laid hk (aL _) ?_,rfl,q _ hn⟩;refine⟨⟨es,ep,t,ho,g,?_⟩,⟨_,ho⟩,fun h1 h2 ⟨es,ep,t,z,g,zz⟩ k=>⟨es,ep,t,k _ z,g,zz⟩⟩
 have hsz':es.size<=its.length:=by simpa using hsz
 omega
def rcSS(w:dR):List V->Hp->VK->Prop:=fun vs H Q=>∃a ns,vs=[.ref a]/\H a=some (.ext (SetH w a ns))/\ns.length < 64/\∀b,H b=none->Q (.ref b) (upd H b (.lst ((setI ns).map V.int)))
theorem a2a(hc:X.calm=true):abv X (.builtin "sorted") (rcSS X.w):=by
 intro zv s σ H xs us Q I r ⟨a,ns,hv,ha,hz,q⟩;subst hv;obtain⟨u,rfl,ru⟩:=vals1 r;cases ru;obtain⟨⟨es,ep,t,ho,g,hsz⟩,_⟩:=I.hok a _ ha;refine Stt.ap9 (I.ok.hd hc) ho g (by omega) fun s' b out m ns' hb hk hg hos hob hI hp hs =>?_
 have hn:H b=none:=I.hok.fresh hb;have e':ns'=setI ns:=awb (hp.trans (aee g.nd (acr ns) fun k=>by rw[g.mem k,aen])) hs
 subst e';obtain⟨h',g',d',tk',os'⟩:=s';subst hg;subst hos;have I1:Inv X zv σ (upd H b (.lst ((setI ns).map V.int))) { s with heap:=h',toks:=tk' }:=I.laid hk hb ⟨by
  rw[aW];have h1:(setI ns).length=(dedI ns).length:=(sortI_perm _).length_eq;have h2:=adt ns;exact nF (asa (by omega)),out.toList,m,afu hI,by simpa using hob⟩
 exact⟨.ref b,_,⟨I1.ok,I1.os,I1.bare,I1.base,I1.loc,I1.cell,I1.free,I1.freeC,I1.pin,I1.hok,I1.len⟩,rfl,q b hn⟩
def gSet:D->Option Rv
 | .tup l=>(ac4 l).bind fun ns=>if ns.length < 64 then some (.fr ((setI ns).map D.int)) else none
 | _=>none
theorem al9{x y:Str}{m:M (List D)}{pp qq:Pos}{ppos:Pos}(hc:X.calm=true)(hg1:Gl X x)(hm1:X.mg x=none)(hv1:bT x=some (.builtin "sorted"))(hg2:Gl X y)(hm2:X.mg y=none)(hv2:bT y=some (.type "set"))
  (ha:EA K X [e] m) (hn1:x ≠ "__name__" := by decide) (hdb1:(x==("__debug__" : Str))=false:=by decide) (hn2:y ≠ "__name__" := by decide) (hdb2:(y==("__debug__" : Str))=false:=by decide)
  (he:aX [e] X.env=[(false,eval e X.env)]:=by rfl) (he2:aX [.Call (.Name y qq) [e] [] ppos] X.env=[(false,eval (.Call (.Name y qq) [e] [] ppos) X.env)]:=by rfl) :
  ER K X (.Call (.Name x pp) [.Call (.Name y qq) [e] [] ppos] [] pos) (jd (g1 gSet) m):=ER.mk fun hk=>PE.imp (aeg (a2a hc) hg1 hm1 hv1 (tu (aef (axz hc) hg2 hm2 hv2 (ha hk) hn2 hdb2 he rfl) aeh he2) hn1 hdb1 he2 rfl) fun σ H Q hq0=>by
 obtain⟨tg,F,ρ,r,ρ',G,em,q⟩:=hq0;obtain⟨ds,ρ1,e1,em⟩:=bw em;obtain⟨e2,rfl⟩:=ik em;refine⟨tg,F,ρ,ds,_,G,e1,fun vs H1 F1 G1 x1 bl =>?_⟩
 cases ds with
 | nil=>cases e2
 | cons d tl =>
  cases tl with
  | cons _ _=>cases e2
  | nil =>
   cases d with
   | tup l =>
    have e2:(ac4 l).bind (fun ns=>if ns.length < 64 then some (Rv.fr ((setI ns).map D.int)) else none)=some r:=e2
    cases ei:ac4 l with
    | none=>rw[ei] at e2;cases e2
    | some ns =>
     rw[ei] at e2;have e2:(if ns.length < 64 then some (Rv.fr ((setI ns).map D.int)) else none)=some r:=e2
     split at e2
     ·rename_i h64;cases e2;obtain⟨v,rfl,bv⟩:=bl.one;obtain⟨p,ws,rfl,ea,hl⟩:=bv.tup;rw[aj6 ei] at hl;rw[hl.int_inv] at ea;refine⟨p,ns,rfl,G1.sub _ _ ea,by omega,fun a hna =>?_⟩
      show rcSS X.w _ _ _;refine⟨a,ns,rfl,gw,h64,fun b hnb =>?_⟩
      have G2:=G1.fresh hna (.ext (SetH X.w a ns));have X2:=G1.freshX hna (.ext (SetH X.w a ns));exact Res.lst G2 (fun v H3 F3 G3 x3 rr=>q v H3 F3 G3 ((x1.trans X2).trans x3) (ou (x1.trans X2) rr)) (agi _) hnb
     ·cases e2
   | _=>cases e2
@[simp] theorem a7d(l:List D):gSet (.tup l)=(ac4 l).bind fun ns=>if ns.length < 64 then some (.fr ((setI ns).map D.int)) else none:=rfl
end
theorem uv{c:M Bool}{g:Sd}(Inv:Nat->Ro->Prop)(Done:Ro->Prop)(hs:∀k ρ,Inv k ρ->(∃ρ',c ρ=some (.ok false,ρ')/\Done ρ')∨∃ρ1 ρ2 k',c ρ=some (.ok true,ρ1)/\g ρ1=some (.nx,ρ2)/\k' < k/\Inv k' ρ2) :
  ∀(n k:Nat) (ρ:Ro),k < n->Inv k ρ->∃ρ',whileD c g n ρ=some (.nx,ρ')/\Done ρ'
 | 0,k,ρ,h,_=>absurd h (pL _)
 | n+1,k,ρ,h,h0=>by
  unfold whileD;rcases hs k ρ h0 with⟨ρ',e,d⟩ | ⟨ρ1,ρ2,k',e1,e2,hk,h2⟩
  ·rw[e];exact⟨ρ',rfl,d⟩
  ·rw[e1];dsimp only;rw[e2];exact uv Inv Done hs n k' ρ2 (by omega) h2
theorem aex:100000 < fuel:=by unfold fuel;decide
theorem akg(a b:Int):eqD (.int a) (.int b)=decide (a=b):=by
 show(a==b)=_
 by_cases h:a=b <;> simp[h]
theorem a2f(ns:List Int)(a:Int):(ns.map D.int).any (fun y=>eqD y (.int a))=decide (a∈ns):=by
 induction ns with
 | nil=>simp
 | cons x r ih=>simp[akg,bD,ih,eq_comm]
theorem ain(n:Nat)(ns:List Int):(ns.map D.int).all (okD n)=true:=by
 induction ns with
 | nil=>rfl
 | cons x r ih=>simp[okD]
theorem an5(neg:Bool)(a:Int)(ns:List Int):gIn neg (.int a) (.lst (ns.map D.int))=some (.v (.bl (if neg then !decide (a∈ns) else decide (a∈ns)))):=by
 have h:=ain 30 ns;have h2:=a2f ns a;simp only[gIn,itemsD,h,h2];simp[okD]
theorem akf:∀(a b:List Int),eqDs (a.map D.int) (b.map D.int)=decide (a=b)
 | [],[]=>rfl
 | [],_::_=>rfl
 | _::_,[]=>rfl
 | x::r,y::t=>by
  show(eqD (.int x) (.int y)&&eqDs (r.map D.int) (t.map D.int))=_;rw[akg,akf r t]
  by_cases h:x=y <;> simp[h]
theorem aut(a b:List Int):eqD (.tup (a.map D.int)) (.tup (b.map D.int))=decide (a=b):=by
 rw[<-akf];exact ake _ _
theorem aka(neg:Bool)(a b:List Int):gEq neg (.tup (a.map D.int)) (.tup (b.map D.int))=some (.v (.bl (if neg then !decide (a=b) else decide (a=b)))):=by
 have h1:okD 30 (.tup (a.map D.int))=true:=ain 29 a;have h2:okD 30 (.tup (b.map D.int))=true:=ain 29 b;simp only[gEq,h1,h2,aut];simp
theorem auk(r:List Int):∀x:Int,(0<=r.foldl (fun m y=>if decide (y < m)=true then y else m) x)↔0<=x/\∀y∈r,0<=y:=by
 induction r with
 | nil=>intro x;simp
 | cons z t ih =>
  intro x;rw[yN,ih]
  by_cases h:z < x
  ·simp only[h,decide_true,if_true,bD,forall_eq_or_imp];constructor
   ·rintro⟨a,b⟩;exact⟨by omega,a,b⟩
   ·rintro⟨_,a,b⟩;exact⟨a,b⟩
  ·simp only[h,decide_false,jN,if_false,bD,forall_eq_or_imp];constructor
   ·rintro⟨a,b⟩;exact⟨a,by omega,b⟩
   ·rintro⟨a,_,b⟩;exact⟨a,b⟩
def minI(ns:List Int):Int:=ae2 (fun i j=>decide (i < j)) ns
theorem ao6{ns:List Int}(h:ns≠[]):0<=minI ns↔∀y∈ns,0<=y:=by
 cases ns with
 | nil=>exact absurd rfl h
 | cons x r =>
  show 0<=r.foldl (fun m y=>if decide (y < m)=true then y else m) x↔_
  rw[auk];simp
theorem axk{ns:List Int}(h:ns≠[]):a1g (.lst (ns.map D.int))=some (.v (.int (minI ns))):=by
 show(ac4 (ns.map D.int)).bind _=_;rw[al0];simp[h,minI]
theorem aub{ns:List Int}(h:ns.length < 64):gSet (.tup (ns.map D.int))=some (.fr ((setI ns).map D.int)):=by
 show(ac4 (ns.map D.int)).bind _=_;rw[al0];simp[h]
theorem ao7(ns:List Int)(x:Int):x∈setI ns↔x∈ns:=by
 unfold setI;rw[(sortI_perm _).mem_iff,aen]
theorem aqo(ns:List Int):(setI ns).Nodup:=by
 unfold setI;rw[(sortI_perm _).nodup_iff];exact acr ns
@[simp] theorem a5w(d:D):axn [d]=(itemsD d).map aib:=rfl
@[simp] theorem a5t(a b:D):an3 [a,b]=(itemsD a).bind fun l1=>(itemsD b).bind fun l2=>if l1.length<=l2.length then some (ut l1 l2) else none:=rfl
@[simp] theorem a2m(ρ:Ro)(f:Int->Int->Int)(i:Nat)(mi m:M D):aod f i mi m ρ=(dM (mOwn i) fun _=>dM mi fun k=>dM (mOwn i) fun l=>dM (lift ((asI k).bind (ixN l.length))) fun j=>dM (lift ((l[j]?).bind asI)) fun x=>dM m fun y=>dM (lift (asI y)) fun y=>dM (mOwn i) fun l2=>dM (lift (if l2.length=l.length then some () else none)) fun _=>dM (aeo i (l2.set j (.int (f x y)))) fun _=>dNx) ρ:=rfl
@[simp] theorem a5a(ρ:Ro)(i:Nat)(ms:M (List D)):ao9 i ms ρ=((dw i).bind fun d0=>ms.bind fun ds=>(dw i).bind fun d=>(lift (match d0,d with
 | .lst _,.lst _=>some ()
 | .tup _,.tup _=>some ()
 | _,_=>none)).bind fun _=>lift (akc d ds)) ρ:=rfl
@[simp] theorem a1j(l:List D)(x:D):akc (.lst l) [x]=if okD 30 x&&l.all (okD 30) then some (.int (l.countP fun y=>eqD y x)) else none:=rfl
@[simp] theorem a1i(l:List D)(x:D):akc (.tup l) [x]=if okD 30 x&&l.all (okD 30) then some (.int (l.countP fun y=>eqD y x)) else none:=rfl
theorem agn{l1 l2:List D}(h:l1.length<=l2.length):(ut l1 l2).length=l1.length:=by unfold ut;rw[jG];omega
theorem ac0{ns:List Int}{k:Int}(h0:0<=k)(h1:k < (ns.length:Int)):atI (ns.map D.int) k=some (.int (ns.getD k.toNat 0)):=by
 have hk:k.toNat < ns.length:=by omega
 have q:atI (ns.map D.int) ((k.toNat:Nat):Int)=some (.int (ns.getD k.toNat 0)):=akq (by simp[aF hk])
 rw[show((k.toNat:Nat):Int)=k by omega] at q
 exact q
theorem aj3{n:Nat}{k:Int}(h0:0<=k)(h1:k < (n:Int)):ixN n k=some k.toNat:=by
 unfold ixN;simp[h0,h1]
theorem jc{K:Fg9}{P:cF}{w:dR}{mg:Str->Option aG}{base:fH}{x qual:Str}{st:iM}{f:aZ}{fd:fX}{N ps:List Str}{k nl np:Nat}{g:Sd}(F:Fun K x qual st f fd)(S:FnScope N ps (au st))(h1:N.length=nl)(h2:ps.length=np)
  (body:∀(cdv:aG) (A:cQ) (outer:List Env) (s:aJ) (H:Hp) (E:XK),Room k (A.deeper (pB qual (au st) s.heap.objs.size f cdv))->SVs K (cxOf CX0 P w K mg base N qual (au st) f cdv A outer s H E).nox (jm st) g) :
  FnOk P w K mg base CX0 (k+1) f fd ps (spOf K np (fnD nl np g)):=by
 subst h1 h2;exact a9l F S body
end Dn
namespace Mn
open L2
section
variable{X:Cx}
end
end Mn
namespace Dn
open L2 Mn
section
variable{K:Fg9}{X:Cx}
end
theorem mkSc{N P:List Str}{sc:lX}(a:sc.kind=.function)(b:sc.isCoroutine=false)(c:sc.isGenerator=false)(e:N.take P.length=P)(d:N.Nodup/\(∀x∈P,sc.names.lookup x=some .local∨sc.names.lookup x=some .cell)/\∀y∈sc.names,y.2≠.free):FnScope N P sc:=⟨a,b,c,d.1,e,d.2.1,d.2.2⟩
section
variable{K:Fg9}{X:Cx}
def gAbs:D->Option Rv
 | .int i=>some (.v (.int (if i < 0 then -i else i)))
 | _=>none
@[simp] theorem a7t(i:Int):gAbs (.int i)=some (.v (.int (if i < 0 then -i else i))):=rfl
theorem ay4:CallD K X (.builtin "abs") (g1 gAbs):=cd_one fun hk zv s σ0 H x u Q tg F ρ σ d r I ru G bd eg q=>by
 subst hk;cases d with
 | int i =>
  cases eg;obtain rfl:=bd.int;exact ax1 zv s σ0 H [_] [u] Q I (.cons ru .nil) ⟨i,rfl,Res.same G q (.int _)⟩
 | _=>cases eg
end
end Dn
end
namespace Dn
open PySem L2
@[simp] abbrev gL9(d:D):Option Rv:=(itemsD d).map fun l=>.v (.int l.length)
@[simp] abbrev gT9(d:D):Option Rv:=(itemsD d).map fun l=>.v (.tup l)
end Dn
namespace My
open PySem L2 Mn Dn
def NS:List Str:=["ArrowError","NoArrows","NoRoom","NoWalkers","NotShut","NeverBack","NoTour","NoRow","NoHouse","NotOpen","Nobody","NoText","TooGreat"]
def ait:Sd :=
 (dRet (M.v (mAnd (mIsi .int (dw 0)) (mUn gNot (mIsi .bool (dw 0))))))
def aa2:Fd:=fnD 1 1 ait
def aay:Sd :=
 (dRet (M.v (mAnd (M.d (mFn aa2 [some 0] (gj 0 ig))) (alr (fun i j=>decide (i<=j)) (fun i j=>decide (i<=j)) (mVar 1) (mVar 0) (mVar 2)))))
def ju:Fd:=fnD 3 3 aay
def aaz:Sd :=
 (dRet (M.v (mAnd (mIsi .tuple (dw 0)) (alr (fun i j=>decide (i<=j)) (fun i j=>decide (i<=j)) (mVar 1) (M.d (jd (g1 gL9) (ir 0 mNil))) (mVar 2)))))
def km:Fd:=fnD 3 3 aaz
def abq:Sd :=
 (dRet (mFn ju [none,none,none] (bu (mVar 1) (bu (ret (.int 0)) (bu (M.d (mOp (gInt fSub) (iu (M.d (jd (g1 gL9) (ir 0 mNil))) (ret (.int 1))))) ig)))))
def mq:Fd:=fnD 2 2 abq
def yc:Sd :=
 (dIf (okS (afk (aaw (M.d (mFn mq [some 0,none] (gj 0 (bu (mVar 1) ig))))))) (agb ⟨"NoRoom", []⟩) dNx)
def jb:Fd:=fnD 2 2 yc
def aoa:M D :=
 (M.d (mOp (gIn false) (dh 0 (dw 1))))
def akn:M Bool :=
 (aaw (M.d (jd (g1 gAll) (bh (M.d (ww [none,some 1] (yh (M.d (mOp gIx (dh 2 (dw 0))))) (di 0) (ret true) aoa)) mNil))))
def an9:M D :=
 (mVar 0)
def ai9:M Bool :=
 (j9 (gCmp fun i j=>decide (i < j)) (iu (M.d (jd (g1 gL9) (ir 1 mNil))) (dw 2)))
def ai7:Sd :=
 (dSeq (dSet 2 (jd (g1 gL9) (ir 1 mNil))) (dSet 1 (ww [none,some 1,some 0] (yh (mVar 1)) (di 0) akn an9)))
def ays:Sd :=
 (dSeq (dSet 1 (acu (bh (M.d (jd (g1 gL9) (ir 0 mNil))) mNil))) (dSeq (dSet 2 (mOp gAdd (iu (M.d (jd (g1 gL9) (ir 1 mNil))) (ret (.int 1))))) (dSeq (whileD ai9 ai7 fuel) (dRet (jd (g1 gT9) (ir 1 mNil))))))
def al5:Fd:=fnD 3 1 ays
def vd:Sd :=
 (dSeq (dOk (dSet 1 (mFn al5 [some 0] (gj 0 ig)))) (dIf (okS (j9 (gEq true) (dh 1 (mTup mNil)))) (ad2 "NotOpen" "room" (okS (M.d (mOp gIx (dh 1 (ret (.int 0))))))) dNx))
def ie:Fd:=fnD 2 1 vd
def acj:M D :=
 (M.d (mFn ju [some 0,none,none] (gj 0 (bu (ret (.int 0)) (bu (M.d (mOp (gInt fSub) (iu (M.d (jd (g1 gL9) (ir 1 mNil))) (ret (.int 1))))) ig)))))
def ady:Sd :=
 (dSeq (dIf (afk (aaw (M.d (mFn km [some 1,none,none] (gj 1 (bu (M.d (jd (g1 gL9) (ir 0 mNil))) (bu (M.d (jd (g1 gL9) (ir 0 mNil))) ig))))))) (dRet (M.v (ret (.bl false)))) dNx) (dRet (jd (g1 gAll) (bh (M.d (ww [none,none] (mGet an3 (bh (mVar 1) (bh (mVar 0) mNil))) (bTup 2 (lq (di 0) (lq (di 1) bNil))) (ret true) acj)) mNil))))
def rz:Fd:=fnD 2 2 ady
def ud:Sd :=
 (dIf (okS (afk (aaw (M.d (mFn rz [none,none] (bu (mVar 0) (bu (mVar 1) ig))))))) (agb ⟨"NoArrows", []⟩) dNx)
def gq:Fd:=fnD 2 2 ud
def aci:M D :=
 (M.d (mOp gIx (dh 1 (M.d (mOp (gInt fSub) (dh 0 (ret (.int 1))))))))
def ahg:Sd :=
 (dRet (jd (g1 gT9) (bh (M.d (ww [none,none] (mGet an3 (bh (mVar 1) (bh (mVar 0) mNil))) (bTup 2 (lq (di 0) (lq (di 1) bNil))) (ret true) aci)) mNil)))
def zb:Fd:=fnD 2 2 ahg
def vy:M Bool :=
 (j9 (gIn false) (iu (M.d (mOp gIx (dh 2 (dw 0)))) (dw 1)))
def aaq:M D :=
 (mVar 0)
def vp:M Bool :=
 (j9 (gCmp fun i j=>decide (i < j)) (iu (M.d (jd (g1 gL9) (ir 2 mNil))) (dw 3)))
def vo:Sd :=
 (dSeq (dSet 3 (jd (g1 gL9) (ir 2 mNil))) (dSet 2 (ww [none,some 2,some 0] (yh (mVar 2)) (di 0) vy aaq)))
def aew:Sd :=
 (dSeq (dSet 2 (jd (g1 fun d=>(itemsD d).map fun l=>.fr l) (ir 1 mNil))) (dSeq (dSet 3 (mOp gAdd (iu (M.d (jd (g1 gL9) (ir 2 mNil))) (ret (.int 1))))) (dSeq (whileD vp vo fuel) (dRet (afl 2)))))
def ug:Fd:=fnD 4 2 aew
def aap:M D :=
 (M.d (mOp gIx (dh 0 (dw 1))))
def aao:M D :=
 (M.d (ww [none,some 0] (yh (mVar 1)) (di 0) (ret true) aap))
def aeu:Sd :=
 (dRet (ww [none,some 0] (mGet qt (bh (M.d (jd (g1 gL9) (ir 0 mNil))) mNil)) (di 0) (ret true) aao))
def ue:Fd:=fnD 1 1 aeu
def adw:Sd :=
 (dIf (j9 (gEq true) (iu (M.d (mOp gIx (iu (M.d (mOp gIx (dh 0 (dw 2)))) (dw 1)))) (ret (.int 0)))) (dRet (afl 2)) dNx)
def air:Sd :=
 (dSeq (dFor (mGet aj9 (bh (mVar 1) (bh (M.d (jd (g1 gL9) (ir 0 mNil))) mNil))) (di 2) adw) (dRet (M.v (ret .non))))
def aa0:Fd:=fnD 3 2 air
def afs:M D :=
 (M.d (jd (g1 fun d=>(itemsD d).map fun l=>.fr l) (ir 0 mNil)))
def aq3:M D :=
 (mUn gNeg (mVar 0))
def al2:Sd :=
 (dSeq (dSet 3 (ww [none] (yh (mVar 0)) (di 0) (ret true) afs)) (dSeq (dIf (j9 (gEq true) (dh 1 (dw 2))) (dSeq (dSub 3 (mVar 1) (M.d (jd (g1 fun d=>(itemsD d).map fun l=>.fr l) (bh (M.d (mOp gIx (dh 0 (dw 2)))) mNil)))) (dSub 3 (mVar 2) (M.d (ww [none] (yh (M.d (mOp gIx (dh 0 (dw 1))))) (di 0) (ret true) aq3)))) dNx) (dRet (afl 3))))
def acg:Fd:=fnD 4 3 al2
def acz:M D :=
 (M.d (mOp (gInt fDiv) (iu (M.d (mOp (gInt fSub) (iu (M.d (mOp gMul (iu (M.d (mOp gIx (dh 3 (dw 5)))) (dw 0)))) (M.d (mOp gMul (iu (M.d (mOp gIx (dh 2 (dw 5)))) (dw 1))))))) (dw 4))))
def acx:Sd :=
 (dIf (j9 (gEq false) (dh 5 (dw 1))) (agc (M.v (mMut 4 afq (bh (M.d (jd (g1 fun d=>(itemsD d).map fun l=>.fr l) (ir 3 mNil))) mNil)))) (agc (M.v (mMut 4 afq (bh (M.d (ww [none,none,some 6,some 3,some 2,some 1] (mGet an3 (bh (mVar 6) (bh (mVar 3) mNil))) (bTup 2 (lq (di 0) (lq (di 1) bNil))) (ret true) acz)) mNil)))))
def al3:Sd :=
 (dSeq (dSet 3 (mOp gIx (dh 0 (dw 1)))) (dSeq (dSet 4 (mLst mNil)) (dSeq (dFor (mGet axn (bh (mVar 0) mNil)) (bTup 2 (lq (di 5) (lq (di 6) bNil))) acx) (dRet (afl 4)))))
def ach:Fd:=fnD 7 3 al3
def ae0:M D :=
 (M.d (mOp gAdd (iu (M.d (jd (g1 fun d=>(itemsD d).map fun l=>.fr l) (ir 0 mNil))) (M.d (mLst (bh (mVar 1) mNil))))))
def aeq:Sd :=
 (dSeq (dSet 5 (mFn aa0 [some 2,none] (gj 2 (bu (mVar 4) ig)))) (dSeq (dIf (aaw (mIsN false (dw 5))) (dRet (M.v (ret .non))) dNx) (dSeq (dSet 2 (mFn acg [none,none,none] (bu (mVar 2) (bu (mVar 4) (bu (mVar 5) ig))))) (dSeq (dSet 2 (mFn ach [none,some 4,some 3] (bu (mVar 2) (gj 4 (gj 3 ig))))) (dSet 3 (mOp gIx (iu (M.d (mOp gIx (dh 2 (dw 4)))) (dw 4))))))))
def ahm:M D :=
 (M.d (mOp gIx (dh 0 (M.d (jd (g1 gL9) (ir 1 mNil))))))
def apm:Sd :=
 (dSeq (dSet 2 (ww [none,none] (mGet an3 (bh (mVar 0) (bh (mVar 1) mNil))) (bTup 2 (lq (di 0) (lq (di 1) bNil))) (ret true) ae0)) (dSeq (dSet 3 (M.v (ret (.int 1)))) (dSeq (dFor (mGet qt (bh (M.d (jd (g1 gL9) (ir 0 mNil))) mNil)) (di 4) aeq) (dRet (M.v (mTup (bh (M.d (ww [none,some 0] (yh (mVar 2)) (di 0) (ret true) ahm)) (bh (mVar 3) mNil))))))))
def abi:Fd:=fnD 6 2 apm
def ux:M Bool :=
 (j9 (gEq true) (dh 3 (ret (.int 0))))
def uw:Sd :=
 (dSeq (dSet 4 (mOp (gInt fMod) (dh 1 (dw 3)))) (dSeq (dSet 1 (M.v (mVar 3))) (dSet 3 (M.v (mVar 4)))))
def l1_common_divisor:Sd :=
 (dSeq (dSet 3 (jd (g1 gAbs) (ir 2 mNil))) (whileD ux uw fuel))
def abr:Sd :=
 (dSeq (dSet 1 (M.v (ret (.int 0)))) (dSeq (dFor (yh (mVar 0)) (di 2) l1_common_divisor) (dRet (afl 1))))
def my:Fd:=fnD 5 1 abr
def zj:M D :=
 (mUn gNeg (ao9 1 (bh (mVar 0) mNil)))
def l1_doors_square:Sd :=
 (dSeq (dSet 4 (ww [none,some 3] (mGet qt (bh (M.d (jd (g1 gL9) (ir 0 mNil))) mNil)) (di 0) (ret true) zj)) (dSeq (aod (fun i j=>i+j) 4 (mVar 2) (M.d (jd (g1 gL9) (ir 3 mNil)))) (agc (M.v (mMut 1 afq (bh (mVar 4) mNil))))))
def ac9:Sd :=
 (dSeq (dSet 1 (mLst mNil)) (dSeq (dFor (mGet axn (bh (mVar 0) mNil)) (bTup 2 (lq (di 2) (lq (di 3) bNil))) l1_doors_square) (dRet (afl 1))))
def qx:Fd:=fnD 5 1 ac9
def vq:M D :=
 (M.d (mIf (j9 (gEq false) (dh 0 (dw 1))) (M.v (ret (.int 1))) (M.v (ret (.int 0)))))
def aev:Sd :=
 (dSeq (dSet 2 (mFn abi [none,none] (bu (M.d (mFn ue [some 0] (gj 0 ig))) (bu (M.d (ww [none,some 1] (mGet qt (bh (M.d (jd (g1 gL9) (ir 0 mNil))) mNil)) (di 0) (ret true) vq)) ig)))) (dRet (mOp (gInt fDiv) (iu (M.d (jd (g1 gAbs) (bh (M.d (mOp gIx (dh 2 (ret (.int 1))))) mNil))) (M.d (mFn my [none] (bu (M.d (mOp gAdd (iu (M.d (mOp gIx (dh 2 (ret (.int 0))))) (M.d (mLst (bh (M.d (mOp gIx (dh 2 (ret (.int 1))))) mNil)))))) ig)))))))
def uf:Fd:=fnD 3 2 aev
def qm:Sd :=
 (dSeq (agc (mFn gq [none,none] (bu (okS (mVar 0)) (bu (okS (mVar 1)) ig)))) (agc (mFn jb [some 0,none] (gj 0 (bu (okS (mVar 2)) ig)))))
def fu:Fd:=fnD 3 3 qm
def ais:Sd :=
 (dRet (mOp (gEq false) (iu (M.d (mFn ug [none,none] (bu (M.d (mFn zb [none,none] (bu (mVar 0) (bu (mVar 1) ig)))) (bu (M.d (acu (bh (M.d (jd (g1 gL9) (ir 0 mNil))) mNil))) ig)))) (M.d (mLst mNil)))))
def aa1:Fd:=fnD 2 2 ais
def rn:Sd :=
 (dIf (okS (afk (aaw (M.d (mFn aa1 [none,none] (bu (mVar 0) (bu (mVar 1) ig))))))) (agb ⟨"NeverBack", []⟩) dNx)
def f9:Fd:=fnD 2 2 rn
def qp:Sd :=
 (dSeq (agc (mFn fu [none,none,none] (bu (okS (mVar 0)) (bu (okS (mVar 1)) (bu (okS (mVar 2)) ig))))) (dSeq (agc (mFn ie [some 0] (gj 0 ig))) (dSeq (agc (mFn f9 [none,none] (bu (okS (mVar 0)) (bu (okS (mVar 1)) ig)))) (dOk (dRet (mFn uf [none,some 2] (bu (M.d (mFn qx [none] (bu (mVar 0) ig))) (gj 2 ig))))))))
def gf:Fd:=fnD 3 3 qp
def ad1:Sd :=
 (dSeq (dIf (j9 (gCmp fun i j=>decide (i < j)) (dh 1 (M.d (jd (g1 gL9) (ir 0 mNil))))) (dRet (mOp gIx (dh 0 (dw 1)))) dNx) (dRet (M.v (ret (.int 0)))))
def f__law_cell:Fd:=fnD 2 2 ad1
def aiu:Sd :=
 (dSeq (dSet 1 (jd (g2 (gInt fun i j=>some (if j > i then j else i))) (ir 0 (bh (M.d (mOp (gInt fSub) (iu (ret (.int 0)) (dw 0)))) mNil)))) (dRet (mLst (bh (mVar 1) (bh (M.d (jd (g1 axl) (bh (M.d (mOp (gCmp fun i j=>decide (j<=i)) (dh 1 (M.d (mOp (gInt fPow) (iu (ret (.int 10)) (ret (.int 18)))))))) mNil))) mNil)))))
def f__law_pen:Fd:=fnD 2 1 aiu
def ad0:Sd :=
 (dSeq (dIf (j9 (gEq false) (iu (M.d (mOp gIx (dh 0 (ret (.int 1))))) (ret (.int 1)))) (dSeq (dAsg (M.d (jd (g2 akb) (bh (M.d (mOp gIx (dh 0 (ret (.int 0))))) (ir 1 mNil)))) (bTup 2 (lq (di 2) (lq (di 3) bNil)))) (dSeq (dSub 0 (ret (.int 0)) (mVar 2)) (dRet (afl 3)))) dNx) (dSeq (dSet 4 (mOp (gInt fMod) (iu (M.d (mOp gMul (iu (M.d (mOp gAdd (iu (M.d (mOp (gInt fMod) (iu (M.d (mOp gIx (dh 0 (ret (.int 0))))) (ret (.int 2147483647))))) (ret (.int 40503))))) (ret (.int 69621))))) (ret (.int 2147483629))))) (dSeq (dSet 4 (mOp (gInt fMod) (iu (M.d (mOp gAdd (iu (M.d (mOp gMul (dh 4 (dw 4)))) (ret (.int 7817))))) (ret (.int 2147483587))))) (dSeq (dSub 0 (ret (.int 0)) (M.d (mOp (gInt fMod) (iu (M.d (mOp gAdd (iu (M.d (mOp gMul (dh 4 (ret (.int 48271))))) (ret (.int 11))))) (ret (.int 2147483629)))))) (dRet (mOp (gInt fMod) (iu (M.d (mOp (gInt fDiv) (iu (M.d (mOp gIx (dh 0 (ret (.int 0))))) (ret (.int 32))))) (dw 1))))))))
def f__law_draw:Fd:=fnD 5 2 ad0
def af5:Sd :=
 (dRet (M.v (mAnd (mIsi .int (dw 0)) (mUn gNot (mIsi .bool (dw 0))))))
def w6:Fd:=fnD 1 1 af5
def aiv:Sd :=
 (dSeq (dSet 1 (mLst (bh (ret .non) (bh (ret (.bl true)) (bh (ret (.bl false)) (bh (mUn gNeg (ret (.int 1))) (bh (ret (.str "1")) (bh (ret (.str "")) (bh (mTup mNil) (bh (M.d (mLst mNil)) (bh (mTup (bh (ret (.int 0)) mNil)) (bh (M.d (mLst (bh (ret (.int 0)) mNil))) (bh (ret (.dct [(mU "a", .int 1)])) (bh (mTup (bh (ret (.int 0)) (bh (ret (.int 1)) mNil))) (bh (M.d (mOp (gInt fPow) (iu (ret (.int 10)) (ret (.int 30))))) (bh (mTup (bh (mTup (bh (ret (.int 0)) mNil)) mNil)) (bh (ret (.str "ab")) mNil))))))))))))))))) (dRet (mOp gIx (iu (M.d (mOp gAdd (dh 1 (M.d (mLst (bh (mTup (bh (mTup (bh (mUn gNeg (ret (.int 1))) mNil)) (bh (mTup (bh (ret (.int 0)) (bh (ret (.int 1)) mNil))) mNil))) mNil)))))) (M.d (mFn f__law_draw [some 0,none] (gj 0 (bu (ret (.int 16)) ig))))))))
def f__law_odd:Fd:=fnD 2 1 aiv
def abk:M D :=
 (M.d (mOp (gInt fSub) (iu (M.d (mFn f__law_draw [some 1,none] (gj 1 (bu (M.d (mOp gAdd (dh 2 (dw 3)))) ig)))) (dw 3))))
def abf:Sd :=
 (dSeq (dSet 7 (mOp gAdd (iu (ret (.int 1)) (M.d (mFn f__law_draw [some 0,some 2] (gj 0 (gj 2 ig))))))) (agc (M.v (mMut 5 afq (bh (M.d (jd (g1 gT9) (bh (M.d (ww [none,some 0,some 3,some 4] (mGet qt (bh (mVar 7) mNil)) (di 0) (ret true) abk)) mNil))) mNil)))))
def af7:Sd :=
 (dSeq (dSet 3 (mOp gAdd (iu (ret (.int 1)) (M.d (mFn f__law_draw [some 0,some 1] (gj 0 (gj 1 ig))))))) (dSeq (dSet 4 (mOp gIx (iu (M.d (mLst (bh (ret (.int 0)) (bh (ret (.int 1)) (bh (ret (.int 3)) (bh (ret (.int 3)) mNil)))))) (M.d (mFn f__law_draw [some 0,none] (gj 0 (bu (ret (.int 4)) ig))))))) (dSeq (dSet 5 (mLst mNil)) (dSeq (dFor (mGet qt (bh (mVar 3) mNil)) (di 6) abf) (dRet (jd (g1 gT9) (ir 5 mNil)))))))
def f__law_house:Fd:=fnD 8 3 af7
def zq:M Bool :=
 (j9 (gIn true) (dh 0 (dw 1)))
def zm:M D :=
 (mVar 0)
def nq:M Bool :=
 (j9 (gCmp fun i j=>decide (i < j)) (dh 3 (M.d (jd (g1 gL9) (ir 2 mNil)))))
def jx:Sd :=
 (dSeq (dIf (j9 (gCmp fun i j=>decide (j<=i)) (iu (M.d (mOp gIx (dh 2 (dw 3)))) (ret (.int 0)))) (dSet 2 (mOp gAdd (dh 2 (M.d (ww [none,some 2] (yh (M.d (jd (g1 gSet) (bh (M.d (mOp gIx (dh 0 (M.d (mOp gIx (dh 2 (dw 3))))))) mNil)))) (di 0) zq zm))))) dNx) (dSet 3 (mOp gAdd (dh 3 (ret (.int 1))))))
def ada:Sd :=
 (dSeq (dSet 2 (mLst (bh (mVar 1) mNil))) (dSeq (dSet 3 (M.v (ret (.int 0)))) (dSeq (whileD nq jx fuel) (dRet (afl 2)))))
def qy:Fd:=fnD 4 2 ada
def l1__law_open:Sd :=
 (dIf (j9 (gCmp fun i j=>decide (j<=i)) (iu (M.d (jd (g1 a1g) (bh (M.d (mFn qy [some 3,none] (gj 3 (bu (mVar 4) ig)))) mNil))) (ret (.int 0)))) (dSeq (dSet 5 (mFn f__law_draw [some 0,none] (gj 0 (bu (M.d (jd (g1 gL9) (bh (M.d (mOp gIx (dh 3 (dw 4)))) mNil))) ig)))) (dSub 3 (mVar 4) (M.d (mOp gAdd (iu (M.d (mOp gAdd (iu (M.d (mCut (M.d (mOp gIx (dh 3 (dw 4)))) (ret none) (aqu (mVar 5)))) (mTup (bh (M.d (mOp (gInt fSub) (iu (mUn gNeg (ret (.int 1))) (M.d (mFn f__law_draw [some 0,none] (gj 0 (bu (ret (.int 3)) ig))))))) mNil))))) (M.d (mCut (M.d (mOp gIx (dh 3 (dw 4)))) (aqu (M.d (mOp gAdd (dh 5 (ret (.int 1)))))) (ret none)))))))) dNx)
def ahi:Sd :=
 (dSeq (dSet 3 (jd (g1 fun d=>(itemsD d).map fun l=>.fr l) (bh (M.d (mFn f__law_house [some 0,some 1,some 2] (gj 0 (gj 1 (gj 2 ig))))) mNil))) (dSeq (dFor (mGet qt (bh (M.d (jd (g1 gL9) (ir 3 mNil))) mNil)) (di 4) l1__law_open) (dRet (jd (g1 gT9) (ir 3 mNil)))))
def f__law_open:Fd:=fnD 6 3 ahi
def abl:M D :=
 (M.d (mFn f__law_draw [some 1,none] (gj 1 (bu (M.d (jd (g1 gL9) (ir 0 mNil))) ig))))
def af8:Sd :=
 (dRet (jd (g1 gT9) (bh (M.d (ww [none,some 0] (yh (mVar 1)) (di 0) (ret true) abl)) mNil)))
def f__law_drawn:Fd:=fnD 2 2 af8
def an2:Sd :=
 (dSeq (dSet 1 (mLst (bh (mIsC NS "NoArrows" (dw 0)) (bh (mIsC NS "NoRoom" (dw 0)) (bh (mIsC NS "NoWalkers" (dw 0)) (bh (mIsC NS "NotShut" (dw 0)) mNil)))))) (dSeq (dSet 1 (mOp gAdd (dh 1 (M.d (mLst (bh (mIsC NS "NeverBack" (dw 0)) (bh (mIsC NS "NoTour" (dw 0)) (bh (mIsC NS "NoRow" (dw 0)) (bh (mIsC NS "NoHouse" (dw 0)) mNil))))))))) (dSeq (dSet 1 (mOp gAdd (dh 1 (M.d (mLst (bh (mIsC NS "NotOpen" (dw 0)) (bh (mIsC NS "Nobody" (dw 0)) (bh (mIsC NS "NoText" (dw 0)) (bh (mIsC NS "TooGreat" (dw 0)) mNil))))))))) (dSeq (dIf (mOrB (afk (aaw (mIsC NS "ValueError" (dw 0)))) (j9 (gEq true) (iu (ao9 1 (bh (ret (.bl true)) mNil)) (ret (.int 1))))) (dRet (M.v (ret (.str "other")))) dNx) (dSeq (dSet 2 (mLst (bh (ret (.str "arrows")) (bh (ret (.str "room")) (bh (ret (.str "walkers")) (bh (ret (.str "shut")) (bh (ret (.str "never")) (bh (ret (.str "tour")) (bh (ret (.str "row")) (bh (ret (.str "house")) (bh (ret (.str "open")) (bh (ret (.str "nobody")) mNil)))))))))))) (dRet (mOp gIx (iu (M.d (mOp gAdd (dh 2 (M.d (mLst (bh (ret (.str "text")) (bh (ret (.str "great")) mNil))))))) (a02 1 auc (bh (ret (.bl true)) mNil))))))))))
def qd:Fd:=fnD 3 1 an2
def abj:M D :=
 (M.d (mOp gIx (dh 1 (M.d (mOp (gInt fSub) (dh 0 (ret (.int 1))))))))
def acf:Sd :=
 (dRet (ww [none,none] (mGet an3 (bh (mVar 1) (bh (mVar 0) mNil))) (bTup 2 (lq (di 0) (lq (di 1) bNil))) (ret true) abj))
def f__law_lasts:Fd:=fnD 2 2 acf
def pq:Sd :=
 (dIf (j9 (gCmp fun i j=>decide (i<=j)) (iu (ret (.int 0)) (dw 2))) (dSeq (dSet 2 (mOp gIx (dh 0 (dw 2)))) (dIf (j9 (gEq false) (dh 2 (dw 1))) (dRet (M.v (ret (.bl false)))) dNx)) dNx)
def l2__law_free:Sd :=
 (dSeq (dSet 2 (M.v (mVar 1))) (dFor (mGet qt (bh (M.d (jd (g1 gL9) (ir 0 mNil))) mNil)) (di 3) pq))
def adz:Sd :=
 (dSeq (dFor (mGet qt (bh (M.d (jd (g1 gL9) (ir 0 mNil))) mNil)) (di 1) l2__law_free) (dRet (M.v (ret (.bl true)))))
def vg:Fd:=fnD 4 1 adz
def af6:Sd :=
 (dSeq (dAsg (M.d (mOp gIx (iu (M.d (mLst (bh (mTup (bh (ret (.int 2)) (bh (ret (.int 6)) mNil))) (bh (mTup (bh (ret (.int 3)) (bh (ret (.int 4)) mNil))) (bh (mTup (bh (ret (.int 4)) (bh (ret (.int 3)) mNil))) (bh (mTup (bh (ret (.int 5)) (bh (ret (.int 2)) mNil))) (bh (mTup (bh (ret (.int 6)) (bh (ret (.int 2)) mNil))) mNil))))))) (M.d (mFn f__law_draw [some 0,none] (gj 0 (bu (ret (.int 5)) ig))))))) (bTup 2 (lq (di 1) (lq (di 2) bNil)))) (dRet (mFn f__law_open [some 0,some 1,some 2] (gj 0 (gj 1 (gj 2 ig))))))
def xf:Fd:=fnD 3 1 af6
def zu:M Bool :=
 (j9 (gCmp fun i j=>decide (j<=i)) (dh 2 (ret (.int 0))))
def abw:Sd :=
 (dSeq (dSet 4 (mOp gIx (iu (M.d (mOp gIx (dh 0 (dw 2)))) (M.d (mOp gIx (dh 3 (dw 2))))))) (dSeq (dSub 3 (mVar 2) (M.d (mOp (gInt fMod) (iu (M.d (mOp gAdd (iu (M.d (mOp gIx (dh 3 (dw 2)))) (ret (.int 1))))) (M.d (jd (g1 gL9) (bh (M.d (mOp gIx (dh 0 (dw 2)))) mNil))))))) (dSet 2 (M.v (mVar 4)))))
def ahh:Sd :=
 (dSeq (dSet 3 (jd (g1 fun d=>(itemsD d).map fun l=>.fr l) (ir 1 mNil))) (dSeq (whileD zu abw fuel) (dRet (jd (g1 gT9) (ir 3 mNil)))))
def f__law_sent:Fd:=fnD 5 3 ahh
def wz:Sd :=
 (dRet (M.v (mTup (bh (M.d (mFn qd [some 3] (gj 3 ig))) (bh (ret .non) mNil)))))
def vf:Sd :=
 (dTry NS (dRet (M.v (mTup (bh (okS (ret (.str "told"))) (bh (M.d (mFn gf [none,none,none] (bu (okS (mVar 0)) (bu (okS (mVar 1)) (bu (okS (mVar 2)) ig))))) mNil))))) 3 wz)
def dz:Fd:=fnD 4 3 vf
def yx:M Bool :=
 (j9 (gEq true) (dh 3 (dw 1)))
def aa4:Sd :=
 (dSeq (dSet 3 (mFn f__law_sent [some 0,some 3,none] (gj 0 (gj 3 (bu (mVar 2) ig))))) (dSet 4 (mOp gAdd (dh 4 (ret (.int 1))))))
def aiw:Sd :=
 (dSeq (dSet 3 (mFn f__law_sent [some 0,some 1,none] (gj 0 (gj 1 (bu (mVar 2) ig))))) (dSeq (dSet 4 (M.v (ret (.int 1)))) (dSeq (whileD yx aa4 fuel) (dRet (afl 4)))))
def aa3:Fd:=fnD 5 3 aiw
def abg:Sd :=
 (dSet 2 (mFn f__law_sent [some 1,some 2,none] (gj 1 (gj 2 (bu (mVar 3) ig)))))
def af9:Sd :=
 (dSeq (dSet 2 (mFn f__law_drawn [some 0,none] (gj 0 (bu (mVar 1) ig)))) (dSeq (dFor (mGet qt (bh (M.d (jd (g1 gL9) (ir 1 mNil))) mNil)) (di 3) abg) (dRet (afl 2))))
def su:Fd:=fnD 4 2 af9
def ace:Sd :=
 (dSeq (dIf (afk (aaw (M.d (mFn vg [none] (bu (M.d (mFn f__law_lasts [none,none] (bu (mVar 0) (bu (mVar 1) ig)))) ig))))) (dRet (mOp (gEq false) (iu (M.d (mFn dz [none,none,none] (bu (mVar 0) (bu (mVar 1) (bu (mVar 2) ig))))) (mTup (bh (ret (.str "never")) (bh (ret .non) mNil)))))) dNx) (dSeq (dAsg (M.d (mFn dz [none,none,none] (bu (mVar 0) (bu (mVar 1) (bu (mVar 2) ig))))) (bTup 2 (lq (di 3) (lq (di 4) bNil)))) (dRet (M.v (mAnd (M.d (mOp (gEq false) (dh 3 (ret (.str "told"))))) (mAnd (M.d (mFn w6 [some 4] (gj 4 ig))) (M.d (mOp (gEq false) (dh 4 (M.d (mFn aa3 [some 0,some 1,none] (gj 0 (gj 1 (bu (mVar 2) ig))))))))))))))
def je:Fd:=fnD 5 3 ace
def l1_law:Sd :=
 (dSeq (dIf (mOrB (afk (aaw (M.d (mFn je [none,none,none] (bu (mVar 3) (bu (mVar 4) (bu (mVar 6) ig))))))) (afk (aaw (M.d (mFn je [none,none,none] (bu (mVar 3) (bu (M.d (mFn f__law_drawn [some 2,none] (gj 2 (bu (mVar 3) ig)))) (bu (mVar 6) ig)))))))) (dRet (M.v (ret (.bl false)))) dNx) (dIf (j9 (gEq true) (iu (M.d (mFn dz [none,none,none] (bu (mVar 3) (bu (mVar 4) (bu (mVar 6) ig))))) (M.d (mFn dz [none,none,none] (bu (mVar 3) (bu (mVar 5) (bu (mVar 6) ig))))))) (dRet (M.v (ret (.bl false)))) dNx))
def auy:M D :=
 (M.d (jd (g2 (gInt fun i j=>some (if j > i then j else i))) (bh (ret (.int 0)) (ir 0 mNil))))
def auw:M D :=
 (M.d (jd (g1 gT9) (bh (M.d (ww [none] (yh (mVar 0)) (di 0) (ret true) auy)) mNil)))
def atn:Sd :=
 (dSeq (dIf (mOrB (j9 (gEq true) (iu (M.d (mOp gIx (iu (M.d (mFn dz [none,none,none] (bu (mVar 3) (bu (M.d (mOp gAdd (dh 4 (mTup (bh (ret (.int 0)) mNil))))) (bu (mVar 8) ig))))) (ret (.int 0))))) (ret (.str "arrows")))) (j9 (gEq true) (iu (M.d (mOp gIx (iu (M.d (mFn dz [none,none,none] (bu (mVar 3) (bu (ret .non) (bu (ret (.int 0)) ig))))) (ret (.int 0))))) (ret (.str "arrows"))))) (dRet (M.v (ret (.bl false)))) dNx) (dIf (mOrB (j9 (gEq true) (iu (M.d (mOp gIx (iu (M.d (mFn dz [none,none,none] (bu (mVar 3) (bu (mVar 4) (bu (mVar 8) ig))))) (ret (.int 0))))) (ret (.str "room")))) (j9 (gEq true) (iu (M.d (mOp gIx (iu (M.d (mFn dz [none,none,none] (bu (mVar 7) (bu (mVar 4) (bu (mVar 8) ig))))) (ret (.int 0))))) (ret (.str "room"))))) (dRet (M.v (ret (.bl false)))) dNx))
def l3_law:Sd :=
 (dSeq (dSet 2 (mFn f__law_pen [some 1] (gj 1 ig))) (dSeq (dSet 3 (mFn xf [some 2] (gj 2 ig))) (dSeq (dPar 4 5 (bh (M.d (mFn su [some 2,none] (gj 2 (bu (mVar 3) ig)))) (bh (M.d (mFn su [some 2,none] (gj 2 (bu (mVar 3) ig)))) mNil))) (dSeq (dFor (mGet qt (bh (M.d (jd (g1 gL9) (ir 3 mNil))) mNil)) (di 6) l1_law) (dSeq (dSet 7 (jd (g1 gT9) (bh (M.d (ww [none] (yh (mVar 3)) (di 0) (ret true) auw)) mNil))) (dSeq (dFor (yh (M.d (mLst (bh (M.d (jd (g1 gL9) (ir 3 mNil))) (bh (mUn gNeg (ret (.int 1))) (bh (ret (.bl true)) (bh (ret .non) (bh (M.d (mFn f__law_odd [some 2] (gj 2 ig))) mNil)))))))) (di 8) atn) (dIf (j9 (gEq true) (iu (M.d (mOp gIx (iu (M.d (mFn dz [none,none,none] (bu (mVar 7) (bu (mVar 4) (bu (ret (.int 0)) ig))))) (ret (.int 0))))) (ret (.str "open")))) (dRet (M.v (ret (.bl false)))) dNx)))))))
def a5s:Sd :=
 (dSeq (dIf (mOrB (afk (aaw (M.d (mFn je [none,none,none] (bu (mTup (bh (mTup (bh (mUn gNeg (ret (.int 1))) mNil)) mNil)) (bu (mTup (bh (ret (.int 0)) mNil)) (bu (ret (.int 0)) ig))))))) (afk (aaw (M.d (mFn je [none,none,none] (bu (mTup (bh (mTup (bh (mUn gNeg (ret (.int 1))) (bh (ret (.int 0)) mNil))) mNil)) (bu (mTup (bh (ret (.int 0)) mNil)) (bu (ret (.int 0)) ig)))))))) (dRet (M.v (ret (.bl false)))) dNx) (dSeq (dIf (afk (aaw (M.d (mFn je [none,none,none] (bu (mTup (bh (mTup (bh (mUn gNeg (ret (.int 1))) (bh (ret (.int 0)) mNil))) mNil)) (bu (mTup (bh (ret (.int 1)) mNil)) (bu (ret (.int 0)) ig))))))) (dRet (M.v (ret (.bl false)))) dNx) (dSeq (dFor (yh (M.d (mOp gAdd (iu (M.d (mLst (bh (M.d (mFn f__law_cell [some 0,none] (gj 0 (bu (ret (.int 0)) ig)))) mNil))) (M.d (a04 0 (aqu (ret (.int 1))) (aqu (ret (.int 3))))))))) (di 1) l3_law) (dRet (M.v (ret (.bl true)))))))
def aup:Fd:=fnD 9 1 a5s
def aid:D->Bool
 | .int _=>true
 | _=>false
def j8(a b:Int):D->Bool
 | .int i=>decide (a<=i)&&decide (i<=b)
 | _=>false
@[simp] theorem a08(d:D):aa2 [.val d]=some (.ok (.v (.bl (aid d))),[.val d]):=by
 cases d <;> simp[aa2,ait,isTy,aid]
@[simp] theorem aph(d:D)(a b:Int):ju [.val d,.val (.int a),.val (.int b)]=some (.ok (.v (.bl (j8 a b d))),[.val d,.val (.int a),.val (.int b)]):=by
 cases d <;> simp[ju,aay,aid,j8]
theorem avd(ns:List Int)(k:Int)(h:0<=k):∃n,f__law_cell [.val (.kst (ns.map D.int)),.val (.int k)]=some (.ok (.v (.int n)),[.val (.kst (ns.map D.int)),.val (.int k)]):=by
 by_cases hk:k < (ns.length:Int)
 ·have e:atI (ns.map D.int) k=some (.int (ns[k.toNat]'(by omega))):=by
   have h2:atI (ns.map D.int) ((k.toNat:Nat):Int)=some (.int (ns[k.toNat]'(by omega))):=akq (by simp[bA,aF (show k.toNat < ns.length by omega)])
   rw[show((k.toNat:Nat):Int)=k by omega] at h2
   exact h2
  exact⟨ns[k.toNat]'(by omega),by simp[f__law_cell,ad1,hk,e]⟩
 ·exact⟨0,by simp[f__law_cell,ad1,hk]⟩
def pen(P:Int×Int):List D:=[.int P.1,.int P.2]
theorem awj(n:Int):∃P,f__law_pen [.val (.int n)]=some (.ok (.fr (pen P)),[.val (.int n)]):=by
 refine⟨(if 0 - n > n then 0 - n else n,if 10 ^ 18<=(if 0 - n > n then 0 - n else n) then 1 else 0),?_⟩
 simp[f__law_pen,aiu,pen,fPow]
theorem uh(P:Int×Int)(m:Int)(h0:0 < m)(h1:m < 1000000000000000000000000000000000000000000000000000000000000):∃r P',f__law_draw [.own (some 0) (pen P),.val (.int m)]=some (.ok (.v (.int r)),[.own (some 0) (pen P'),.val (.int m)])/\0<=r/\r < m:=by
 obtain⟨a,b⟩:=P
 by_cases hb:b=1
 ·refine⟨a % m,(a / m,b),?_,iZ _ (by omega),gA _ h0⟩
  simp[f__law_draw,ad0,pen,hb,h0,h1,atI,ixN]
 ·have z0:0<=(a % 2147483647+40503)*69621 % 2147483629:=iZ _ (by decide)
  have z1:(a % 2147483647+40503)*69621 % 2147483629 < 2147483629:=gA _ (by decide)
  generalize hz:(a % 2147483647+40503)*69621 % 2147483629=z at z0 z1;have hm:fMul z z=some (z*z):=by
   unfold fMul;rw[if_pos (.inl ⟨by omega,by omega⟩)]
  refine⟨((z*z+7817) % 2147483587*48271+11) % 2147483629 / 32 % m,(((z*z+7817) % 2147483587*48271+11) % 2147483629,b),?_,iZ _ (by omega),gA _ h0⟩
  have h69:∀x:Int,fMul x 69621=some (x*69621):=fun x=>by unfold fMul;rw[if_pos (.inr (by decide))]
  have h48:∀x:Int,fMul x 48271=some (x*48271):=fun x=>by unfold fMul;rw[if_pos (.inr (by decide))]
  simp[f__law_draw,ad0,pen,hb,h0,h1,atI,ixN,h69,h48,hm,fMod,fDiv,hz]
structure HouseOk (m w:Int) (qv:LL9):Prop where
 one:1<=qv.length
 most:(qv.length:Int)<=m
 room:∀r∈qv,1<=r.length/\(r.length:Int)<=w/\∀x∈r,-3<=x/\x < (qv.length:Int)
def hDs(qv:LL9):List D:=qv.map fun r=>D.tup (r.map D.int)
def hD(qv:LL9):D:=.tup (hDs qv)
theorem aqz(P:Int×Int)(m w:Int)(m1:1<=m)(m2:m<=10)(w1:1<=w)(w2:w<=6):∃qv P',f__law_house [.own (some 0) (pen P),.val (.int m),.val (.int w)]=some (.ok (.v (hD qv)),[.own (some 0) (pen P'),.val (.int m),.val (.int w)])/\HouseOk m w qv:=by
 obtain⟨r1,P1,e1,r1a,r1b⟩:=uh P m (by omega) (by omega)
 obtain⟨r2,P2,e2,r2a,r2b⟩:=uh P1 4 (by decide) (by decide)
 have hg:∃g:Int,atI [D.int 0,D.int 1,D.int 3,D.int 3] r2=some (.int g)/\0<=g/\g<=3:=by
  have:r2=0∨r2=1∨r2=2∨r2=3:=by omega
  rcases this with rfl | rfl | rfl | rfl
  ·exact⟨0,rfl,by decide,by decide⟩
  ·exact⟨1,rfl,by decide,by decide⟩
  ·exact⟨3,rfl,by decide,by decide⟩
  ·exact⟨3,rfl,by decide,by decide⟩
 obtain⟨g,eg,g0,g3⟩:=hg;have loop:=abh (b:=di 6) (g:=abf) (fun i ρ=>∃qv P o1 o2,ρ=[.own (some 0) (pen P),.val (.int m),.val (.int w),.val (.int (1+r1)),.val (.int g),.own none (hDs qv),o1,o2]/\qv.length=i/\∀r∈qv,1<=r.length/\(r.length:Int)<=w/\∀x∈r,-3<=x/\x < 1+r1)
  (l:=rangeD 0 (1+r1).toNat) (ρ:=[.own (some 0) (pen P2),.val (.int m),.val (.int w),.val (.int (1+r1)),.val (.int g),.own none [],.emp,.emp]) 0 ⟨[],P2,.emp,.emp,rfl,rfl,by simp⟩ ?_
 ·obtain⟨ρ',e3,qv,P3,o1,o2,rfl,hl,hr⟩:=loop;have hl:qv.length=(1+r1).toNat:=by simpa[rangeD] using hl
  refine⟨qv,P3,?_,by omega,by omega,fun r h =>?_⟩
  ·have hb:(1+r1).natAbs < 4611686018427387904:=by omega
   simp[f__law_house,af7,e1,e2,eg,hb,e3,hD]
  ·obtain⟨a,b,c⟩:=hr r h;exact⟨a,b,fun x hx=>by have:=c x hx;omega⟩
 ·rintro i d ρ hd ⟨qv,P4,o1,o2,rfl,hl,hr⟩
  obtain⟨r5,P5,e5,r5a,r5b⟩:=uh P4 w (by omega) (by omega)
  have comp:=uq (b:=di 0) (mc:=ret true) (me:=abk) (fun j ys ρ=>∃ns P o,ρ=[o,.own (some 1) (pen P),.val (.int (1+r1)),.val (.int g)]/\ys=ns.map D.int/\ns.length=j/\∀x∈ns,-3<=x/\x < 1+r1)
   (l:=rangeD 0 (1+r5).toNat) (ys:=[]) (ρ:=[.emp,.own (some 1) (pen P5),.val (.int (1+r1)),.val (.int g)]) 0 ⟨[],P5,.emp,rfl,rfl,rfl,by simp⟩ ?_
  ·obtain⟨ys,ρ',e6,ns,P6,o,rfl,rfl,hn,hx⟩:=comp;have hn:ns.length=(1+r5).toNat:=by simpa[rangeD] using hn
   have hb:(1+r5).natAbs < 4611686018427387904:=by omega
   have hc1:ns.length<=capS:=cz (by omega)
   have hi:i < (1+r1).toNat:=by
    have:=(aQ.mp hd).1
    simpa[rangeD] using this
   have hc2:(hDs qv).length < capS:=by simp[hDs,capS];omega
   refine⟨_,[.own (some 0) (pen P6),.val (.int m),.val (.int w),.val (.int (1+r1)),.val (.int g),.own none (hDs (qv++[ns])),.val d,.val (.int (1+r5))],rfl,.inl (by simp[abf,e5,hb,e6,hc1,hc2];simp[hDs]),qv++[ns],P6,_,_,rfl,by simp[hl],fun r h =>?_⟩
   rcases cX.mp h with h | h
   ·exact hr r h
   ·obtain rfl:r=ns:=by simpa using h
    exact⟨by omega,by omega,hx⟩
  ·rintro j d ys ρ hd ⟨ns,P6,o,rfl,rfl,hn,hx⟩
   obtain⟨r7,P7,e7,r7a,r7b⟩:=uh P6 (1+r1+g) (by omega) (by omega)
   refine⟨_,_,true,rfl,rfl,.inr ⟨rfl,.int (r7 - g),_,by simp[abk,e7];rfl,ns++[r7 - g],P7,_,rfl,by simp,by simp[hn],fun x h =>?_⟩⟩
   rcases cX.mp h with h | h
   ·exact hx x h
   ·obtain rfl:x=r7 - g:=by simpa using h
    omega
@[simp] theorem ayn(d:D):w6 [.val d]=some (.ok (.v (.bl (aid d))),[.val d]):=by
 cases d <;> simp[w6,af5,isTy,aid]
structure Hs (qv:LL9):Prop where
 one:1<=qv.length
 most:qv.length<=10
 room:∀r∈qv,1<=r.length/\r.length<=6/\∀x∈r,-3<=x/\x < (qv.length:Int)
def dr(qv:LL9)(x:Int):List Int:=qv.getD x.toNat []
inductive Rch (qv:LL9) (a:Int):Int->Prop
 | base:Rch qv a a
 | step {x d:Int}:Rch qv a x->0<=x->d∈dr qv x->Rch qv a d
theorem akp{qv:LL9}{x:Int}(h0:0<=x)(h1:x < (qv.length:Int)):atI (hDs qv) x=some (.tup ((dr qv x).map D.int)):=by
 have hk:x.toNat < qv.length:=by omega
 have q:atI (hDs qv) ((x.toNat:Nat):Int)=some (.tup ((dr qv x).map D.int)):=akq (by simp[hDs,dr,aF hk])
 rw[show((x.toNat:Nat):Int)=x by omega] at q
 exact q
theorem Hs.dr{qv:LL9}(h:Hs qv){x:Int}(h0:0<=x)(h1:x < (qv.length:Int)):1<=(dr qv x).length/\(My.dr qv x).length<=6/\∀y∈My.dr qv x,-3<=y/\y < (qv.length:Int):=by
 have hk:x.toNat < qv.length:=by omega
 have e:My.dr qv x=qv[x.toNat]:=by simp[My.dr,hk]
 rw[e];exact h.room _ (cZ hk)
theorem Rch.range{qv:LL9}(h:Hs qv){a x:Int}(ha:0<=a/\a < (qv.length:Int))(r:Rch qv a x) : -3<=x/\x < (qv.length:Int):=by
 induction r with
 | base=>omega
 | step r h0 hd ih=>exact(h.dr h0 ih.2).2.2 _ hd
theorem alm:∀(m:Nat) (l:List Int),l.Nodup->(∀x∈l,-3<=x/\x < (m:Int) - 3)->l.length<=m
 | 0,l,_,h=>by
  cases l with
  | nil=>simp
  | cons x r=>have:=h x (aR ..);omega
 | m+1,l,hn,h=>by
  have h1:(l.erase ((m:Int) - 3)).length<=m:=alm m _ (hn.erase _) fun x hx=>by
   rw[hn.mem_erase_iff] at hx;have:=h x hx.2;have:=hx.1;omega
  have h2:l.length<=(l.erase ((m:Int) - 3)).length+1:=by
   rw[xJ];split <;> omega
  omega
theorem azz{qv:LL9}(h:Hs qv){a:Int}(ha:0<=a/\a < (qv.length:Int)){ns:List Int}(hn:ns.Nodup)(hr:∀x∈ns,Rch qv a x):ns.length<=13:=by
 have:=alm (qv.length+3) ns hn fun x hx=>by have:=Rch.range h ha (hr x hx);omega
 have:=h.most;omega
theorem aqf{qv:LL9}{a:Int}{ns:List Int}(h0:a∈ns)(hc:∀x∈ns,0<=x->∀d∈dr qv x,d∈ns){x:Int}(r:Rch qv a x):x∈ns:=by
 induction r with
 | base=>exact h0
 | step r h0 hd ih=>exact hc _ ih h0 _ hd
theorem a6n{ns:List Int}{i:Nat}(h:i < ns.length):atI (ns.map D.int) (i:Int)=some (.int ns[i]):=akq (by simp[aF h])
def a6r(qv:LL9)(S:Sl):Prop:=S=.val (hD qv)∨S=.own (some 0) (hDs qv)
theorem ak5{qv:LL9}(h:Hs qv){S:Sl}(hS:a6r qv S){a:Int}{ns:List Int}{i:Nat}(hi:i < ns.length)(hz:ns.length<=13)(hx:ns[i] < (qv.length:Int)) :
  jx [S,.val (.int a),.own none (ns.map D.int),.val (.int (i:Nat))]=some (.nx,[S,.val (.int a),.own none ((if 0<=ns[i] then ns++(setI (dr qv ns[i])).filter (fun d => !decide (d∈ns)) else ns).map D.int),.val (.int ((i:Nat)+1))]):=by
 have ei:=a6n hi
 by_cases h0:0<=ns[i]
 ·obtain⟨k1,k2,k3⟩:=h.dr h0 hx;have er:=akp h0 hx;have es:=aub (ns:=dr qv ns[i]) (by omega)
  have ef:compD (di 0) zq zm ((setI (dr qv ns[i])).map D.int) [] [.emp,.own (some 1) (ns.map D.int)]=some (.ok (((setI (dr qv ns[i])).filter (fun d => !decide (d∈ns))).map D.int),abe .emp ((setI (dr qv ns[i])).map D.int)::[.own (some 1) (ns.map D.int)]):=by
   rw[xg (p:=fun d=>match d with | .int k => !decide (k∈ns) | _=>false) (f:=id)]
   ·simp[sW,oH]
   ·intro d hd;obtain⟨k,_,rfl⟩:=bV.mp hd;simp[zq,an5]
   ·intro d hd _;simp[zm]
  have hlen:(setI (dr qv ns[i])).length<=6:=by
   unfold setI;rw[(sortI_perm _).length_eq];exact cL (adt _) k2
  have hc1:((setI (dr qv ns[i])).filter (fun d => !decide (d∈ns))).length<=6:=cL (gG _ _) hlen
  have hc2:ns.length+((setI (dr qv ns[i])).filter (fun d => !decide (d∈ns))).length<=capS:=cz (by omega)
  have hc3:((setI (dr qv ns[i])).filter (fun d => !decide (d∈ns))).length<=capS:=cz (by omega)
  rcases hS with rfl | rfl
  ·simp[jx,hD,ei,h0,er,es,ef,hc1,hc2,hc3]
  ·simp[jx,ei,h0,er,es,ef,hc1,hc2,hc3]
 ·simp[jx,ei,h0]
theorem ak6{qv:LL9}(h:Hs qv){S:Sl}(hS:a6r qv S){a:Int}(ha:0<=a/\a < (qv.length:Int)) :
  ∃ns:List Int,qy [S,.val (.int a)]=some (.ok (.fr (ns.map D.int)),[S,.val (.int a)])/\ns≠[]/\∀x,x∈ns↔Rch qv a x:=by
 have loop:=uv (c:=nq) (g:=jx)
  (fun k ρ=>∃(ns:List Int) (i:Nat),ρ=[S,.val (.int a),.own none (ns.map D.int),.val (.int (i:Nat))]/\k=20 - i/\i<=ns.length/\ns.Nodup/\a∈ns/\(∀x∈ns,Rch qv a x)/\∀j (hj:j < ns.length),j < i->0<=ns[j]->∀d∈dr qv ns[j],d∈ns)
  (fun ρ=>∃(ns:List Int) (o:Sl),ρ=[S,.val (.int a),.own none (ns.map D.int),o]/\ns≠[]/\∀x,x∈ns↔Rch qv a x) ?_ fuel 20 [S,.val (.int a),.own none ([a].map D.int),.val (.int ((0:Nat):Int))] (jC (by decide) aex)
  ⟨[a],0,rfl,rfl,by simp,by simp,by simp,by simp;exact .base,fun j hj hlt=>absurd hlt (pL _)⟩
 ·obtain⟨ρ',e,ns,o,rfl,hne,hm⟩:=loop;have e:whileD nq jx fuel [S,.val (.int a),.own none [.int a],.val (.int 0)]=some (.nx,[S,.val (.int a),.own none (ns.map D.int),o]):=e;refine⟨ns,?_,hne,hm⟩;rcases hS with rfl | rfl <;> simp[qy,ada,e]
 ·rintro k ρ ⟨ns,i,rfl,rfl,hi,hn,h0,hr,hc⟩
  have hz:=azz h ha hn hr
  by_cases hlt:i < ns.length
  ·refine .inr ⟨[S,.val (.int a),.own none (ns.map D.int),.val (.int (i:Nat))],_,20 - (i+1),?_,ak5 h hS hlt hz (Rch.range h ha (hr _ (cZ hlt))).2,by omega,?_⟩
   ·have:(i:Int) < (ns.length:Int):=by omega
    rcases hS with rfl | rfl <;> simp[nq,this]
   ·by_cases hp:0<=ns[i]
    ·rw[if_pos hp];refine⟨_,i+1,rfl,rfl,by simp;omega,?_,gB _ h0,?_,?_⟩
     ·rw[xH];refine⟨hn,pW vW (aqo _),fun x hx y hy e =>?_⟩
      have:=(bQ.mp hy).2;subst e;simp[hx] at this
     ·intro x hx;rcases cX.mp hx with hx | hx
      ·exact hr x hx
      ·exact .step (hr _ (cZ hlt)) hp ((ao7 _ _).mp (bQ.mp hx).1)
     ·intro j hj hji hjp d hd;have hjl:j < ns.length:=by omega
      rw[List.getElem_append_left hjl] at hjp hd;rcases jQ j i with z | z
      ·exact gB _ (hc j hjl z hjp d hd)
      ·have:j=i:=by omega
       subst this
       by_cases hdn:d∈ns
       ·exact gB _ hdn
       ·exact cU _ (bQ.mpr ⟨(ao7 _ _).mpr hd,by simp[hdn]⟩)
    ·rw[if_neg hp];refine⟨_,i+1,rfl,rfl,hlt,hn,h0,hr,?_⟩;intro j hj hji hjp d hd;rcases jQ j i with z | z
     ·exact hc j hj z hjp d hd
     ·have:j=i:=by omega
      subst this;exact absurd hjp hp
  ·refine .inl ⟨[S,.val (.int a),.own none (ns.map D.int),.val (.int (i:Nat))],?_,ns,_,rfl,qR h0,fun x=>⟨hr x,aqf h0 fun y hy hp d hd =>?_⟩⟩
   ·have:¬(i:Int) < (ns.length:Int):=by omega
    rcases hS with rfl | rfl <;> simp[nq,this]
   ·obtain⟨j,hj,rfl⟩:=gR.mp hy;exact hc j hj (by omega) hp d hd
open Classical in
noncomputable def caught(qv:LL9)(a:Int):Bool:=decide (∀x,Rch qv a x->0<=x)
theorem jf(qv:LL9)(a:Int):caught qv a=true↔∀x,Rch qv a x->0<=x:=by
 unfold caught;exact @decide_eq_true_iff _ (Classical.propDecidable _)
def upto(n:Nat):List Int:=(aK n).map fun i=>((i:Nat):Int)
theorem abb(n:Nat):rangeD 0 n=(upto n).map D.int:=by
 unfold rangeD upto;rw[dN];apply fV;intro i _;simp
theorem j4{n:Nat}{x:Int}(h:x∈upto n):0<=x/\x < (n:Int):=by
 obtain⟨i,hi,rfl⟩:=bV.mp h;have:=cR.mp hi;omega
noncomputable def trapI(qv:LL9):List Int:=(upto qv.length).filter (caught qv)
theorem agt{qv:LL9}(h:Hs qv):(qv.length:Int).natAbs < 4611686018427387904:=by have:=h.most;omega
theorem asr{qv:LL9}(h:Hs qv):qt [.int (qv.length:Int)]=some (rangeD 0 qv.length):=by
 rw[an4,if_pos (agt h),cD]
def keepI(qv:LL9)(S:List Int):List Int:=S.filter fun x=>(dr qv x).all fun d=>decide (d∈S)
theorem azi{qv:LL9}(h:Hs qv)(S:List Int){x:Int}(h0:0<=x)(h1:x < (qv.length:Int)) :
  akn [.val (.int x),.val (.lst (S.map D.int)),.val (hD qv)]=some (.ok ((dr qv x).all fun d=>decide (d∈S)),[.val (.int x),.val (.lst (S.map D.int)),.val (hD qv)]):=by
 have er:=akp h0 h1;obtain⟨k1,k2,k3⟩:=h.dr h0 h1;have ef:compD (di 0) (ret true) aoa ((dr qv x).map D.int) [] [.emp,.val (.lst (S.map D.int))]=some (.ok ((dr qv x).map fun d=>.bl (decide (d∈S))),abe .emp ((dr qv x).map D.int)::[.val (.lst (S.map D.int))]):=by
  rw[uo (f:=fun d=>match d with | .int k=>.bl (decide (k∈S)) | _=>.non)]
  ·simp
  ·intro d hd;obtain⟨k,_,rfl⟩:=bV.mp hd;simp[aoa,an5]
 have hc:(dr qv x).length<=capS:=cz (by omega)
 have hb:abt ((dr qv x).map fun d=>D.bl (decide (d∈S)))=some ((dr qv x).map fun d=>decide (d∈S)):=aog _ _
 simp[akn,hD,er,ef,hc,hb,oH]
theorem ar0{qv:LL9}(h:Hs qv)(S:List Int)(hS:∀x∈S,0<=x/\x < (qv.length:Int)) :
  compD (di 0) akn an9 (S.map D.int) [] [.emp,.val (.lst (S.map D.int)),.val (hD qv)]=some (.ok ((keepI qv S).map D.int),abe .emp (S.map D.int)::[.val (.lst (S.map D.int)),.val (hD qv)]):=by
 rw[xg (p:=fun d=>match d with | .int x=>(dr qv x).all fun d=>decide (d∈S) | _=>false) (f:=id)]
 ·simp only[keepI,sW,oH,List.map_id,bL]
 ·intro d hd;obtain⟨k,hk,rfl⟩:=bV.mp hd;exact azi h S (hS k hk).1 (hS k hk).2
 ·intro d hd _;simp[an9]
theorem a2t{qv:LL9}(h:Hs qv){S:List Int}(hS:∀x∈S,0<=x/\x < (qv.length:Int))(hl:S.length<=10)(o:Sl) :
  ai7 [.val (hD qv),.own none (S.map D.int),o]=some (.nx,[.val (hD qv),.own none ((keepI qv S).map D.int),.val (.int (S.length:Nat))]):=by
 have e:=ar0 h S hS;have hc:(keepI qv S).length<=capS:=cz (cL (gG _ _) (by omega))
 generalize keepI qv S=T at e hc;simp only[hD] at e ⊢
 simp[ai7,e,hc]
theorem aow{qv:LL9}{x d y:Int}(h0:0<=x)(hd:d∈dr qv x)(hy:Rch qv d y):Rch qv x y:=by
 induction hy with
 | base=>exact .step .base h0 hd
 | step r h1 hd1 ih=>exact .step ih h1 hd1
theorem arz{qv:LL9}(h:Hs qv):al5 [.val (hD qv)]=some (.ok (.v (.tup ((trapI qv).map D.int))),[.val (hD qv)]):=by
 have hm:=h.most;have ul:(upto qv.length).length=qv.length:=by simp[upto]
 have e0:((upto qv.length).filter fun _=>true)=upto qv.length:=mZ.mpr fun _ _=>rfl
 have loop:=uv (c:=ai9) (g:=ai7)
  (fun k ρ=>∃(p:Int->Bool) (m:Nat),ρ=[.val (hD qv),.own none (((upto qv.length).filter p).map D.int),.val (.int (m:Nat))]/\k=m/\((upto qv.length).filter p).length<=m/\(m=((upto qv.length).filter p).length->keepI qv ((upto qv.length).filter p)=(upto qv.length).filter p)/\∀x∈trapI qv,p x=true)
  (fun ρ=>∃o,ρ=[.val (hD qv),.own none ((trapI qv).map D.int),o]) ?_ fuel (qv.length+1) [.val (hD qv),.own none (((upto qv.length).filter fun _=>true).map D.int),.val (.int ((qv.length+1:Nat):Int))] (jC (show qv.length+1 < 100000 by omega) aex)
  ⟨fun _=>true,qv.length+1,rfl,rfl,by rw[e0,ul];omega,fun z=>by rw[e0,ul] at z;omega,fun _ _=>rfl⟩
 ·obtain⟨ρ',e,o,rfl⟩:=loop;rw[e0] at e;have hb:qt [.int (qv.length:Int)]=some (rangeD 0 qv.length):=asr h;have hb':qv.length < 1000000:=by omega
  have hl:(hDs qv).length=qv.length:=by simp[hDs]
  have er:=abb qv.length;have hcast:((qv.length+1:Nat):Int)=(qv.length:Int)+1:=by omega
  rw[hcast] at e;simp only[hD] at e ⊢
  simp[al5,ays,hl,hb',er,ul,e]
 ·rintro k ρ ⟨p,m,rfl,hkm,hle,hcl,hp⟩
  subst hkm;have hS:∀x∈(upto qv.length).filter p,0<=x/\x < (qv.length:Int):=fun x hx=>j4 (bQ.mp hx).1
  have hl:((upto qv.length).filter p).length<=10:=cL (gG _ _) (by omega)
  by_cases hlt:((upto qv.length).filter p).length < k
  ·refine .inr ⟨_,_,((upto qv.length).filter p).length,?_,a2t h hS hl (.val (.int (k:Nat))),hlt,(fun x=>((dr qv x).all fun d=>decide (d∈(upto qv.length).filter p))&&p x),((upto qv.length).filter p).length,?_,rfl,?_,?_,?_⟩
   ·generalize (upto qv.length).filter p=S at hlt;have:(S.length:Int) < (k:Int):=by omega
    simp[ai9,this]
   ·unfold keepI;rw[jM]
   ·rw[<-jM];exact gG _ _
   ·rw[<-jM];intro z;have:keepI qv ((upto qv.length).filter p)=(upto qv.length).filter p:=mZ.mpr fun a ha=>by
     by_cases q:((dr qv a).all fun d=>decide (d∈(upto qv.length).filter p))=true
     ·exact q
     ·exfalso;have:(((upto qv.length).filter p).filter fun x=>(dr qv x).all fun d=>decide (d∈(upto qv.length).filter p)).length < ((upto qv.length).filter p).length:=pP.mpr ⟨a,ha,by simpa using q⟩
      omega
    show keepI qv (keepI qv ((upto qv.length).filter p))=keepI qv ((upto qv.length).filter p);rw[this,this]
   ·intro x hx;rw[bH];refine⟨List.all_eq_true.mpr fun d hd=>decide_eq_true ?_,hp x hx⟩
    obtain⟨x1,x2⟩:=bQ.mp hx;have hx0:=j4 x1;have hd0:0<=d:=(jf qv x).mp x2 d (.step .base hx0.1 hd);have hd1:=((h.dr hx0.1 hx0.2).2.2 d hd).2;have du:d∈upto qv.length:=by
     unfold upto;exact bV.mpr ⟨d.toNat,cR.mpr (by omega),by omega⟩
    have dt:d∈trapI qv:=bQ.mpr ⟨du,(jf qv d).mpr fun y hy=>(jf qv x).mp x2 y (aow hx0.1 hd hy)⟩
    exact bQ.mpr ⟨du,hp d dt⟩
  ·refine .inl ⟨[.val (hD qv),.own none (((upto qv.length).filter p).map D.int),.val (.int (k:Nat))],?_,.val (.int (k:Nat)),?_⟩
   ·generalize (upto qv.length).filter p=S at hlt;have:¬(S.length:Int) < (k:Int):=by omega
    simp[ai9,this]
   ·have hk:=hcl (by omega)
    have:(upto qv.length).filter p=trapI qv:=by
     unfold trapI;refine xM fun x hx =>?_
     by_cases c:caught qv x=true
     ·rw[c];exact hp x (bQ.mpr ⟨hx,c⟩)
     ·have:p x=false:=by
       cases q:p x with
       | false=>rfl
       | true =>
        exfalso;refine c ((jf qv x).mpr fun y hy =>?_)
        have:y∈(upto qv.length).filter p:=by
         induction hy with
         | base=>exact bQ.mpr ⟨hx,q⟩
         | step r h0 hd ih =>
          rw[<-hk] at ih;have:=fQ.mp (bQ.mp ih).2 _ hd
          simpa using this
        exact(hS y this).1
      rw[this]
      simpa using c
    rw[this]
theorem HouseOk.hs{m w:Int}{qv:LL9}(h:HouseOk m w qv)(hm:m<=10)(hw:w<=6):Hs qv :=
 ⟨h.one,by have:=h.most;omega,fun r hr=>by obtain⟨a,b,c⟩:=h.room r hr;exact⟨a,by omega,c⟩⟩
theorem aso{n d:Nat}{k:Int}(h0:0<=k):HT.sIx n d (some k)=min k.toNat n:=by
 show(if k < 0 then (k+(n:Int)).toNat else min k.toNat n)=_
 rw[if_neg (by omega)]
theorem a6g{ns:List Int}{k:Int}(h0:0<=k)(h1:k < (ns.length:Int)):cutD (ns.map D.int) none (some k)=(ns.take k.toNat).map D.int:=by
 unfold cutD;rw[aso h0,aW,uK];have:HT.sIx ns.length 0 none=0:=rfl;rw[this,sO (by omega),Nat.sub_zero,zB]
theorem axw{ns:List Int}{k:Int}(h0:0<=k)(h1:k<=(ns.length:Int)):cutD (ns.map D.int) (some k) none=(ns.drop k.toNat).map D.int:=by
 unfold cutD;rw[aso h0,aW,zN];have:HT.sIx ns.length ns.length none=ns.length:=rfl;rw[this,sO (by omega)]
 exact List.take_of_length_le (by simp)
def bend(r:List Int)(k:Nat)(x:Int):List Int:=r.take k++[x]++r.drop (k+1)
theorem awd(qv:LL9)(j:Nat)(r:List Int):(hDs qv).set j (.tup (r.map D.int))=hDs (qv.set j r):=by
 simp[hDs,List.map_set]
theorem Hs.set{qv:LL9}(h:Hs qv)(j:Nat){r:List Int}(hr:1<=r.length/\r.length<=6/\∀x∈r,-3<=x/\x < (qv.length:Int)):Hs (qv.set j r) :=
 ⟨by rw[dD];exact h.one,by rw[dD];exact h.most,fun q hq=>by
  rw[dD];rcases tW hq with z | rfl
  ·exact h.room q z
  ·exact hr⟩
def Opn(qv:LL9)(a:Int):Prop:=∃x,Rch qv a x/\x < 0
theorem aob{qv:LL9}{k:Int}(h0:0<=k)(h1:k < (qv.length:Int))(r:List Int):dr (qv.set k.toNat r) k=r:=by
 have:k.toNat < qv.length:=by omega
 simp[dr,this]
theorem auz{qv:LL9}{k y:Int}(h0:0<=k)(hy:0<=y)(hne:y≠k)(r:List Int):dr (qv.set k.toNat r) y=dr qv y:=by
 have:k.toNat≠y.toNat:=by omega
 simp[dr,bG,this]
theorem azy{qv:LL9}{k a y:Int}(h0:0<=k)(r:List Int)(h:Rch qv a y):Rch (qv.set k.toNat r) a y∨Rch qv k y:=by
 induction h with
 | base=>exact .inl .base
 | step p hp hd ih =>
  rename_i x d;rcases ih with ih | ih
  ·by_cases e:x=k
   ·subst e;exact .inr (.step .base hp hd)
   ·exact .inl (.step ih hp (by rw[auz h0 hp e];exact hd))
  ·exact .inr (.step ih hp hd)
theorem as4{qv:LL9}(h:Hs qv){W:Nat}(hW:∀r∈qv,r.length<=W)(P:Int×Int){A B o:Sl}{k:Int}(h0:0<=k)(h1:k < (qv.length:Int)) :
  ∃rooms' P' o',l1__law_open [.own (some 0) (pen P),A,B,.own none (hDs qv),.val (.int k),o]=some (.nx,[.own (some 0) (pen P'),A,B,.own none (hDs rooms'),.val (.int k),o'])/\Hs rooms'/\(∀r∈rooms',r.length<=W)/\rooms'.length=qv.length/\Opn rooms' k/\∀a,Opn qv a->Opn rooms' a:=by
 obtain⟨ns,e,hne,hm⟩:=ak6 h (S:=.own (some 0) (hDs qv)) (.inr rfl) ⟨h0,h1⟩;have em:=axk hne
 by_cases z:0<=minI ns
 ·have hcaught:∀x,Rch qv k x->0<=x:=fun x hx=>(ao6 hne).mp z x ((hm x).mpr hx)
  obtain⟨a1,a2,a3⟩:=h.dr h0 h1;have er:=akp h0 h1;have aw:=hW (dr qv k) (by
   have hk:k.toNat < qv.length:=by omega
   unfold dr;rw[aM,aF hk];exact cZ hk)
  generalize hrow:dr qv k=r at a1 a2 a3 er aw;obtain⟨r1,P1,e1,r1a,r1b⟩:=uh P r.length (by omega) (by omega)
  obtain⟨r2,P2,e2,r2a,r2b⟩:=uh P1 3 (by decide) (by decide)
  have c1:=a6g (ns:=r) r1a r1b;have c2:=axw (ns:=r) (k:=r1+1) (by omega) (by omega)
  have hk:(r1+1).toNat=r1.toNat+1:=by omega
  rw[hk] at c2;have ix:ixN (hDs qv).length k=some k.toNat:=by
   have hl:(hDs qv).length=qv.length:=by simp[hDs]
   rw[hl];unfold ixN;simp[h0,h1]
  have k1:(r.take r1.toNat).length<=6:=by rw[gM];omega
  have k2:(r.drop (r1.toNat+1)).length<=6:=by rw[lA];omega
  have k3:(r.take r1.toNat).length+1<=capS:=cz (by omega)
  have k4:(r.take r1.toNat).length+1+(r.drop (r1.toNat+1)).length<=capS:=cz (by omega)
  have hin:(-1 - r2)∈bend r r1.toNat (-1 - r2):=by simp[bend]
  refine⟨qv.set k.toNat (bend r r1.toNat (-1 - r2)),P2,.val (.int r1),?_,h.set _ ?_,fun q hq =>?_,dD,⟨-1 - r2,.step .base h0 (by rw[aob h0 h1];exact hin),by omega⟩,fun a ⟨x,hx,hx0⟩ =>?_⟩
  ·rw[<-awd];unfold bend;generalize r.take r1.toNat=ta at c1 k3 k4;generalize r.drop (r1.toNat+1)=td at c2 k4;simp[l1__law_open,e,em,z,er,e1,e2,c1,c2,k3,k4,ix]
  ·refine⟨by simp[bend];omega,by simp[bend];omega,fun x hx =>?_⟩
   have:=h.one;unfold bend at hx;rcases cX.mp hx with hx | hx
   ·rcases cX.mp hx with hx | hx
    ·exact a3 x (vI hx)
    ·rw[bY] at hx;omega
   ·exact a3 x (List.mem_of_mem_drop hx)
  ·rcases tW hq with z | rfl
   ·exact hW q z
   ·simp[bend];omega
  ·rcases azy h0 (bend r r1.toNat (-1 - r2)) hx with q | q
   ·exact⟨x,q,hx0⟩
   ·have:=hcaught x q;omega
 ·refine⟨qv,P,o,by simp[l1__law_open,e,em,z],h,hW,rfl,?_,fun _ x=>x⟩
  have:¬ ∀y∈ns,0<=y:=fun w=>z ((ao6 hne).mpr w)
  apply bF;intro w;refine this fun y hy =>?_
  rcases gJ y 0 with q | q
  ·exact absurd ⟨y,(hm y).mp hy,q⟩ w
  ·exact q
theorem aoo{qv:LL9}(h:∀a,0<=a->a < (qv.length:Int)->Opn qv a):trapI qv=[]:=by
 unfold trapI;refine uQ.mpr fun a ha hc =>?_
 obtain⟨x,hx,hx0⟩:=h a (j4 ha).1 (j4 ha).2;have:=(jf qv a).mp hc x hx;omega
theorem open_spec(P:Int×Int)(m w:Int)(m1:1<=m)(m2:m<=10)(w1:1<=w)(w2:w<=6):∃qv P',f__law_open [.own (some 0) (pen P),.val (.int m),.val (.int w)]=some (.ok (.v (hD qv)),[.own (some 0) (pen P'),.val (.int m),.val (.int w)])/\Hs qv/\trapI qv=[]/\(qv.length:Int)<=m/\∀r∈qv,r.length<=w.toNat:=by
 obtain⟨qv,P1,e1,ho⟩:=aqz P m w m1 m2 w1 w2;have h:=ho.hs m2 w2;have loop:=abh (b:=di 4) (g:=l1__law_open) (fun i ρ=>∃rs P o1 o2,ρ=[.own (some 0) (pen P),.val (.int m),.val (.int w),.own none (hDs rs),o1,o2]/\Hs rs/\(∀r∈rs,r.length<=w.toNat)/\rs.length=qv.length/\∀a:Int,0<=a->a < (i:Int)->Opn rs a)
  (l:=rangeD 0 qv.length) (ρ:=[.own (some 0) (pen P1),.val (.int m),.val (.int w),.own none (hDs qv),.emp,.emp]) 0 ⟨qv,P1,.emp,.emp,rfl,h,fun r hr=>by have:=(ho.room r hr).2.1;omega,rfl,fun a x y=>by omega⟩ ?_
 ·obtain⟨ρ',e2,rs,P2,o1,o2,rfl,hs,hw,hl,hop⟩:=loop;refine⟨rs,P2,?_,hs,aoo fun a x y=>hop a x (by simp[rangeD];omega),by rw[hl];exact ho.most,hw⟩
  have hl0:(hDs qv).length=qv.length:=by simp[hDs]
  have hb':qv.length < 4611686018427387904:=by simpa using agt h
  simp[f__law_open,ahi,e1,hD,hl0,hb',e2]
 ·rintro i d ρ hd ⟨rs,P3,o1,o2,rfl,hs,hw,hl,hop⟩
  rw[abb,bA] at hd;obtain⟨k,hk,rfl⟩:=eQ.mp hd;have hk':=j4 (gQ hk);have hki:k=(i:Int):=by
   unfold upto at hk;rw[bA] at hk;obtain⟨j,hj,rfl⟩:=eQ.mp hk;have hlt:i < qv.length:=by
    have:=(aQ.mp hj).1
    simpa using this
   rw[cB hlt] at hj;cases hj;rfl
  obtain⟨rs',P4,o',e3,hs',hw',hl',h5,h6⟩:=as4 hs hw P3 (A:=.val (.int m)) (B:=.val (.int w)) (o:=o2) hk'.1 (by rw[hl];exact hk'.2)
  refine⟨[.own (some 0) (pen P3),.val (.int m),.val (.int w),.own none (hDs rs),.val (.int k),o2],_,rfl,.inl e3,rs',P4,_,_,rfl,hs',hw',hl'.trans hl,fun a x y =>?_⟩
  by_cases q:a=k
  ·rw[q];exact h5
  ·exact h6 a (hop a x (by omega))
theorem xx(qv:LL9):(hDs qv).length=qv.length:=by simp[hDs]
theorem aj7{qv:LL9}{i:Nat}{d:D}(h:(hDs qv)[i]? = some d):∃r,qv[i]? = some r/\d=.tup (r.map D.int):=by
 unfold hDs at h;rw[bA] at h;obtain⟨r,e,rfl⟩:=eQ.mp h;exact⟨r,e,rfl⟩
structure Arr (qv:LL9) (as:List Int):Prop where
 len:as.length=qv.length
 ok:∀(i:Nat) (a:Int) (r:List Int),as[i]? = some a->qv[i]? = some r->0<=a/\a < (r.length:Int)
def ar(as:List Int)(x:Int):Int:=as.getD x.toNat 0
theorem Arr.at{qv:LL9}{as:List Int}(h:Arr qv as){x:Int}(h0:0<=x)(h1:x < (qv.length:Int)):0<=ar as x/\ar as x < ((dr qv x).length:Int):=by
 have hk:x.toNat < qv.length:=by omega
 have hk2:x.toNat < as.length:=by rw[h.len];exact hk
 have:=h.ok x.toNat as[x.toNat] qv[x.toNat] (aF hk2) (aF hk)
 simpa[ar,dr,hk,hk2] using this
theorem ah2(P:Int×Int){qv:LL9}(h:Hs qv):∃as P',f__law_drawn [.own (some 0) (pen P),.val (hD qv)]=some (.ok (.v (.tup (as.map D.int))),[.own (some 0) (pen P'),.val (hD qv)])/\Arr qv as:=by
 have comp:=uq (b:=di 0) (mc:=ret true) (me:=abl) (fun j ys ρ=>∃ns P o,ρ=[o,.own (some 1) (pen P)]/\ys=ns.map D.int/\ns.length=j/\∀(i:Nat) (a:Int) (r:List Int),ns[i]? = some a->qv[i]? = some r->0<=a/\a < (r.length:Int))
  (l:=hDs qv) (ys:=[]) (ρ:=[.emp,.own (some 1) (pen P)]) 0 ⟨[],P,.emp,rfl,rfl,rfl,by simp⟩ ?_
 ·obtain⟨ys,ρ',e6,ns,P6,o,rfl,rfl,hn,hx⟩:=comp;rw[xx,cN] at hn;have hc:ns.length<=capS:=cz (by have:=h.most;omega)
  exact⟨ns,P6,by simp[f__law_drawn,af8,hD,e6,hc],hn,hx⟩
 ·rintro j d ys ρ hd ⟨ns,P6,o,rfl,rfl,hn,hx⟩
  obtain⟨r,hr,rfl⟩:=aj7 hd;obtain⟨k1,k2,k3⟩:=h.room r (gQ hr);obtain⟨r7,P7,e7,r7a,r7b⟩:=uh P6 (r.length:Int) (by omega) (by omega)
  refine⟨_,_,true,rfl,rfl,.inr ⟨rfl,.int r7,[.val (.tup (r.map D.int)),.own (some 1) (pen P7)],by simp[abl,e7],ns++[r7],P7,_,rfl,by simp,by simp[hn],fun i a q ha hq =>?_⟩⟩
  rcases jQ i ns.length with z | z
  ·rw[cW z] at ha;exact hx i a q ha hq
  ·have hi:i=ns.length:=by
    have:=(aQ.mp ha).1;simp at this;omega
   subst hi;simp at ha;subst ha;have:ns.length=j:=by omega
   rw[this,hr] at hq;cases hq;exact⟨r7a,r7b⟩
def gone(qv:LL9)(as:List Int)(k:Int):List Int:=as.set k.toNat ((ar as k+1) % ((dr qv k).length:Int))
def led(qv:LL9)(as:List Int)(k:Int):Int:=(dr qv k).getD (ar as k).toNat 0
section
variable{qv:LL9}(h:Hs qv){as:List Int}(ha:Arr qv as){k:Int}(h0:0<=k)(h1:k < (qv.length:Int))
include h ha h0 h1
theorem ax6:atI (as.map D.int) k=some (.int (ar as k)):=ac0 h0 (by rw[ha.len];exact h1)
theorem a2d:atI ((dr qv k).map D.int) (ar as k)=some (.int (led qv as k)):=ac0 (ha.at h0 h1).1 (ha.at h0 h1).2
theorem aul(x:Int):fMod x ((dr qv k).length:Int)=some (x % ((dr qv k).length:Int)):=by
 have:=(h.dr h0 h1).1;unfold fMod;rw[if_pos (by omega)]
end
section
variable{qv:LL9}(h:Hs qv){as:List Int}(ha:Arr qv as){k:Int}(h0:0<=k)(h1:k < (qv.length:Int))
include h ha h0 h1
theorem aet:Arr qv (gone qv as k):=by
 have hd:=(h.dr h0 h1).1;refine⟨by unfold gone;rw[dD];exact ha.len,fun i a r g1 g2 =>?_⟩
 unfold gone at g1;rw[bG] at g1;split at g1
 ·rename_i hi;subst hi;split at g1
  ·cases g1;have:dr qv k=r:=by simp[dr,g2]
   rw[this] at hd ⊢
   exact⟨Int.emod_nonneg _ (by omega),gA _ (by omega)⟩
  ·cases g1
 ·exact ha.ok i a r g1 g2
end
theorem ayl{qv:LL9}(h:Hs qv){as:List Int}(ha:Arr qv as){k:Int}(h0:0<=k)(h1:k < (qv.length:Int)) : -3<=led qv as k/\led qv as k < (qv.length:Int):=by
 obtain⟨a1,a2⟩:=ha.at h0 h1;have hk:(ar as k).toNat < (dr qv k).length:=by omega
 have:led qv as k∈dr qv k:=by
  unfold led;simp[hk]
 exact(h.dr h0 h1).2.2 _ this
@[simp] theorem afn(qv:LL9)(d:D):mq [.val (hD qv),.val d]=some (.ok (.v (.bl (j8 0 ((qv.length:Int) - 1) d))),[.val (hD qv),.val d]):=by
 simp[mq,abq,hD,hDs]
theorem ah6{qv:LL9}{a:Int}(h0:0<=a)(h1:a < (qv.length:Int)):jb [.val (hD qv),.val (.int a)]=some (.ok (.v .non),[.val (hD qv),.val (.int a)]):=by
 have h1:a<=(qv.length:Int) - 1:=by omega
 simp[jb,yc,j8,h0,h1]
theorem atp:qd [.val (.exn "NoRoom" [])]=some (.ok (.v (.str "room")),[.val (.exn "NoRoom" [])]):=by kernel_rfl
theorem anw:qd [.val (.exn "NoArrows" [])]=some (.ok (.v (.str "arrows")),[.val (.exn "NoArrows" [])]):=by kernel_rfl
theorem a0t:("NoRoom" : Str)∈NS:=dY.mp (by decide +kernel)
theorem ata:("NoArrows" : Str)∈NS:=dY.mp (by decide +kernel)
def tupB(a b:Int):D->Bool
 | .tup l=>decide (a<=(l.length:Int))&&decide ((l.length:Int)<=b)
 | _=>false
theorem aes(d:D)(a b:Int):km [.val d,.val (.int a),.val (.int b)]=some (.ok (.v (.bl (tupB a b d))),[.val d,.val (.int a),.val (.int b)]):=by
 cases d <;> simp[km,aaz,isTy,tupB]
def arrB(qv:LL9):D->Bool
 | .tup l=>decide (l.length=qv.length)&&(l.zip qv).all fun p=>j8 0 ((p.2.length:Int) - 1) p.1
 | _=>false
theorem af1{qv:LL9}(h:Hs qv)(d:D):rz [.val (hD qv),.val d]=some (.ok (.v (.bl (arrB qv d))),[.val (hD qv),.val d]):=by
 have e1:=aes d (qv.length:Int) (qv.length:Int);have hl3:=xx qv;have hm:=h.most;have no:tupB (qv.length:Int) (qv.length:Int) d=false->arrB qv d=false->rz [.val (hD qv),.val d]=some (.ok (.v (.bl (arrB qv d))),[.val (hD qv),.val d]):=fun q1 q2=>by
  rw[q1] at e1;rw[q2];simp only[hD] at *;simp[rz,ady,hl3,e1]
 cases d with
 | tup l =>
  by_cases hl:l.length=qv.length
  ·have hle:l.length<=(hDs qv).length:=by rw[xx];omega
   have comp:=uq (b:=bTup 2 (lq (di 0) (lq (di 1) bNil))) (mc:=ret true) (me:=acj) (fun j ys ρ=>∃o1 o2,ρ=[o1,o2]/\ys=(((l.zip qv).take j).map fun p=>j8 0 ((p.2.length:Int) - 1) p.1).map D.bl)
    (l:=ut l (hDs qv)) (ys:=[]) (ρ:=[.emp,.emp]) 0 ⟨.emp,.emp,rfl,rfl⟩ ?_
   ·obtain⟨ys,ρ',e6,o1,o2,rfl,rfl⟩:=comp;have hz:(ut l (hDs qv)).length=(l.zip qv).length:=by rw[agn hle,sV];omega
    rw[hz,cN,mH] at e6;have hc:((l.zip qv).map fun p=>j8 0 ((p.2.length:Int) - 1) p.1).length<=capS:=cz (by rw[aW,sV];omega)
    have hb:=ai2 ((l.zip qv).map fun p=>j8 0 ((p.2.length:Int) - 1) p.1)
    have hall:((l.zip qv).map fun p=>j8 0 ((p.2.length:Int) - 1) p.1).all id=(l.zip qv).all fun p=>j8 0 ((p.2.length:Int) - 1) p.1:=by rw[List.all_map];rfl
    have ha:arrB qv (.tup l)=((l.zip qv).map fun p=>j8 0 ((p.2.length:Int) - 1) p.1).all id:=by
     rw[hall];simp only[arrB,hl,decide_true,qY]
    rw[ha];have q1:tupB (qv.length:Int) (qv.length:Int) (.tup l)=true:=by simp[tupB,hl]
    rw[q1] at e1;generalize ((l.zip qv).map fun p=>j8 0 ((p.2.length:Int) - 1) p.1)=bs at *
    simp only[hD] at *;simp[rz,ady,hl3,e1,hl,e6,hc,hb]
   ·rintro j d ys ρ hd ⟨o1,o2,rfl,rfl⟩
    obtain⟨d1,d2,g1,g2,rfl⟩:=ad5 hd;obtain⟨r,hr,rfl⟩:=aj7 g2;refine⟨[.val d1,.val (.tup (r.map D.int))],_,true,by simp,rfl,.inr ⟨rfl,.bl (j8 0 ((r.length:Int) - 1) d1),[.val d1,.val (.tup (r.map D.int))],by simp[acj],_,_,rfl,?_⟩⟩
    have hz:(l.zip qv)[0+j]? = some (d1,r):=by rw[cN,nP];exact⟨g1,hr⟩
    rw[zA,hz];simp
  ·refine no ?_ ?_
   ·show(decide ((qv.length:Int)<=(l.length:Int))&&decide ((l.length:Int)<=(qv.length:Int)))=false;rw[pY,decide_eq_false_iff_not,decide_eq_false_iff_not];omega
   ·show(decide (l.length=qv.length)&&_)=false;rw[decide_eq_false hl];rfl
 | _=>exact no rfl rfl
theorem ax7{qv:LL9}{as:List Int}(ha:Arr qv as):arrB qv (.tup (as.map D.int))=true:=by
 show(decide ((as.map D.int).length=qv.length)&&_)=true;rw[aW,decide_eq_true ha.len,qY,fQ]
 rintro⟨d,r⟩ hp
 obtain⟨i,hi,e⟩:=gR.mp hp;have e2:((as.map D.int).zip qv)[i]? = some (d,r):=by rw[aF hi,e]
 rw[nP,bA] at e2;obtain⟨e3,e4⟩:=e2;obtain⟨a,ea,rfl⟩:=eQ.mp e3;obtain⟨h0,h1⟩:=ha.ok i a r ea e4;show(decide (0<=a)&&decide (a<=(r.length:Int) - 1))=true;rw[bH,decide_eq_true_eq,decide_eq_true_eq];omega
section
variable{qv:LL9}(h:Hs qv){bad:D}(hb:arrB qv bad=false)
include h hb
theorem avt:gq [.val (hD qv),.val bad]=some (.exc ⟨"NoArrows", []⟩,[.val (hD qv),.val bad]):=by
 have e:=af1 h bad;rw[hb] at e;generalize hD qv=hh at *;simp[gq,ud,e]
end
section
variable{qv:LL9}(h:Hs qv){as:List Int}(ha:Arr qv as)
include h ha
theorem ai3:gq [.val (hD qv),.val (.tup (as.map D.int))]=some (.ok (.v .non),[.val (hD qv),.val (.tup (as.map D.int))]):=by
 have e:=af1 h (.tup (as.map D.int));rw[ax7 ha] at e;generalize hD qv=hh at *;simp[gq,ud,e]
end
theorem azx{qv:LL9}{d:D}(hd:j8 0 ((qv.length:Int) - 1) d=false):jb [.val (hD qv),.val d]=some (.exc ⟨"NoRoom", []⟩,[.val (hD qv),.val d]):=by
 have e:=afn qv d;rw[hd] at e;generalize hD qv=hh at *;simp[jb,yc,e]
theorem a0q(P:Int×Int):∃d P',f__law_odd [.own (some 0) (pen P)]=some (.ok (.v d),[.own (some 0) (pen P')])/\∀n:Nat,n<=10->j8 0 ((n:Int) - 1) d=false:=by
 obtain⟨r,P',e,h0,h1⟩:=uh P 16 (by decide) (by decide)
 have big:fPow 10 30=some 1000000000000000000000000000000:=by decide +kernel
 have hT:∃d,atI [.non,.bl true,.bl false,.int (-1),.str "1", .str "", .tup [],.lst [],.tup [.int 0],.lst [.int 0],.dct [(mU "a", .int 1)],.tup [.int 0,.int 1],.int 1000000000000000000000000000000,.tup [.tup [.int 0]],.str "ab", .tup [.tup [.int (-1)],.tup [.int 0,.int 1]]] r=some d/\∀n:Nat,n<=10->j8 0 ((n:Int) - 1) d=false:=by
  have:r=0∨r=1∨r=2∨r=3∨r=4∨r=5∨r=6∨r=7∨r=8∨r=9∨r=10∨r=11∨r=12∨r=13∨r=14∨r=15:=by omega
  have hn:∀i:Int,i < 0∨10<=i->∀n:Nat,n<=10->j8 0 ((n:Int) - 1) (.int i)=false:=fun i hi n hn=>by
   show(decide (0<=i)&&decide (i<=(n:Int) - 1))=false;rw[pY,decide_eq_false_iff_not,decide_eq_false_iff_not];omega
  rcases this with rfl | rfl | rfl | rfl | rfl | rfl | rfl | rfl | rfl | rfl | rfl | rfl | rfl | rfl | rfl | rfl
  ·exact⟨_,rfl,fun _ _=>rfl⟩
  ·exact⟨_,rfl,fun _ _=>rfl⟩
  ·exact⟨_,rfl,fun _ _=>rfl⟩
  ·exact⟨_,rfl,hn _ (by decide)⟩
  ·exact⟨_,rfl,fun _ _=>rfl⟩
  ·exact⟨_,rfl,fun _ _=>rfl⟩
  ·exact⟨_,rfl,fun _ _=>rfl⟩
  ·exact⟨_,rfl,fun _ _=>rfl⟩
  ·exact⟨_,rfl,fun _ _=>rfl⟩
  ·exact⟨_,rfl,fun _ _=>rfl⟩
  ·exact⟨_,rfl,fun _ _=>rfl⟩
  ·exact⟨_,rfl,fun _ _=>rfl⟩
  ·exact⟨_,rfl,hn _ (by decide)⟩
  ·exact⟨_,rfl,fun _ _=>rfl⟩
  ·exact⟨_,rfl,fun _ _=>rfl⟩
  ·exact⟨_,rfl,fun _ _=>rfl⟩
 obtain⟨T,eT,t⟩:=hT;have hc:(16:Nat)<=capS:=by decide
 exact⟨T,P',by simp[f__law_odd,aiv,e,big,eT,hc],t⟩
theorem aks{n:Int}{i:Int}(hi:i < 0∨n<=i):j8 0 (n - 1) (.int i)=false:=by
 show(decide (0<=i)&&decide (i<=n - 1))=false;rw[pY,decide_eq_false_iff_not,decide_eq_false_iff_not];omega
theorem ara{qv:LL9}{l:List D}(hl:l.length≠qv.length):arrB qv (.tup l)=false:=by
 show(decide (l.length=qv.length)&&_)=false;rw[decide_eq_false hl];rfl
section
variable{qv:LL9}(h:Hs qv)
include h
theorem azr{bad:D}(hb:arrB qv bad=false)(d:D):fu [.val (hD qv),.val bad,.val d]=some (.exc ⟨"NoArrows", []⟩,[.val (hD qv),.val bad,.val d]):=by
 have e:=avt h hb;generalize hD qv=hh at *;simp[fu,qm,e]
theorem azq{as:List Int}(ha:Arr qv as){d:D}(hd:j8 0 ((qv.length:Int) - 1) d=false):fu [.val (hD qv),.val (.tup (as.map D.int)),.val d]=some (.exc ⟨"NoRoom", []⟩,[.val (hD qv),.val (.tup (as.map D.int)),.val d]):=by
 have e1:=ai3 h ha;have e2:=azx hd;generalize hD qv=hh at *;simp[fu,qm,e1,e2]
end
section
variable{qv:LL9}(h:Hs qv){as:List Int}(ha:Arr qv as){k:Int}(h0:0<=k)(h1:k < (qv.length:Int))
include h ha h0 h1
theorem aje:fu [.val (hD qv),.val (.tup (as.map D.int)),.val (.int k)]=some (.ok (.v .non),[.val (hD qv),.val (.tup (as.map D.int)),.val (.int k)]):=by
 have r1:=ai3 h ha;have r2:=ah6 h0 h1;generalize hD qv=hh at *;simp[fu,qm,r1,r2]
end
theorem axm(neg:Bool)(a b:List Int):gEq neg (.lst (a.map D.int)) (.lst (b.map D.int))=some (.v (.bl (if neg then !decide (a=b) else decide (a=b)))):=by
 have h1:okD 30 (.lst (a.map D.int))=true:=ain 29 a;have h2:okD 30 (.lst (b.map D.int))=true:=ain 29 b;have h3:eqD (.lst (a.map D.int)) (.lst (b.map D.int))=decide (a=b):=by
  rw[<-akf];exact ake _ _
 simp only[gEq,h1,h2,h3];rfl
theorem at0(x:D)(l:List D):atI (x::l) 0=some x:=by simp[atI,ixN]
theorem atq(i:Int):qd [.val (.exn "NotOpen" [("room", i)])]=some (.ok (.v (.str "open")),[.val (.exn "NotOpen" [("room", i)])]):=by kernel_rfl
theorem a0u:("NotOpen" : Str)∈NS:=dY.mp (by decide +kernel)
theorem a5v(neg:Bool){s:Str}(hs:PyData.strOk s=true)(hq:eqD (.str s) (.str s)=true)(x y:Int):gEq neg (.tup [.str s,.int x]) (.tup [.str s,.int y])=some (.v (.bl (if neg then !decide (x=y) else decide (x=y)))):=by
 have h1:∀x:Int,okD 30 (.tup [.str s,.int x])=true:=fun x=>by
  show([D.str s,D.int x].all (okD 29))=true;simp only[oU,List.all_nil,zT];rw[show okD 29 (.str s)=true from hs]
  rfl
 have h3:eqD (.tup [.str s,.int x]) (.tup [.str s,.int y])=decide (x=y):=by
  show uI (adc [D.str s,D.int x]) (adc [D.str s,D.int y])=_;rw[ake];show(eqD (.str s) (.str s)&&(eqD (.int x) (.int y)&&true))=_;rw[hq,akg,zT,qY]
 simp only[gEq,h1,h3];simp
theorem a1s(neg:Bool)(x y:Int):gEq neg (.tup [.str "told", .int x]) (.tup [.str "told", .int y])=some (.v (.bl (if neg then !decide (x=y) else decide (x=y)))):=a5v neg (by kernel_rfl) (by kernel_rfl) x y
section
variable{qv:LL9}(h:Hs qv)
include h
theorem awv{i:Int}{r:List Int}(ht:trapI qv=i::r):ie [.val (hD qv)]=some (.exc ⟨"NotOpen", [("room", i)]⟩,[.val (hD qv)]):=by
 have q:=arz h;rw[ht,aV] at q;have e3:gEq true (.tup (D.int i::r.map D.int)) (.tup [])=some (.v (.bl true)):=aka true (i::r) [];have a0:atI (D.int i::r.map D.int) 0=some (.int i):=at0 _ _;generalize hD qv=hh at *;generalize r.map D.int=rr at *;simp[ie,vd,ad2,dM,q,e3,a0]
theorem aiq(hop:trapI qv=[]):ie [.val (hD qv)]=some (.ok (.v .non),[.val (hD qv)]):=by
 have q:=arz h;rw[hop] at q;have e3:gEq true (.tup []) (.tup [])=some (.v (.bl false)):=aka true [] [];simp[ie,vd,q,e3]
end
def wd(qv:LL9)(k:Int):Int:=((dr qv k).length:Int)
def aak(qv:LL9)(as:List Int)(k:Int):Int:=(dr qv k).getD ((ar as k - 1) % wd qv k).toNat 0
theorem avs{r:List Int}{a:Int}(h0:0<=a)(h1:a < (r.length:Int)):atI (r.map D.int) (a - 1)=some (.int (r.getD ((a - 1) % (r.length:Int)).toNat 0)):=by
 by_cases z:1<=a
 ·rw[cP (by omega) (by omega)]
  exact ac0 (by omega) (by omega)
 ·have:a=0:=by omega
  subst this;have e:((0:Int) - 1) % (r.length:Int)=(r.length:Int) - 1:=by
   have:=lU ((0:Int) - 1) (r.length:Int);rw[<-this,cP (by omega) (by omega)]
   omega
  rw[e];have hn:((r.length:Int) - 1).toNat=r.length - 1:=by omega
  rw[hn];have hl:r.length - 1 < r.length:=by omega
  have h3:ixN (r.map D.int).length (0 - 1)=some (r.length - 1):=by
   unfold ixN;rw[aW];have a1:¬(0<=(0:Int) - 1):=by omega
   have a2 : -(r.length:Int)<=(0:Int) - 1:=by omega
   simp[a2];omega
  unfold atI;rw[h3];simp[aF hl]
def lasts(qv:LL9)(as:List Int):List Int:=(aK qv.length).map fun(i:Nat)=>aak qv as (i:Int)
theorem gm(qv:LL9)(as:List Int):(lasts qv as).length=qv.length:=by unfold lasts;rw[aW,gF]
theorem aio(qv:LL9)(as:List Int)(j:Nat):((aK (j+1)).map fun(i:Nat)=>aak qv as (i:Int))=((aK j).map fun(i:Nat)=>aak qv as (i:Int))++[aak qv as (j:Int)]:=by
 rw[iI,cI];rfl
section
variable{qv:LL9}(h:Hs qv){as:List Int}(ha:Arr qv as)
include h ha
theorem alx:zb [.val (hD qv),.val (.tup (as.map D.int))]=some (.ok (.v (.tup ((lasts qv as).map D.int))),[.val (hD qv),.val (.tup (as.map D.int))]):=by
 have hl:=ha.len;have hm:=h.most;have hle:(as.map D.int).length<=(hDs qv).length:=by rw[xx,aW];omega
 have comp:=uq (b:=bTup 2 (lq (di 0) (lq (di 1) bNil))) (mc:=ret true) (me:=aci) (fun j ys ρ=>∃(o1 o2:Sl),ρ=[o1,o2]/\ys=((aK j).map fun(i:Nat)=>aak qv as (i:Int)).map D.int)
  (l:=ut (as.map D.int) (hDs qv)) (ys:=[]) (ρ:=[.emp,.emp]) 0 ⟨.emp,.emp,rfl,rfl⟩ ?_
 ·obtain⟨ys,ρ',e6,o1,o2,rfl,rfl⟩:=comp;rw[agn hle,aW,cN,hl] at e6;have hc:((lasts qv as).map D.int).length<=capS:=by rw[aW,gm];exact cz (by omega)
  have hle2:as.length<=(hDs qv).length:=by simpa using hle
  change compD _ _ _ _ _ _=some (.ok ((lasts qv as).map D.int),_) at e6
  generalize (lasts qv as).map D.int=ld at *;simp only[hD];simp[zb,ahg,hle2,e6,hc]
 ·rintro j d ys ρ hd ⟨o1,o2,rfl,rfl⟩
  obtain⟨d1,d2,g1,g2,rfl⟩:=ad5 hd;obtain⟨r,hr,rfl⟩:=aj7 g2;rw[bA] at g1;obtain⟨a,ea,rfl⟩:=eQ.mp g1;obtain⟨b0,b1⟩:=ha.ok j a r ea hr;have er:dr qv (j:Int)=r:=by unfold dr;rw[aM,cD,hr];rfl
  have e3:ar as (j:Int)=a:=by unfold ar;rw[aM,cD,ea];rfl
  have e4:=avs b0 b1;have e5:aak qv as ((0+j:Nat):Int)=r.getD ((a - 1) % (r.length:Int)).toNat 0:=by rw[cN];unfold aak wd;rw[er,e3]
  refine⟨[.val (.int a),.val (.tup (r.map D.int))],_,true,by simp,rfl,.inr ⟨rfl,.int (r.getD ((a - 1) % (r.length:Int)).toNat 0),[.val (.int a),.val (.tup (r.map D.int))],by simp[aci,e4],_,_,rfl,?_⟩⟩
  rw[aio,cI,e5];rfl
end
def lp(L:List Int):LL9:=L.map fun y=>[y]
theorem aae(L:List Int):(lp L).length=L.length:=aW ..
theorem ama{L:List Int}{x:Int}(h0:0<=x)(h1:x < (L.length:Int)):dr (lp L) x=[L.getD x.toNat 0]:=by
 have hk:x.toNat < L.length:=by omega
 simp[dr,lp,hk]
structure Ways (L:List Int):Prop where
 one:1<=L.length
 most:L.length<=10
 ok:∀y∈L,-3<=y/\y < (L.length:Int)
theorem Ways.hs{L:List Int}(w:Ways L):Hs (lp L):=⟨by rw[aae];exact w.one,by rw[aae];exact w.most,fun r hr=>by
 obtain⟨y,hy,rfl⟩:=bV.mp hr;rw[aae];exact⟨by simp,by simp,fun x hx=>by rw[bY] at hx;rw[hx];exact w.ok _ hy⟩⟩
def aha(L:List Int)(S:List Int):List Int:=S.filter fun x=>decide (L.getD x.toNat 0∈S)
theorem axi{L:List Int}(S:List Int){x:Int}(h0:0<=x)(h1:x < (L.length:Int)) :
  vy [.val (.int x),.val (.lst (S.map D.int)),.val (.tup (L.map D.int))]=some (.ok (decide (L.getD x.toNat 0∈S)),[.val (.int x),.val (.lst (S.map D.int)),.val (.tup (L.map D.int))]):=by
 have er:=ac0 (ns:=L) h0 h1;have e2:=an5 false (L.getD x.toNat 0) S;generalize L.getD x.toNat 0=y at *;generalize L.map D.int=LL at *;generalize decide (y∈S)=b at *;generalize S.map D.int=SS at *;simp[vy,er,e2]
theorem aq0{L:List Int}(S:List Int)(hS:∀x∈S,0<=x/\x < (L.length:Int)) :
  compD (di 0) vy aaq (S.map D.int) [] [.emp,.val (.lst (S.map D.int)),.val (.tup (L.map D.int))]=some (.ok ((aha L S).map D.int),abe .emp (S.map D.int)::[.val (.lst (S.map D.int)),.val (.tup (L.map D.int))]):=by
 rw[xg (p:=fun d=>match d with | .int x=>decide (L.getD x.toNat 0∈S) | _=>false) (f:=id)]
 ·simp only[aha,sW,oH,List.map_id,bL]
 ·intro d hd;obtain⟨k,hk,rfl⟩:=bV.mp hd;exact axi S (hS k hk).1 (hS k hk).2
 ·intro d hd _;simp[aaq]
theorem a1c{L:List Int}(w:Ways L){S:List Int}(hS:∀x∈S,0<=x/\x < (L.length:Int))(hl:S.length<=10)(A:D)(o:Sl) :
  vo [.val (.tup (L.map D.int)),.val A,.own none (S.map D.int),o]=some (.nx,[.val (.tup (L.map D.int)),.val A,.own none ((aha L S).map D.int),.val (.int (S.length:Nat))]):=by
 have e:=aq0 S hS;have hc:(aha L S).length<=capS:=cz (cL (gG _ _) (by omega))
 generalize aha L S=T at e hc;generalize L.map D.int=LL at *;simp[vo,e,hc]
theorem axh{L:List Int}(w:Ways L):ug [.val (.tup (L.map D.int)),.val (.lst ((upto L.length).map D.int))]=some (.ok (.fr ((trapI (lp L)).map D.int)),[.val (.tup (L.map D.int)),.val (.lst ((upto L.length).map D.int))]):=by
 have hm:=w.most;have h:=w.hs;have tI:trapI (lp L)=(upto L.length).filter (caught (lp L)):=by unfold trapI;rw[aae]
 have ul:(upto L.length).length=L.length:=by simp[upto]
 have e0:((upto L.length).filter fun _=>true)=upto L.length:=mZ.mpr fun _ _=>rfl
 have loop:=uv (c:=vp) (g:=vo)
  (fun k ρ=>∃(p:Int->Bool) (m:Nat),ρ=[.val (.tup (L.map D.int)),.val (.lst ((upto L.length).map D.int)),.own none (((upto L.length).filter p).map D.int),.val (.int (m:Nat))]/\k=m/\((upto L.length).filter p).length<=m/\(m=((upto L.length).filter p).length->aha L ((upto L.length).filter p)=(upto L.length).filter p)/\∀x∈trapI (lp L),p x=true)
  (fun ρ=>∃o,ρ=[.val (.tup (L.map D.int)),.val (.lst ((upto L.length).map D.int)),.own none ((trapI (lp L)).map D.int),o]) ?_ fuel (L.length+1) [.val (.tup (L.map D.int)),.val (.lst ((upto L.length).map D.int)),.own none (((upto L.length).filter fun _=>true).map D.int),.val (.int ((L.length+1:Nat):Int))] (jC (show L.length+1 < 100000 by omega) aex)
  ⟨fun _=>true,L.length+1,rfl,rfl,by rw[e0,ul];omega,fun z=>by rw[e0,ul] at z;omega,fun _ _=>rfl⟩
 ·obtain⟨ρ',e,o,rfl⟩:=loop;rw[e0] at e;have hcast:((L.length+1:Nat):Int)=(L.length:Int)+1:=by omega
  rw[hcast] at e;have ul2:((upto L.length).map D.int).length=L.length:=by rw[aW,ul]
  have hc:((upto L.length).map D.int).length<=capS:=by rw[ul2];exact cz (by omega)
  generalize (upto L.length).map D.int=U at *;generalize (trapI (lp L)).map D.int=T at *;generalize L.map D.int=LL at *;simp[ug,aew,ul2,hc,e]
 ·rintro k ρ ⟨p,m,rfl,hkm,hle,hcl,hp⟩
  subst hkm;have hS:∀x∈(upto L.length).filter p,0<=x/\x < (L.length:Int):=fun x hx=>j4 (bQ.mp hx).1
  have hl:((upto L.length).filter p).length<=10:=cL (gG _ _) (by omega)
  by_cases hlt:((upto L.length).filter p).length < k
  ·refine .inr ⟨_,_,((upto L.length).filter p).length,?_,a1c w hS hl (.lst ((upto L.length).map D.int)) (.val (.int (k:Nat))),hlt,(fun x=>decide (L.getD x.toNat 0∈(upto L.length).filter p)&&p x),((upto L.length).filter p).length,?_,rfl,?_,?_,?_⟩
   ·generalize (upto L.length).filter p=S at hlt;have:(S.length:Int) < (k:Int):=by omega
    simp[vp,this]
   ·unfold aha;rw[jM]
   ·rw[<-jM];exact gG _ _
   ·rw[<-jM];intro z;have:aha L ((upto L.length).filter p)=(upto L.length).filter p:=mZ.mpr fun a ha=>by
     by_cases q:decide (L.getD a.toNat 0∈(upto L.length).filter p)=true
     ·exact q
     ·exfalso;have:(((upto L.length).filter p).filter fun x=>decide (L.getD x.toNat 0∈(upto L.length).filter p)).length < ((upto L.length).filter p).length:=pP.mpr ⟨a,ha,by simpa using q⟩
      omega
    show aha L (aha L ((upto L.length).filter p))=aha L ((upto L.length).filter p);rw[this,this]
   ·intro x hx;rw[bH];refine⟨decide_eq_true ?_,hp x hx⟩;have hx':=hx;rw[tI] at hx';obtain⟨x1,x2⟩:=bQ.mp hx';have hx0:=j4 x1;have hd:L.getD x.toNat 0∈dr (lp L) x:=by rw[ama hx0.1 hx0.2];exact List.mem_singleton_self _
    generalize L.getD x.toNat 0=d at hd;have hd0:0<=d:=(jf (lp L) x).mp x2 d (.step .base hx0.1 hd);have hd1:=((h.dr hx0.1 (by rw[aae];exact hx0.2)).2.2 d hd).2
    rw[aae] at hd1;have du:d∈upto L.length:=by
     unfold upto;exact bV.mpr ⟨d.toNat,cR.mpr (by omega),by omega⟩
    have dt:d∈trapI (lp L):=by
     rw[tI];exact bQ.mpr ⟨du,(jf (lp L) d).mpr fun y hy=>(jf (lp L) x).mp x2 y (aow hx0.1 hd hy)⟩
    exact bQ.mpr ⟨du,hp d dt⟩
  ·refine .inl ⟨[.val (.tup (L.map D.int)),.val (.lst ((upto L.length).map D.int)),.own none (((upto L.length).filter p).map D.int),.val (.int (k:Nat))],?_,.val (.int (k:Nat)),?_⟩
   ·generalize (upto L.length).filter p=S at hlt;have:¬(S.length:Int) < (k:Int):=by omega
    simp[vp,this]
   ·have hk:=hcl (by omega)
    have:(upto L.length).filter p=trapI (lp L):=by
     rw[tI];refine xM fun x hx =>?_
     by_cases c:caught (lp L) x=true
     ·rw[c];exact hp x (by rw[tI];exact bQ.mpr ⟨hx,c⟩)
     ·have:p x=false:=by
       cases q:p x with
       | false=>rfl
       | true =>
        exfalso;refine c ((jf (lp L) x).mpr fun y hy =>?_)
        have:y∈(upto L.length).filter p:=by
         induction hy with
         | base=>exact bQ.mpr ⟨hx,q⟩
         | step r h0 hd ih =>
          have ih0:=hS _ ih;rw[<-hk] at ih;have:=(bQ.mp ih).2;rw[ama ih0.1 ih0.2,bY] at hd;rw[hd];exact of_decide_eq_true this
        exact(hS y this).1
      rw[this]
      simpa using c
    rw[this]
theorem j7{qv:LL9}(h:Hs qv){as:List Int}(ha:Arr qv as):Ways (lasts qv as):=⟨by rw[gm];exact h.one,by rw[gm];exact h.most,fun y hy=>by
 rw[gm];unfold lasts at hy;obtain⟨i,hi,rfl⟩:=bV.mp hy;have hi:=cR.mp hi;obtain⟨a1,a2,a3⟩:=h.dr (x:=(i:Int)) (by omega) (by omega)
 refine a3 _ ?_;unfold aak;have w0:0 < wd qv (i:Int):=by unfold wd;omega
 have b0:=iZ (ar as (i:Int) - 1) (show wd qv (i:Int)≠0 by omega)
 have b1:=gA (ar as (i:Int) - 1) w0;have hk:((ar as (i:Int) - 1) % wd qv (i:Int)).toNat < (dr qv (i:Int)).length:=by unfold wd at *;omega
 rw[aM,aF hk];exact cZ hk⟩
theorem atj{qv:LL9}(h:Hs qv){as:List Int}(ha:Arr qv as)(w:Ways (lasts qv as)):aa1 [.val (hD qv),.val (.tup (as.map D.int))]=some (.ok (.v (.bl (decide (trapI (lp (lasts qv as))=[])))),[.val (hD qv),.val (.tup (as.map D.int))]):=by
 have hl:=xx qv;have hm:=h.most;have hb':qv.length < 1000000:=by omega
 have e1:=alx h ha;have e2:=axh w;rw[gm] at e2;have er:=abb qv.length;have e3:gEq false (.lst ((trapI (lp (lasts qv as))).map D.int)) (.lst [])=some (.v (.bl (decide (trapI (lp (lasts qv as))=[])))):=axm false _ [];generalize decide (trapI (lp (lasts qv as))=[])=bb at *;generalize (trapI (lp (lasts qv as))).map D.int=T at *;generalize (lasts qv as).map D.int=LL at *;generalize (upto qv.length).map D.int=U at *;generalize as.map D.int=la at *;simp only[hD] at *;simp[aa1,ais,hl,hb',e1,er,e2,e3]
theorem afj:∀(m:Nat) (l:List Int),l.Nodup->(∀x∈l,0<=x/\x < (m:Int))->l.length<=m
 | 0,l,_,h=>by
  cases l with
  | nil=>simp
  | cons x r=>have:=h x (aR ..);omega
 | m+1,l,hn,h=>by
  have h1:(l.erase (m:Int)).length<=m:=afj m _ (hn.erase _) fun x hx=>by
   rw[hn.mem_erase_iff] at hx;have:=h x hx.2;have:=hx.1;omega
  have h2:l.length<=(l.erase (m:Int)).length+1:=by
   rw[xJ];split <;> omega
  omega
theorem pig(f:Nat->Int)(n:Nat)(hf:∀i,i<=n->0<=f i/\f i < (n:Int)):∃i j,i < j/\j<=n/\f i=f j:=by
 apply bF;intro H;have hn:((aK (n+1)).map f).Nodup:=by
  rw[xO,rH];refine List.Pairwise.imp_of_mem (fun{a b} ha hb hlt e=>H ⟨a,b,hlt,?_,e⟩) jL
  have:=cR.mp hb;omega
 have:=afj n _ hn fun x hx=>by
  obtain⟨i,hi,rfl⟩:=bV.mp hx;have:=cR.mp hi;exact hf i (by omega)
 rw[aW,gF] at this;omega
theorem least{P:Nat->Prop}:∀n,P n->∃m,P m/\∀i < m,¬P i:=fun n=>by
 induction n using Nat.strongRecOn with
 | _ n ih =>
  intro hn
  by_cases q:∃i,i < n/\P i
  ·obtain⟨i,hi,hp⟩:=q;exact ih i hi hp
  ·exact⟨n,hn,fun i hi hp=>q ⟨i,hi,hp⟩⟩
theorem alk:∀{a b:List Int},a.Nodup->(∀x∈a,x∈b)->a.length<=b.length
 | [],b,_,_=>eF _
 | x::r,b,hn,h=>by
  have hx:=h x (aR ..);have h1:r.length<=(b.erase x).length:=alk (vA hn) fun y hy=>by
   have hne:y≠x:=fun e=>(fZ.mp hn).1 y hy e.symm
   exact(List.mem_erase_of_ne hne).mpr (h y (aN _ hy))
  rw[List.length_erase_of_mem hx] at h1;have:=List.length_pos_of_mem hx;rw[cG];omega
def nxt(L:List Int)(p:Int):Int:=if 0<=p then L.getD p.toNat 0 else p
def itr(L:List Int)(p:Int):Nat->Int
 | 0=>p
 | t+1=>itr L (nxt L p) t
theorem afm(L:List Int):∀(s t:Nat) (p:Int),itr L p (s+t)=itr L (itr L p s) t
 | 0,t,p=>by rw[cN];rfl
 | s+1,t,p=>by
  rw[show s+1+t=(s+t)+1 by omega]
  exact afm L s t (nxt L p)
theorem atw(L:List Int){p:Int}(h:p < 0):∀t:Nat,itr L p t=p
 | 0=>rfl
 | t+1=>by
  have:nxt L p=p:=if_neg (by omega)
  show itr L (nxt L p) t=p;rw[this];exact atw L h t
theorem ayi{L:List Int}(w:Ways L){p:Int}(hp:p < (L.length:Int)):nxt L p < (L.length:Int):=by
 unfold nxt;split
 ·rename_i h0;have hk:p.toNat < L.length:=by omega
  rw[aM,aF hk];exact(w.ok _ (cZ hk)).2
 ·exact hp
theorem aly{L:List Int}(w:Ways L):∀(t:Nat) {p:Int},p < (L.length:Int)->itr L p t < (L.length:Int)
 | 0,_,h=>h
 | t+1,_,h=>aly w t (ayi w h)
theorem aov{L:List Int}(w:Ways L):(∃s∈upto L.length,∃t,1<=t/\t<=L.length/\itr L s t=s)↔trapI (lp L)≠[]:=by
 have tI:trapI (lp L)=(upto L.length).filter (caught (lp L)):=by unfold trapI;rw[aae]
 constructor
 ·rintro⟨s,hs,t,t1,t2,e⟩
  have s0:=j4 hs;have em:∀m:Nat,itr L s (m*t)=s:=fun m=>by
   induction m with
   | zero=>rw[Nat.zero_mul];rfl
   | succ m ih=>rw[pK,afm,ih,e]
  have hp:∀m:Nat,0<=itr L s m:=fun m=>by
   rcases gJ (itr L s m) 0 with q | q
   ·exfalso;have hle:m<=m*t:=Nat.le_mul_of_pos_right m t1;have h1:=afm L m (m*t - m) s;rw[show m+(m*t - m)=m*t by omega,em m,atw L q] at h1
    omega
   ·exact q
  have hr:∀x,Rch (lp L) s x->∃m,x=itr L s m:=fun x hx=>by
   induction hx with
   | base=>exact⟨0,rfl⟩
   | step r h0 hd ih =>
    obtain⟨m,rfl⟩:=ih;have hl:=aly w m s0.2;rw[ama h0 hl,bY] at hd;refine⟨m+1,?_⟩;rw[afm,hd];show _=nxt L (itr L s m);exact(if_pos h0).symm
  have:s∈trapI (lp L):=by
   rw[tI];refine bQ.mpr ⟨hs,(jf _ _).mpr fun x hx =>?_⟩
   obtain⟨m,rfl⟩:=hr x hx;exact hp m
  exact qR this
 ·intro hne;obtain⟨a,r,ha⟩:=tH hne;have hm:a∈trapI (lp L):=by rw[ha];exact aR ..
  rw[tI] at hm;obtain⟨a1,a2⟩:=bQ.mp hm;have a0:=j4 a1;have hc:=(jf _ _).mp a2;have hr:∀m:Nat,Rch (lp L) a (itr L a m):=fun m=>by
   induction m with
   | zero=>exact .base
   | succ m ih =>
    have h0:=hc _ ih;have hl:=aly w m a0.2;rw[afm];refine .step ih h0 ?_;rw[ama h0 hl,bY];show nxt L (itr L a m)=_;exact if_pos h0
  obtain⟨i,j,hij,hj,e⟩:=pig (fun m=>itr L a m) L.length fun m _=>⟨hc _ (hr m),aly w m a0.2⟩
  have hi0:=hc _ (hr i);have hi1:=aly w i a0.2;refine⟨itr L a i,?_,j - i,by omega,by omega,?_⟩
  ·unfold upto;exact bV.mpr ⟨(itr L a i).toNat,cR.mpr (by omega),by omega⟩
  ·rw[<-afm,show i+(j - i)=j by omega]
   exact e.symm
theorem aah{qv:LL9}{bs:List Int}{p:Int}(hp:p.toNat < bs.length):ar (gone qv bs p) p=(ar bs p+1) % ((dr qv p).length:Int):=by
 unfold gone;generalize (ar bs p+1) % ((dr qv p).length:Int)=z;unfold ar;simp[hp]
theorem ac1{qv:LL9}{bs:List Int}{p x:Int}(hx:0<=x)(hp:0<=p)(hne:x≠p):ar (gone qv bs p) x=ar bs x:=by
 have:p.toNat≠x.toNat:=by omega
 unfold gone;generalize (ar bs p+1) % ((dr qv p).length:Int)=z;unfold ar;simp[aM,bG,this]
def run(qv:LL9)(as:List Int)(k:Int):Nat->List Int×Int
 | 0=>(as,k)
 | n+1=>(gone qv (run qv as k n).1 (run qv as k n).2,led qv (run qv as k n).1 (run qv as k n).2)
section
variable{qv:LL9}(h:Hs qv){as:List Int}(ha:Arr qv as){k:Int}(h0:0<=k)(h1:k < (qv.length:Int))
include h ha h0 h1
theorem ab4:∀t:Nat,(∀i < t,0<=(run qv as k i).2)->Arr qv (run qv as k t).1 /\ -3<=(run qv as k t).2/\(run qv as k t).2 < (qv.length:Int)
 | 0,_=>⟨ha,by show -3<=k;omega,h1⟩
 | t+1,hp=>by
  obtain⟨a1,a2,a3⟩:=ab4 t fun i hi=>hp i (by omega)
  have a0:=hp t (by omega)
  exact⟨aet h a1 a0 a3,ayl h a1 a0 a3⟩
end
def gdB(R:List Int)(d:Int):Bool:=decide (d < 0)||decide (d∈R)
section
variable{qv:LL9}(h:Hs qv){R:List Int}
include h
theorem atc(hop:trapI qv=[])(hl:R.length < qv.length):∃y,0<=y/\y < (qv.length:Int)/\y∉R/\∃d∈dr qv y,gdB R d=true:=by
 apply bF;intro H;have hy:∃y:Int,0<=y/\y < (qv.length:Int)/\y∉R:=by
  apply bF;intro H2;have:=alk (a:=(aK qv.length).map fun(i:Nat)=>(i:Int)) (b:=R) (by
   rw[xO,rH];exact xN (fun{a b} hab=>by omega) jL) fun x hx=>by
   obtain⟨i,hi,rfl⟩:=bV.mp hx;have:=cR.mp hi;apply bF;intro hn;exact H2 ⟨(i:Int),by omega,by omega,hn⟩
  rw[aW,gF] at this;omega
 obtain⟨y,y0,y1,yn⟩:=hy;have all:∀z,Rch qv y z->0<=z/\z < (qv.length:Int)/\z∉R:=fun z hz=>by
  induction hz with
  | base=>exact⟨y0,y1,yn⟩
  | @step x d r _ hd ih =>
   have hb:=(h.dr ih.1 ih.2.1).2.2 d hd;have hg:gdB R d≠true:=fun g=>H ⟨x,ih.1,ih.2.1,ih.2.2,d,hd,g⟩
   unfold gdB at hg;rw[Ne,yW,decide_eq_true_eq,decide_eq_true_eq] at hg;exact⟨by
    rcases gJ d 0 with q | q
    ·exact absurd (.inl q) hg
    ·exact q,hb.2,fun q=>hg (.inr q)⟩
 have:y∈trapI qv:=bQ.mpr ⟨by
  unfold upto;exact bV.mpr ⟨y.toNat,cR.mpr (by omega),by omega⟩,(jf qv y).mpr fun z hz=>(all z hz).1⟩
 rw[hop] at this;cases this
end
def cv(qv:LL9)(as:List Int)(k y:Int):Nat->Nat
 | 0=>0
 | t+1=>cv qv as k y t+if (run qv as k t).2=y then 1 else 0
def av(qv:LL9)(as:List Int)(k d:Int):Nat->Nat
 | 0=>0
 | t+1=>av qv as k d t+if (run qv as k (t+1)).2=d then 1 else 0
theorem a6m(qv:LL9)(as:List Int)(k d:Int):∀t,av qv as k d t<=cv qv as k d (t+1)
 | 0=>eF _
 | t+1=>by
  have ih:=a6m qv as k d t;show av qv as k d t+(if (run qv as k (t+1)).2=d then 1 else 0)<=cv qv as k d (t+1)+(if (run qv as k (t+1)).2=d then 1 else 0)
  omega
theorem a92(qv:LL9)(as:List Int)(k d:Int)(t:Nat):av qv as k d t<=cv qv as k d t+1:=by
 have h:=a6m qv as k d t;have e:cv qv as k d (t+1)=cv qv as k d t+if (run qv as k t).2=d then 1 else 0:=rfl
 rw[e] at h;split at h <;> omega
theorem au5{qv:LL9}{as:List Int}{k d:Int}(hd:d < 0):∀t,(∀i < t,0<=(run qv as k i).2)->cv qv as k d t=0
 | 0,_=>rfl
 | t+1,hp=>by
  have ih:=au5 hd t fun i hi=>hp i (by omega)
  have p0:=hp t (by omega)
  show cv qv as k d t+(if (run qv as k t).2=d then 1 else 0)=0
  rw[ih,if_neg (by omega)]
theorem anq{x w:Int}(h0 : -w<=x)(h1:x < 0):x % w=x+w:=by
 rw[<-lU x w];exact cP (by omega) (by omega)
theorem rot{a e w:Int}(a0:0<=a)(a1:a < w)(e0:0<=e)(e1:e < w)(ne:a≠e):((a+1) % w - e - 1) % w=(a - e - 1) % w+1:=by
 rcases gJ (a+1) w with q | q
 ·rw[cP (by omega) q]
  rcases gJ a e with z | z
  ·rw[anq (by omega) (by omega),anq (by omega) (by omega)]
   omega
  ·rw[cP (show 0<=a+1 - e - 1 by omega) (by omega),cP (show 0<=a - e - 1 by omega) (by omega)]
   omega
 ·have ew:a+1=w:=by omega
  rw[ew,uN,anq (by omega) (by omega),cP (show 0<=a - e - 1 by omega) (by omega)]
  omega
section
variable{qv:LL9}(h:Hs qv){as:List Int}(ha:Arr qv as){k:Int}(h0:0<=k)(h1:k < (qv.length:Int))
include h ha h0 h1
theorem ay0{y:Int}(y0:0<=y)(y1:y < (qv.length:Int)){e:Nat}(he:e < (dr qv y).length):∀t,(∀i < t,0<=(run qv as k i).2)->(cv qv as k y t:Int)<=((dr qv y).length:Int)*(av qv as k ((dr qv y).getD e 0) t:Int)+(ar (run qv as k t).1 y - (e:Int) - 1) % ((dr qv y).length:Int)
 | 0,_=>by
  have:0<=(ar (run qv as k 0).1 y - (e:Int) - 1) % ((dr qv y).length:Int):=iZ _ (by omega)
  show((0:Nat):Int)<=((dr qv y).length:Int)*((0:Nat):Int)+_;simp;exact this
 | t+1,hp=>by
  have hp':∀i < t,0<=(run qv as k i).2:=fun i hi=>hp i (by omega)
  have ih:=ay0 y0 y1 he t hp';obtain⟨a1,a2,a3⟩:=ab4 h ha h0 h1 t hp';have p0:=hp t (by omega)
  have ec:cv qv as k y (t+1)=cv qv as k y t+if (run qv as k t).2=y then 1 else 0:=rfl
  have ea:av qv as k ((dr qv y).getD e 0) (t+1)=av qv as k ((dr qv y).getD e 0) t+if (run qv as k (t+1)).2=(dr qv y).getD e 0 then 1 else 0:=rfl
  have er:(run qv as k (t+1)).1=gone qv (run qv as k t).1 (run qv as k t).2:=rfl;have el:(run qv as k (t+1)).2=led qv (run qv as k t).1 (run qv as k t).2:=rfl;have aa:=a1.at y0 y1;have al:=a1.len
  by_cases hy:(run qv as k t).2=y
  ·rw[ec,ea,er,el,hy,if_pos rfl];rw[aah (by omega)]
   generalize hA:ar (run qv as k t).1 y=a at *
   by_cases ne:a=(e:Int)
   ·have:led qv (run qv as k t).1 y=(dr qv y).getD e 0:=by
     unfold led;rw[hA,ne];rfl
    rw[if_pos this];have b1:=gA (a - (e:Int) - 1) (show(0:Int) < ((dr qv y).length:Int) by omega)
    have b2:=iZ ((a+1) % ((dr qv y).length:Int) - (e:Int) - 1) (show((dr qv y).length:Int)≠0 by omega)
    have em:((dr qv y).length:Int)*((av qv as k ((dr qv y).getD e 0) t+1:Nat):Int)=((dr qv y).length:Int)*(av qv as k ((dr qv y).getD e 0) t:Int)+((dr qv y).length:Int):=by
     rw[gH,iW];simp
    rw[em];omega
   ·have b:=rot aa.1 aa.2 (show(0:Int)<=(e:Int) by omega) (by omega) ne
    have em:((dr qv y).length:Int)*(av qv as k ((dr qv y).getD e 0) t:Int)<=((dr qv y).length:Int)*((av qv as k ((dr qv y).getD e 0) t+(if led qv (run qv as k t).1 y=(dr qv y).getD e 0 then 1 else 0):Nat):Int):=jH (by omega) (by omega)
    rw[b];omega
  ·rw[ec,ea,er,if_neg hy,ac1 y0 p0 (fU hy)];have em:((dr qv y).length:Int)*(av qv as k ((dr qv y).getD e 0) t:Int)<=((dr qv y).length:Int)*((av qv as k ((dr qv y).getD e 0) t+(if (run qv as k (t+1)).2=(dr qv y).getD e 0 then 1 else 0):Nat):Int):=jH (by omega) (by omega)
   omega
theorem a1v{W:Nat}(hw:∀r∈qv,r.length<=W){y:Int}(y0:0<=y)(y1:y < (qv.length:Int)){d:Int}(hd:d∈dr qv y){t:Nat}(hp:∀i < t,0<=(run qv as k i).2):cv qv as k y t<=W*cv qv as k d t+2*W:=by
 obtain⟨e,he,ed⟩:=gR.mp hd;have i:=ay0 h ha h0 h1 y0 y1 he t hp;have ed':(dr qv y).getD e 0=d:=by rw[aM,aF he];exact ed
 rw[ed'] at i;have b1:=gA (ar (run qv as k t).1 y - (e:Int) - 1) (show(0:Int) < ((dr qv y).length:Int) by omega)
 have w3:(dr qv y).length<=W:=hw _ (by
  have hk:y.toNat < qv.length:=by omega
  unfold dr;rw[aM,aF hk];exact cZ hk)
 have al:=a92 qv as k d t;have em:((dr qv y).length:Int)*(av qv as k d t:Int)<=(W:Int)*(av qv as k d t:Int):=rM (by omega) (by omega)
 have en:(W:Int)*(av qv as k d t:Int)<=(W:Int)*((cv qv as k d t:Int)+1):=jH (by omega) (by omega)
 rw[iW,Int.mul_one] at en;have:(cv qv as k y t:Int)<=((W*cv qv as k d t+2*W:Nat):Int):=by
  rw[gH,iK,iK];omega
 omega
def mx(W:Nat):Nat->Nat
 | 0=>0
 | j+1=>W*mx W j+2*W
def sx(W:Nat):Nat->Nat
 | 0=>0
 | j+1=>sx W j+mx W (j+1)
omit h ha h0 h1 in
theorem awa(f:Int->Nat)(p:Int):∀R:List Int,p∈R->(R.map f).sum+1<=(R.map fun x=>f x+if p=x then 1 else 0).sum:=fun R=>by
 have base:∀R:List Int,(R.map f).sum<=(R.map fun x=>f x+if p=x then 1 else 0).sum:=fun R=>by
  induction R with
  | nil=>exact aL _
  | cons x r ih =>
   rw[aV,aV,cA,cA];omega
 induction R with
 | nil=>intro hp;cases hp
 | cons x r ih =>
  intro hp;rw[aV,aV,cA,cA];rcases bD.mp hp with rfl | hp
  ·have:=base r;rw[if_pos rfl];omega
  ·have:=ih hp;omega
omit h ha h0 h1 in
theorem akv{R:List Int}:∀t,(∀i < t,(run qv as k i).2∈R)->t<=(R.map fun x=>cv qv as k x t).sum
 | 0,_=>eF _
 | t+1,hp=>by
  have ih:=akv (R:=R) t fun i hi=>hp i (by omega)
  have:=awa (fun x=>cv qv as k x t) (run qv as k t).2 R (hp t (by omega))
  exact cL (pC ih) this
theorem akt{W:Nat}(hW1:1<=W)(hop:trapI qv=[])(hw:∀r∈qv,r.length<=W){t:Nat}(hp:∀i < t,0<=(run qv as k i).2):t<=sx W qv.length:=by
 have claim:∀j,j<=qv.length->∃R:List Int,R.Nodup/\R.length=j/\(∀x∈R,0<=x/\x < (qv.length:Int))/\(∀x∈R,cv qv as k x t<=mx W j)/\(R.map fun x=>cv qv as k x t).sum<=sx W j:=fun j=>by
  induction j with
  | zero=>exact fun _=>⟨[],oG,rfl,fun x hx=>absurd hx fP,fun x hx=>absurd hx fP,aL _⟩
  | succ j ih =>
   intro hj;obtain⟨R,nd,hl,hin,hm,hs⟩:=ih (by omega)
   obtain⟨y,y0,y1,yn,d,hd,hg⟩:=atc h (R:=R) hop (by omega)
   have cd:cv qv as k d t<=mx W j:=by
    unfold gdB at hg;rw[yW,decide_eq_true_eq,decide_eq_true_eq] at hg;rcases hg with q | q
    ·rw[au5 q t hp];exact eF _
    ·exact hm d q
   have cy:=a1v h ha h0 h1 hw y0 y1 hd hp;have em:mx W (j+1)=W*mx W j+2*W:=rfl;have em2:W*cv qv as k d t<=W*mx W j:=mW _ cd;have em3:mx W j<=W*mx W j:=pH _ hW1;refine⟨y::R,qW (fun a ha e=>yn (e▸ha)) nd,by rw[cG,hl],fun x hx =>?_,fun x hx =>?_,?_⟩
   ·rcases bD.mp hx with rfl | hx
    ·exact⟨y0,y1⟩
    ·exact hin x hx
   ·rcases bD.mp hx with rfl | hx
    ·omega
    ·have:=hm x hx;omega
   ·rw[aV,cA];show _<=sx W j+mx W (j+1);omega
 obtain⟨R,nd,hl,hin,hm,hs⟩:=claim qv.length (aL _);refine cL (akv t fun i hi =>?_) hs
 have p0:=hp i hi;have p1:=(ab4 h ha h0 h1 i fun j hj=>hp j (by omega)).2.2
 apply bF;intro hn;have:=afj qv.length ((run qv as k i).2::R) (qW (fun a ha e=>hn (e▸ha)) nd) fun a ha=>by
  rcases bD.mp ha with rfl | ha
  ·exact⟨p0,p1⟩
  ·exact hin a ha
 rw[cG] at this;omega
theorem aom{W:Nat}(hW1:1<=W)(hop:trapI qv=[])(hw:∀r∈qv,r.length<=W):∃T,1<=T/\T<=sx W qv.length/\(∀i < T,0<=(run qv as k i).2)/\(run qv as k T).2 < 0:=by
 have ex:∃t,(run qv as k t).2 < 0:=by
  apply bF;intro H;have:=akt h ha h0 h1 hW1 hop hw (t:=sx W qv.length+1) fun i _=>by
   rcases gJ (run qv as k i).2 0 with q | q
   ·exact absurd ⟨i,q⟩ H
   ·exact q
  omega
 obtain⟨t,ht⟩:=ex;obtain⟨T,hT,hmin⟩:=least (P:=fun t=>(run qv as k t).2 < 0) t ht
 have hp:∀i < T,0<=(run qv as k i).2:=fun i hi=>by
  have:¬(run qv as k i).2 < 0:=hmin i hi;omega
 refine⟨T,?_,akt h ha h0 h1 hW1 hop hw hp,hp,hT⟩;rcases lN T with z | z
 ·subst z;have:(run qv as k 0).2=k:=rfl;have hT:(run qv as k 0).2 < 0:=hT;omega
 ·exact z
end
def vis(qv:LL9)(as:List Int)(k:Int)(T:Nat):List Int:=(aK T).map fun i=>(run qv as k i).2
def go(qv:LL9):List Int->List Int->List Int
 | as,[]=>as
 | as,x::s=>go qv (gone qv as x) s
def arv(qv:LL9)(d:Int):List Int->List Int->Nat
 | _,[]=>0
 | as,x::s=>(if led qv as x=d then 1 else 0)+arv qv d (gone qv as x) s
def us(qv:LL9)(as:List Int)(y d:Int):Nat->Nat
 | 0=>0
 | n+1=>us qv as y d n+if (dr qv y).getD ((ar as y+(n:Int)) % ((dr qv y).length:Int)).toNat 0=d then 1 else 0
def InR(qv:LL9)(s:List Int):Prop:=∀x∈s,0<=x/\x < (qv.length:Int)
theorem uc(qv:LL9):∀(s t as:List Int),go qv as (s++t)=go qv (go qv as s) t
 | [],t,as=>rfl
 | x::s,t,as=>uc qv s t (gone qv as x)
theorem yu(qv:LL9)(d:Int):∀(s t as:List Int),arv qv d as (s++t)=arv qv d as s+arv qv d (go qv as s) t
 | [],t,as=>by simp[arv,go]
 | x::s,t,as=>by
  show(if led qv as x=d then 1 else 0)+arv qv d (gone qv as x) (s++t)=(if led qv as x=d then 1 else 0)+arv qv d (gone qv as x) s+arv qv d (go qv (gone qv as x) s) t
  rw[yu qv d s t];omega
theorem ji(x y:Int)(s:List Int):(x::s).count y=s.count y+if x=y then 1 else 0:=by
 rw[sX];simp
theorem alp{a c w:Int}(hw:0 < w):((a+1) % w+c) % w=(a+(c+1)) % w:=by
 rw[Int.emod_add_emod]
 congr 1
 omega
theorem amv(qv:LL9)(as:List Int)(y d:Int){m n:Nat}(h:m<=n):us qv as y d m<=us qv as y d n:=by
 induction n with
 | zero =>
  have:m=0:=by omega
  rw[this];exact aL _
 | succ n ih =>
  by_cases q:m=n+1
  ·rw[q];exact aL _
  ·have:=ih (by omega)
   have e:us qv as y d (n+1)=us qv as y d n+if (dr qv y).getD ((ar as y+(n:Int)) % ((dr qv y).length:Int)).toNat 0=d then 1 else 0:=rfl
   omega
theorem agf(f g:Int->Nat):∀l:List Int,(∀x∈l,f x<=g x)->(l.map f).sum<=(l.map g).sum
 | [],_=>aL _
 | x::l,h=>by
  rw[aV,aV,cA,cA];have:=h x (aR ..);have:=agf f g l fun y hy=>h y (aN _ hy)
  omega
theorem aco(f g:Int->Nat):∀l:List Int,(∀x∈l,f x=g x)->(l.map f).sum=(l.map g).sum
 | [],_=>rfl
 | x::l,h=>by
  rw[aV,aV,cA,cA,h x (aR ..),aco f g l fun y hy=>h y (aN _ hy)]
theorem ajb(f g:Int->Nat)(x:Int)(k:Nat)(hx:f x=k+g x):∀l:List Int,l.Nodup->x∈l->(∀y∈l,y≠x->f y=g y)->(l.map f).sum=k+(l.map g).sum
 | [],_,h,_=>by cases h
 | y::l,hn,h,hs=>by
  obtain⟨h1,h2⟩:=fZ.mp hn;rw[aV,aV,cA,cA]
  by_cases e:y=x
  ·subst e;rw[hx,aco f g l fun z hz=>hs z (aN _ hz) fun q=>h1 z hz q.symm]
   omega
  ·have hm:x∈l:=by
    rcases bD.mp h with q | q
    ·exact absurd q.symm e
    ·exact q
   rw[hs y (aR ..) e,ajb f g x k hx l h2 hm fun z hz=>hs z (aN _ hz)]
   omega
theorem ae5(n:Nat):(upto n).Nodup:=by
 unfold upto;rw[xO,rH];exact xN (fun{a b} hab=>by omega) jL
theorem ad7{n:Nat}{x:Int}(h0:0<=x)(h1:x < (n:Int)):x∈upto n:=by
 unfold upto;exact bV.mpr ⟨x.toNat,cR.mpr (by omega),by omega⟩
section
variable{qv:LL9}(h:Hs qv)
include h
theorem af4:∀(s:List Int) {as:List Int},Arr qv as->InR qv s->Arr qv (go qv as s)
 | [],_,ha,_=>ha
 | x::s,as,ha,hs=>af4 s (aet h ha (hs x (aR ..)).1 (hs x (aR ..)).2) fun y hy=>hs y (aN _ hy)
theorem akr{y:Int}(y0:0<=y)(y1:y < (qv.length:Int)):∀(s:List Int) {as:List Int},Arr qv as->InR qv s->ar (go qv as s) y=(ar as y+(s.count y:Int)) % ((dr qv y).length:Int)
 | [],as,ha,_=>by
  have a:=ha.at y0 y1;show ar as y=(ar as y+0) % _;rw[jD,cP a.1 a.2]
 | x::s,as,ha,hs=>by
  have hx:=hs x (aR ..);have hd:=(h.dr y0 y1).1;have hal:=ha.len;have ih:=akr y0 y1 s (aet h ha hx.1 hx.2) fun z hz=>hs z (aN _ hz)
  show ar (go qv (gone qv as x) s) y=_;rw[ih,ji]
  by_cases e:x=y
  ·subst e;rw[aah (by omega),if_pos rfl,alp (by omega),gH]
   rfl
  ·rw[ac1 y0 hx.1 (fU e),if_neg e];rfl
theorem a2q{as:List Int}{x y d:Int}(x0:0<=x)(y0:0<=y)(e:y≠x):∀n,us qv (gone qv as x) y d n=us qv as y d n
 | 0=>rfl
 | n+1=>by
  unfold us;rw[a2q x0 y0 e n,ac1 y0 x0 e]
theorem arq{as:List Int}(ha:Arr qv as){x d:Int}(x0:0<=x)(x1:x < (qv.length:Int)):∀n,us qv as x d (n+1)=(if led qv as x=d then 1 else 0)+us qv (gone qv as x) x d n
 | 0=>by
  have a:=ha.at x0 x1;show 0+(if (dr qv x).getD ((ar as x+0) % ((dr qv x).length:Int)).toNat 0=d then 1 else 0)=_+0
  rw[jD,cP a.1 a.2];unfold led;omega
 | n+1=>by
  have ih:=arq ha (d:=d) x0 x1 n;have hd:=(h.dr x0 x1).1;have hal:=ha.len;have e1:us qv as x d (n+2)=us qv as x d (n+1)+if (dr qv x).getD ((ar as x+((n+1:Nat):Int)) % ((dr qv x).length:Int)).toNat 0=d then 1 else 0:=rfl
  have e2:us qv (gone qv as x) x d (n+1)=us qv (gone qv as x) x d n+if (dr qv x).getD ((ar (gone qv as x) x+(n:Int)) % ((dr qv x).length:Int)).toNat 0=d then 1 else 0:=rfl
  rw[e1,e2,ih,aah (by omega),alp (by omega),gH]
  show _+_+(if (dr qv x).getD ((ar as x+((n:Int)+1)) % ((dr qv x).length:Int)).toNat 0=d then 1 else 0)=_
  omega
theorem ah1(d:Int):∀(s:List Int) {as:List Int},Arr qv as->InR qv s->arv qv d as s=((upto qv.length).map fun y=>us qv as y d (s.count y)).sum
 | [],as,_,_=>by
  show 0=_
  symm
  rw[aco (fun y=>us qv as y d (([]:List Int).count y)) (fun _=>0) _ fun x _=>rfl]
  generalize upto qv.length=l
  induction l with
  | nil=>rfl
  | cons x l ih=>rw[aV,cA,ih]
 | x::s,as,ha,hs=>by
  have hx:=hs x (aR ..);have ih:=ah1 d s (aet h ha hx.1 hx.2) fun z hz=>hs z (aN _ hz)
  show(if led qv as x=d then 1 else 0)+arv qv d (gone qv as x) s=_
  rw[ih]
  symm
  refine ajb _ _ x _ ?_ _ (ae5 _) (ad7 hx.1 hx.2) fun y hy e =>?_
  ·show us qv as x d ((x::s).count x)=_;rw[ji,if_pos rfl,arq h ha hx.1 hx.2]
  ·show us qv as y d ((x::s).count y)=us qv (gone qv as x) y d (s.count y);rw[ji,if_neg (fU e),a2q h hx.1 (j4 hy).1 e];rfl
theorem ay9{as s t:List Int}(ha:Arr qv as)(hs:InR qv s)(ht:InR qv t)(hc:∀y,0<=y->y < (qv.length:Int)->s.count y<=t.count y)(d:Int):arv qv d as s<=arv qv d as t:=by
 rw[ah1 h d s ha hs,ah1 h d t ha ht];exact agf _ _ _ fun y hy=>amv _ _ _ _ (hc y (j4 hy).1 (j4 hy).2)
end
def Lg(qv:LL9)(as:List Int)(w:Int->Nat)(s:List Int):Prop:=∀p x q,s=p++x::q->(0<=x/\x < (qv.length:Int))/\p.count x < w x+arv qv x as p
def Stb(qv:LL9)(as:List Int)(w:Int->Nat)(s:List Int):Prop:=∀x,0<=x->x < (qv.length:Int)->s.count x=w x+arv qv x as s
theorem Lg.inR{qv:LL9}{as:List Int}{w:Int->Nat}{s:List Int}(l:Lg qv as w s):InR qv s:=fun x hx=>by
 obtain⟨p,q,e⟩:=nG hx;exact(l p x q e).1
theorem InR.count{qv:LL9}{s:List Int}(hs:InR qv s){x:Int}(hx:¬(0<=x/\x < (qv.length:Int))):s.count x=0:=qU.mpr fun q=>hx (hs x q)
theorem InR.append{qv:LL9}{s t:List Int}(hs:InR qv s)(ht:InR qv t):InR qv (s++t):=fun x hx=>(cX.mp hx).elim (hs x) (ht x)
section
variable{qv:LL9}(h:Hs qv){as:List Int}(ha:Arr qv as){w:Int->Nat}
include h ha
theorem alv{s t:List Int}(hs:Lg qv as w s)(ht:InR qv t)(hst:∀x,0<=x->x < (qv.length:Int)->w x+arv qv x as t<=t.count x)(x:Int):s.count x<=t.count x:=by
 have claim:∀k,k<=s.length->∀x,(s.take k).count x<=t.count x:=fun k=>by
  induction k with
  | zero=>intro _ x;simp
  | succ k ih =>
   intro hk x;have hk':k < s.length:=by omega
   have e:s.take (k+1)=s.take k++[s[k]]:=by rw[zA,aF hk'];rfl
   have es:s=s.take k++s[k]::s.drop (k+1):=by
    rw[<-nQ hk',List.take_append_drop]
   obtain⟨b,l⟩:=hs _ _ _ es;have ih:=ih (by omega)
   rw[e,eN,ji]
   by_cases q:s[k]=x
   ·rw[if_pos q];have hin:InR qv (s.take k):=fun z hz=>hs.inR z (vI hz)
    have m:=ay9 h ha hin ht (fun y _ _=>ih y) s[k]
    have z:=hst _ b.1 b.2;rw[<-q];simp;omega
   ·rw[if_neg q];have:=ih x;simp;exact this
 have:=claim s.length (aL _) x;rwa[mH] at this
theorem go_same{s t:List Int}(hs:InR qv s)(ht:InR qv t)(hc:∀x,s.count x=t.count x):go qv as s=go qv as t:=by
 have l1:=(af4 h s ha hs).len;have l2:=(af4 h t ha ht).len;apply jY;intro i
 by_cases hi:i < qv.length
 ·have e1:=akr h (y:=(i:Int)) (by omega) (by omega) s ha hs
  have e2:=akr h (y:=(i:Int)) (by omega) (by omega) t ha ht
  rw[hc,<-e2] at e1;unfold ar at e1;rw[show((i:Nat):Int).toNat=i by omega,aM,aM,aF (by omega),aF (by omega)] at e1
  rw[aF (by omega),aF (by omega)]
  exact congrArg some e1
 ·rw[dX (by omega),dX (by omega)]
theorem Lg.append{w2:Int->Nat}{s t:List Int}(hs:Lg qv as w s)(ss:Stb qv as w s)(ht:Lg qv (go qv as s) w2 t):Lg qv as (fun x=>w x+w2 x) (s++t):=fun p x q e=>by
 rcases tY.mp e with⟨r,e1,e2⟩ | ⟨r,e1,e2⟩
 ·-- the beginning is longer than s
  obtain⟨b,l⟩:=ht r x q e2;have z:=ss x b.1 b.2;refine⟨b,?_⟩;rw[e1,eN,yu];show s.count x+r.count x < w x+w2 x+_;omega
 ·cases r with
  | nil =>
   rw[bL] at e2;obtain⟨b,l⟩:=ht [] x q (by rw[bL];exact e2.symm)
   rw[fO] at e1;have z:=ss x b.1 b.2;refine⟨b,?_⟩;rw[<-e1];have l:([]:List Int).count x < w2 x+0:=l;simp at l;show s.count x < w x+w2 x+arv qv x as s;omega
  | cons y r =>
   rw[dO,pU] at e2;obtain⟨rfl,e2⟩:=e2;obtain⟨b,l⟩:=hs p x r e1;refine⟨b,?_⟩;show p.count x < w x+w2 x+_;omega
omit h ha in
theorem Stb.append{w2:Int->Nat}{s t:List Int}(ss:Stb qv as w s)(st:Stb qv (go qv as s) w2 t):Stb qv as (fun x=>w x+w2 x) (s++t):=fun x x0 x1=>by
 have a:=ss x x0 x1;have b:=st x x0 x1;rw[eN,yu];show _=w x+w2 x+_;omega
end
theorem aon(qv:LL9)(as:List Int)(k:Int)(t:Nat):vis qv as k (t+1)=vis qv as k t++[(run qv as k t).2]:=by
 unfold vis;rw[iI,cI];rfl
theorem ahf(qv:LL9)(as:List Int)(k:Int):∀t,go qv as (vis qv as k t)=(run qv as k t).1
 | 0=>rfl
 | t+1=>by
  rw[aon,uc,ahf qv as k t];rfl
theorem amu(qv:LL9)(as:List Int)(k d:Int):∀t,(vis qv as k t).count d+(if (run qv as k t).2=d then 1 else 0)=(if k=d then 1 else 0)+arv qv d as (vis qv as k t)
 | 0=>by
  show 0+(if k=d then 1 else 0)=(if k=d then 1 else 0)+0
  omega
 | t+1=>by
  have ih:=amu qv as k d t;rw[aon,eN,yu,ahf,ji];show(vis qv as k t).count d+(([]:List Int).count d+(if (run qv as k t).2=d then 1 else 0))+(if led qv (run qv as k t).1 (run qv as k t).2=d then 1 else 0)=(if k=d then 1 else 0)+(arv qv d as (vis qv as k t)+((if led qv (run qv as k t).1 (run qv as k t).2=d then 1 else 0)+0))
  have z:([]:List Int).count d=0:=rfl;omega
def at1(k:Int):Int->Nat:=fun x=>if k=x then 1 else 0
section
variable{qv:LL9}(h:Hs qv){as:List Int}(ha:Arr qv as){k:Int}(h0:0<=k)(h1:k < (qv.length:Int)){T:Nat}(hp:∀i < T,0<=(run qv as k i).2)
include h ha h0 h1 hp
theorem a2p:Lg qv as (at1 k) (vis qv as k T):=fun p x q e=>by
 have hl:(vis qv as k T).length=T:=by simp[vis]
 have hpl:p.length < T:=by
  rw[<-hl,e,dF,cG];omega
 have ep:p=vis qv as k p.length:=by
  have:(vis qv as k T).take p.length=p:=by rw[e];exact List.take_left' rfl
  have e2:(vis qv as k T).take p.length=vis qv as k p.length:=by
   unfold vis;rw[<-uK,List.take_range,sO (by omega)]
  rw[<-e2,this]
 have ex:x=(run qv as k p.length).2:=by
  have:(vis qv as k T)[p.length]? = some x:=by rw[e,iQ (aL _),Nat.sub_self];rfl
  unfold vis at this;rw[bA,cB hpl] at this;exact(bU this).symm
 have p0:=hp _ hpl;have p1:=(ab4 h ha h0 h1 p.length fun j hj=>hp j (by omega)).2.2
 have b:=amu qv as k x p.length;rw[<-ep,<-ex,if_pos rfl] at b;refine⟨by rw[ex];exact⟨p0,p1⟩,?_⟩
 show p.count x < (if k=x then 1 else 0)+_
 omega
omit h ha h0 h1 hp in
theorem arp(hn:(run qv as k T).2 < 0):Stb qv as (at1 k) (vis qv as k T):=fun x x0 x1=>by
 have b:=amu qv as k x T;rw[if_neg (by omega)] at b
 exact b
end
inductive Led (qv:LL9):List Int->List Int->List Int->Prop
 | nil (as:List Int):Led qv as [] []
 | cons {as:List Int} {k:Int} {T:Nat} {rs s:List Int} (h0:0<=k) (h1:k < (qv.length:Int)) (hp:∀i < T,0<=(run qv as k i).2) (hn:(run qv as k T).2 < 0) (t:Led qv (run qv as k T).1 rs s):Led qv as (k::rs) (vis qv as k T++s)
theorem Led.ok{qv:LL9}(h:Hs qv){as rs s:List Int}(l:Led qv as rs s):Arr qv as->Lg qv as (fun x=>rs.count x) s/\Stb qv as (fun x=>rs.count x) s:=by
 induction l with
 | nil as =>
  intro _;exact⟨fun p x q e=>by simp at e,fun x _ _=>rfl⟩
 | @cons as k T rs s h0 h1 hp hn t ih =>
  intro ha;obtain⟨l1,l2⟩:=ih (ab4 h ha h0 h1 T hp).1;rw[<-ahf] at l1 l2;have a1:=(a2p h ha h0 h1 hp).append h ha (arp hn) l1;have a2:=(arp hn).append l2;have e:(fun x=>at1 k x+rs.count x)=fun x=>(k::rs).count x:=by
   funext x
   rw[ji];unfold at1;omega
  rw[e] at a1 a2;exact⟨a1,a2⟩
theorem Lg.nil{qv:LL9}{as:List Int}{w:Int->Nat}:Lg qv as w []:=fun p x q e=>by simp at e
theorem Lg.snoc{qv:LL9}{as:List Int}{w:Int->Nat}{s:List Int}(l:Lg qv as w s){x:Int}(x0:0<=x)(x1:x < (qv.length:Int))(h:s.count x < w x+arv qv x as s):Lg qv as w (s++[x]):=fun p y q e=>by
 rcases tY.mp e with⟨r,e1,e2⟩ | ⟨r,e1,e2⟩
 ·cases r with
  | nil =>
   rw[bL,pU] at e2;rw[fO] at e1;subst e1;rw[<-e2.1];exact⟨⟨x0,x1⟩,h⟩
  | cons z r=>simp at e2
 ·cases r with
  | nil =>
   rw[bL] at e2;rw[fO] at e1;subst e1;have e3:=(pU ..).mp e2;rw[e3.1];exact⟨⟨x0,x1⟩,h⟩
  | cons z r =>
   rw[dO,pU] at e2;obtain⟨rfl,e2⟩:=e2;exact l p y r e1
def NN(qv:LL9)(as:List Int)(w:Int->Nat)(s:List Int):Prop:=∀x,0<=x->x < (qv.length:Int)->s.count x<=w x+arv qv x as s
theorem NN.nil{qv:LL9}{as:List Int}{w:Int->Nat}:NN qv as w []:=fun x _ _=>eF _
theorem NN.snoc{qv:LL9}{as:List Int}{w:Int->Nat}{s:List Int}(l:NN qv as w s){x:Int}(h:s.count x < w x+arv qv x as s):NN qv as w (s++[x]):=fun y y0 y1=>by
 have:=l y y0 y1;rw[eN,ji,yu]
 by_cases e:x=y
 ·subst e;rw[if_pos rfl];have z:([]:List Int).count x=0:=rfl;omega
 ·rw[if_neg e];have z:([]:List Int).count y=0:=rfl;omega
theorem aj2{qv:LL9}:∀{s:List Int},InR qv s->s.length=((upto qv.length).map fun y=>s.count y).sum
 | [],_=>by
  symm
  rw[aco (fun y=>([]:List Int).count y) (fun _=>0) _ fun x _=>rfl]
  generalize upto qv.length=l
  induction l with
  | nil=>rfl
  | cons x l ih=>rw[aV,cA,ih];rfl
 | x::s,hs=>by
  have hx:=hs x (aR ..);have ih:=aj2 (s:=s) fun z hz=>hs z (aN _ hz)
  rw[cG,ih]
  symm
  rw[ajb (fun y=>(x::s).count y) (fun y=>s.count y) x 1 (by rw[ji,if_pos rfl];omega) _ (ae5 _) (ad7 hx.1 hx.2) fun y hy e=>by rw[ji,if_neg (fU e)];rfl]
  omega
theorem a5f{qv:LL9}{s t:List Int}(hs:InR qv s)(ht:InR qv t)(h:∀x,s.count x<=t.count x):s.length<=t.length:=by
 rw[aj2 hs,aj2 ht];exact agf _ _ _ fun x _=>h x
section
variable{qv:LL9}(h:Hs qv)(hop:trapI qv=[]){W:Nat}(hW1:1<=W)(hw:∀r∈qv,r.length<=W)
include h hop hW1 hw
theorem aym:∀(rs:List Int) {as:List Int},Arr qv as->InR qv rs->∃s,Led qv as rs s/\s.length<=rs.length*sx W qv.length
 | [],as,ha,_=>⟨[],.nil _,eF _⟩
 | k::rs,as,ha,hr=>by
  have hk:=hr k (aR ..);obtain⟨T,t1,t2,hp,hn⟩:=aom h ha hk.1 hk.2 hW1 hop hw;obtain⟨s,l,hs⟩:=aym rs (ab4 h ha hk.1 hk.2 T hp).1 fun y hy=>hr y (aN _ hy)
  refine⟨vis qv as k T++s,.cons hk.1 hk.2 hp hn l,?_⟩;have hv:(vis qv as k T).length=T:=by simp[vis]
  rw[dF,hv,cG,pK];omega
end
def rowW(ws:List Int):Nat->List Int
 | 0=>[]
 | j+1=>rowW ws j++aU (ws.getD j 0).toNat ((j:Nat):Int)
theorem ajn(ws:List Int):∀n,∀x∈rowW ws n,0<=x/\x < (n:Int)
 | 0,x,hx=>by cases hx
 | n+1,x,hx=>by
  rcases cX.mp hx with q | q
  ·have:=ajn ws n x q;omega
  ·have:=(List.mem_replicate.mp q).2;omega
theorem acq(ws:List Int):∀(n:Nat) (i:Nat),(rowW ws n).count ((i:Nat):Int)=if i < n then (ws.getD i 0).toNat else 0
 | 0,i=>by simp[rowW]
 | n+1,i=>by
  show(rowW ws n++aU (ws.getD n 0).toNat ((n:Nat):Int)).count ((i:Nat):Int)=_;rw[eN,acq ws n i,qG]
  by_cases e:i=n
  ·subst e;simp
  ·have e2:¬((n:Nat):Int)=((i:Nat):Int):=by omega
   have e3:(((n:Nat):Int)==((i:Nat):Int))=false:=beq_eq_false_iff_ne.mpr e2;rw[e3];simp only[jN,if_false,Nat.add_zero]
   by_cases q:i < n
   ·rw[if_pos q,if_pos (by omega)]
   ·rw[if_neg q,if_neg (by omega)]
theorem aou(ws:List Int)(b:Nat)(hw:∀w∈ws,w<=(b:Int)):∀n,(rowW ws n).length<=b*n
 | 0=>eF _
 | n+1=>by
  have ih:=aou ws b hw n;have:(ws.getD n 0).toNat<=b:=by
   rw[aM];cases q:ws[n]? with
   | none=>exact eF _
   | some w =>
    have:=hw w (gQ q);show w.toNat<=b;omega
  show(rowW ws n++aU (ws.getD n 0).toNat ((n:Nat):Int)).length<=_;rw[dF,mF,Nat.mul_succ];omega
def wf(ws:List Int):Int->Nat:=fun x=>(ws.getD x.toNat 0).toNat
theorem most{qv:LL9}(h:Hs qv)(hop:trapI qv=[]){W:Nat}(hW1:1<=W)(hw:∀r∈qv,r.length<=W){as ws:List Int}(ha:Arr qv as){b:Nat}(hb:∀w∈ws,w<=(b:Int)) :
  ∃S,Lg qv as (wf ws) S/\Stb qv as (wf ws) S/\∀s,Lg qv as (wf ws) s->s.length<=b*qv.length*sx W qv.length:=by
 obtain⟨S,l,hl⟩:=aym h hop hW1 hw (rowW ws qv.length) ha (ajn ws qv.length);obtain⟨a1,a2⟩:=l.ok h ha;have hc:∀x,0<=x->x < (qv.length:Int)->(rowW ws qv.length).count x=wf ws x:=fun x x0 x1=>by
  have:=acq ws qv.length x.toNat;rw[if_pos (by omega),show((x.toNat:Nat):Int)=x by omega] at this
  exact this
 have b1:Lg qv as (wf ws) S:=fun p x q e=>by
  obtain⟨c1,c2⟩:=a1 p x q e;exact⟨c1,by rw[<-hc x c1.1 c1.2];exact c2⟩
 have b2:Stb qv as (wf ws) S:=fun x x0 x1=>by rw[<-hc x x0 x1];exact a2 x x0 x1
 refine⟨S,b1,b2,fun s hs =>?_⟩
 have z:=a5f hs.inR b1.inR (alv h ha hs b1.inR fun x x0 x1=>pM (b2 x x0 x1).symm)
 have r:=aou ws b hb qv.length;exact cL z (cL hl (vH _ r))
def ldo(qv:LL9)(as:List Int)(x:Int)(m:Nat):Int:=(dr qv x).getD ((ar as x+((m:Int) - 1)) % ((dr qv x).length:Int)).toNat 0
theorem azd(qv:LL9)(as:List Int)(x:Int){m n:Nat}(hm:m < n):us qv as x (ldo qv as x n) m < us qv as x (ldo qv as x n) n:=by
 obtain⟨n,rfl⟩:∃k,n=k+1:=⟨n - 1,by omega⟩
 have e:us qv as x (ldo qv as x (n+1)) (n+1)=us qv as x (ldo qv as x (n+1)) n+1:=by
  show us qv as x (ldo qv as x (n+1)) n+(if (dr qv x).getD ((ar as x+(n:Int)) % ((dr qv x).length:Int)).toNat 0=ldo qv as x (n+1) then 1 else 0)=_
  rw[if_pos];unfold ldo;rw[show(((n+1:Nat):Int) - 1)=(n:Int) by omega]
 have:=amv qv as x (ldo qv as x (n+1)) (show m<=n by omega)
 omega
theorem aop(f g:Int->Nat)(x:Int)(hx:f x < g x):∀l:List Int,x∈l->(∀y∈l,f y<=g y)->(l.map f).sum < (l.map g).sum
 | [],h,_=>by cases h
 | y::l,h,hs=>by
  rw[aV,aV,cA,cA];have h1:=agf f g l fun z hz=>hs z (aN _ hz)
  have h2:=hs y (aR ..);rcases bD.mp h with rfl | h
  ·omega
  ·have:=aop f g x hx l h fun z hz=>hs z (aN _ hz)
   omega
section
variable{qv:LL9}(h:Hs qv)
include h
theorem ap1:∀(s:List Int) {as:List Int},Arr qv as->InR qv s->s.length=((upto qv.length).map fun d=>arv qv d as s).sum+(arv qv (-1) as s+arv qv (-2) as s+arv qv (-3) as s)
 | [],as,_,_=>by
  have:((upto qv.length).map fun d=>arv qv d as []).sum=0:=by
   generalize upto qv.length=l
   induction l with
   | nil=>rfl
   | cons x l ih=>rw[aV,cA,ih];rfl
  rw[this];rfl
 | x::s,as,ha,hs=>by
  have hx:=hs x (aR ..);have ih:=ap1 s (aet h ha hx.1 hx.2) fun y hy=>hs y (aN _ hy)
  have hd:=ayl h ha hx.1 hx.2;have ea:∀d,arv qv d as (x::s)=(if led qv as x=d then 1 else 0)+arv qv d (gone qv as x) s:=fun d=>rfl
  rw[cG,ih,ea (-1),ea (-2),ea (-3)]
  by_cases q:0<=led qv as x
  ·rw[if_neg (by omega),if_neg (by omega),if_neg (by omega)]
   have e:=ajb (fun d=>arv qv d as (x::s)) (fun d=>arv qv d (gone qv as x) s) (led qv as x) 1 (by rw[ea,if_pos rfl]) (upto qv.length) (ae5 _) (ad7 q hd.2) fun y _ hy=>by rw[ea,if_neg (fU hy)];omega
   rw[e];omega
  ·have e:=aco (fun d=>arv qv d as (x::s)) (fun d=>arv qv d (gone qv as x) s) (upto qv.length) fun y hy=>by
    have:=j4 hy;rw[ea,if_neg (by omega)]
    omega
   rw[e];have:led qv as x = -1∨led qv as x = -2∨led qv as x = -3:=by omega
   rcases this with z | z | z <;> rw[z] <;> simp <;> omega
variable{as:List Int}(ha:Arr qv as){w:Int->Nat}
include ha
theorem avv{t:List Int}(ht:InR qv t)(st:Stb qv as w t):((upto qv.length).map w).sum=arv qv (-1) as t+arv qv (-2) as t+arv qv (-3) as t:=by
 have e1:=ap1 h t ha ht;have e2:=aj2 (qv:=qv) ht;have e3:=aco (fun y=>t.count y) (fun y=>w y+arv qv y as t) (upto qv.length) fun y hy=>st y (j4 hy).1 (j4 hy).2
 have e4:∀l:List Int,(l.map fun y=>w y+arv qv y as t).sum=(l.map w).sum+(l.map fun y=>arv qv y as t).sum:=fun l=>by
  induction l with
  | nil=>rfl
  | cons x l ih=>rw[aV,aV,aV,cA,cA,cA,ih];omega
 rw[e3,e4] at e2;omega
theorem aqq{S t:List Int}(lS:Lg qv as w S)(sS:Stb qv as w S)(ht:InR qv t)(st:Stb qv as w t):(∀x,S.count x<=t.count x)/\∀x,S.count x < t.count x->0<=ldo qv as x (t.count x)/\S.count (ldo qv as x (t.count x)) < t.count (ldo qv as x (t.count x)):=by
 have le:=fun x=>alv h ha lS ht (fun x a b=>pM (st x a b).symm) x
 refine⟨le,fun x hx =>?_⟩
 have hxr:0<=x/\x < (qv.length:Int):=bF fun q=>by
  rw[ht.count q] at hx;omega
 have ul:=azd qv as x hx;have hd : -3<=ldo qv as x (t.count x)/\ldo qv as x (t.count x) < (qv.length:Int):=by
  obtain⟨w1,w2,w3⟩:=h.dr hxr.1 hxr.2;apply w3;unfold ldo;have hk:((ar as x+((t.count x:Int) - 1)) % ((dr qv x).length:Int)).toNat < (dr qv x).length:=by
   have a:=gA (ar as x+((t.count x:Int) - 1)) (show(0:Int) < ((dr qv x).length:Int) by omega)
   have b:=iZ (ar as x+((t.count x:Int) - 1)) (show((dr qv x).length:Int)≠0 by omega)
   omega
  rw[aM,aF hk];exact cZ hk
 generalize ldo qv as x (t.count x)=d at *;have ar:arv qv d as S < arv qv d as t:=by
  rw[ah1 h d S ha lS.inR,ah1 h d t ha ht];exact aop _ _ x ul _ (ad7 hxr.1 hxr.2) fun y _=>amv qv as y d (le y)
 by_cases q:0<=d
 ·refine⟨q,?_⟩;have a:=sS d q hd.2;have b:=st d q hd.2;omega
 ·exfalso;have a:=avv h ha lS.inR sS;have b:=avv h ha ht st;have al:=fun d=>ay9 h ha lS.inR ht (fun y _ _=>le y) d
  have a1:=al (-1);have a2:=al (-2);have a3:=al (-3);have:d = -1∨d = -2∨d = -3:=by omega
  rcases this with rfl | rfl | rfl <;> omega
omit ha in
theorem Lg.nn{S:List Int}(l:Lg qv as w S):∀p q,S=p++q->NN qv as w p:=fun p=>by
 induction hk:p.length generalizing p with
 | zero =>
  intro q _;rw[rW hk];exact .nil
 | succ k ih =>
  intro q e;rcases List.eq_nil_or_concat p with rfl | ⟨p',x,rfl⟩
  ·cases hk
  ·rw[List.concat_eq_append] at *;have hl:p'.length=k:=by simp at hk;exact hk
   have e2:S=p'++x::q:=by rw[e,dB];rfl
   exact(ih p' hl (x::q) e2).snoc (l p' x q e2).2
theorem aqd{S:List Int}(lS:Lg qv as w S)(sS:Stb qv as w S)(D:Int->Prop)(hD:∀x,D x->0<=x/\x < (qv.length:Int)/\0 < S.count x/\D (ldo qv as x (S.count x)))(x:Int)(hx:D x):False:=by
 classical
 have ex:∀S':List Int,(∃y∈S',D y)->∃p y q,S'=p++y::q/\D y/\∀z∈q,¬D z:=fun S'=>by
  induction S' with
  | nil=>rintro⟨y,hy,_⟩;cases hy
  | cons a S' ih =>
   rintro⟨y,hy,hd⟩
   by_cases q:∃y∈S',D y
   ·obtain⟨p,y,r,e,a1,a2⟩:=ih q;exact⟨a::p,y,r,by rw[e];rfl,a1,a2⟩
   ·rcases bD.mp hy with rfl | hy
    ·exact⟨[],y,S',rfl,hd,fun z hz hz'=>q ⟨z,hz,hz'⟩⟩
    ·exact absurd ⟨y,hy,hd⟩ q
 obtain⟨p,y,q,e,hy,hq⟩:=ex S ⟨x,wL.mp (hD x hx).2.2.1,hx⟩;obtain⟨y0,y1,y2,y3⟩:=hD y hy;obtain⟨_,hleg⟩:=lS p y q e;have hpin:InR qv p:=fun z hz=>lS.inR z (by rw[e];exact gB _ hz)
 have cq:q.count y=0:=qU.mpr fun z=>hq y z hy
 have cS:S.count y=p.count y+1:=by rw[e,eN,ji,if_pos rfl,cq]
 have eled:led qv (go qv as p) y=ldo qv as y (S.count y):=by
  unfold led ldo;rw[akr h y0 y1 p ha hpin,cS];rw[show(((p.count y+1:Nat):Int) - 1)=(p.count y:Int) by omega]
 rw[<-eled] at y3;obtain⟨d0,d1,d2,_⟩:=hD _ y3;obtain⟨d,hd⟩:∃d,led qv (go qv as p) y=d:=⟨_,rfl⟩
 rw[hd] at y3 d0 d1;have nn:=lS.nn h p (y::q) e d d0 d1;have c2:q.count d=0:=qU.mpr fun z=>hq d z y3
 have e3:arv qv d as S=arv qv d as p+(1+arv qv d (gone qv (go qv as p) y) q):=by
  rw[e,yu];show arv qv d as p+((if led qv (go qv as p) y=d then 1 else 0)+_)=_
  rw[if_pos hd]
 have e4:S.count d=p.count d+(0+if y=d then 1 else 0):=by rw[e,eN,ji,c2]
 have s:=sS d d0 d1;rw[e3,e4] at s
 by_cases z:y=d
 ·subst z;rw[if_pos rfl] at s;omega
 ·rw[if_neg z] at s;omega
end
def code:List Int->Int
 | []=>0
 | a::r=>a+6*code r
theorem ava:∀{l:List Int},(∀a∈l,0<=a/\a < 6)->0<=code l/\code l < ((6 ^ l.length:Nat):Int)
 | [],_=>⟨Int.le_refl 0,by show(0:Int) < ((6 ^ 0:Nat):Int);decide⟩
 | a::r,h=>by
  obtain⟨h1,h2⟩:=ava (l:=r) fun x hx=>h x (aN _ hx)
  have h3:=h a (aR ..);have e:6 ^ (a::r).length=6*6 ^ r.length:=by rw[cG,Nat.pow_succ,nD]
  rw[e];show 0<=a+6*code r/\a+6*code r < _;generalize 6 ^ r.length=q at *;constructor <;> omega
theorem code_inj:∀{l m:List Int},l.length=m.length->(∀a∈l,0<=a/\a < 6)->(∀a∈m,0<=a/\a < 6)->code l=code m->l=m
 | [],[],_,_,_,_=>rfl
 | [],_::_,h,_,_,_=>by simp at h
 | _::_,[],h,_,_,_=>by simp at h
 | a::r,b::t,h,h1,h2,e=>by
  have a1:=h1 a (aR ..);have b1:=h2 b (aR ..);have e:a+6*code r=b+6*code t:=e;have hab:a=b:=by omega
  have hr:code r=code t:=by omega
  rw[hab,code_inj (by simpa using h) (fun x hx=>h1 x (aN _ hx)) (fun x hx=>h2 x (aN _ hx)) hr]
theorem aoj{qv:LL9}(h:Hs qv){bs:List Int}(hb:Arr qv bs):∀a∈bs,0<=a/\a < 6:=fun a ha=>by
 obtain⟨i,hi,rfl⟩:=gR.mp ha;have hr:i < qv.length:=by rw[<-hb.len];exact hi
 have h1:=hb.ok i bs[i] qv[i] (aF hi) (aF hr);have h2:=(h.room qv[i] (cZ hr)).2.1;omega
theorem ag1(qv:LL9)(as:List Int)(k:Int){i j:Nat}(e:run qv as k i=run qv as k j):∀m,run qv as k (i+m)=run qv as k (j+m)
 | 0=>e
 | m+1=>by
  have ih:=ag1 qv as k e m;show(gone qv (run qv as k (i+m)).1 (run qv as k (i+m)).2,led qv (run qv as k (i+m)).1 (run qv as k (i+m)).2)=(gone qv (run qv as k (j+m)).1 (run qv as k (j+m)).2,led qv (run qv as k (j+m)).1 (run qv as k (j+m)).2);rw[ih]
theorem aij{qv:LL9}(h:Hs qv)(f:Nat->List Int×Int)(hf:∀i,i<=10*6 ^ qv.length->Arr qv (f i).1/\0<=(f i).2/\(f i).2 < (qv.length:Int)):∃i j,i < j/\j<=10*6 ^ qv.length/\f i=f j:=by
 have hm:=h.most;have cd:∀i,i<=10*6 ^ qv.length->0<=code (f i).1/\code (f i).1 < ((6 ^ qv.length:Nat):Int):=fun i hi=>by
  have a:=(hf i hi).1;have:=ava (aoj h a);rw[a.len] at this;exact this
 obtain⟨i,j,hij,hj,e⟩:=pig (fun i=>10*code (f i).1+(f i).2) (10*6 ^ qv.length) fun i hi=>by
  have a:=hf i hi;have b:=cd i hi;generalize 6 ^ qv.length=q6 at *;constructor <;> omega
 have ai:=hf i (by omega)
 have aj:=hf j hj;have e:10*code (f i).1+(f i).2=10*code (f j).1+(f j).2:=e;have e1:(f i).2=(f j).2:=by omega
 have e2:(f i).1=(f j).1:=code_inj (by rw[ai.1.len,aj.1.len]) (aoj h ai.1) (aoj h aj.1) (by omega)
 exact⟨i,j,hij,hj,Prod.ext e2 e1⟩
def fo(r:Int)(L:List Int)(x:Int):Int:=if 0<=x then L.getD x.toNat 0 else r
def itF(r:Int)(L:List Int)(x:Int):Nat->Int
 | 0=>x
 | m+1=>itF r L (fo r L x) m
theorem aj4(r:Int)(L:List Int):∀(s t:Nat) (x:Int),itF r L x (s+t)=itF r L (itF r L x s) t
 | 0,t,x=>by rw[cN];rfl
 | s+1,t,x=>by
  rw[show s+1+t=(s+t)+1 by omega]
  exact aj4 r L s t (fo r L x)
theorem aer(r:Int)(L:List Int)(x:Int)(m:Nat):itF r L x (m+1)=fo r L (itF r L x m):=aj4 r L m 1 x
def InN(L:List Int)(x:Int):Prop := -3<=x/\x < (L.length:Int)
def agd(r:Int)(L:List Int)(p:Int):Prop:=∀x,InN L x->∃m,itF r L x m=p
section
variable{L:List Int}(w:Ways L){r:Int}(r0:0<=r)(r1:r < (L.length:Int))
include w r0 r1
theorem a5y{x:Int}(hx:InN L x):InN L (fo r L x):=by
 unfold fo;split
 ·rename_i h0;have hk:x.toNat < L.length:=by have:=hx.2;omega
  rw[aM,aF hk];exact w.ok _ (cZ hk)
 ·exact⟨by omega,r1⟩
theorem apg:∀(m:Nat) {x:Int},InN L x->InN L (itF r L x m)
 | 0,_,h=>h
 | m+1,_,h=>apg m (a5y w r0 r1 h)
theorem ayt{p d:Int}(p0:0<=p)(p1:p < (L.length:Int))(x:Int):fo r (L.set p.toNat d) x=if x=p then d else fo r L x:=by
 unfold fo
 by_cases hx:x=p
 ·subst hx;have hk:x.toNat < L.length:=by omega
  rw[if_pos p0,if_pos rfl,aM,bG];simp[hk]
 ·rw[if_neg hx]
  by_cases h0:0<=x
  ·have:p.toNat≠x.toNat:=by omega
   rw[if_pos h0,if_pos h0,aM,bG,if_neg this,<-aM]
  ·rw[if_neg h0,if_neg h0]
theorem anx{p d:Int}(p0:0<=p)(p1:p < (L.length:Int)):∀(m:Nat) {x:Int},(∀i < m,itF r L x i≠p)->itF r (L.set p.toNat d) x m=itF r L x m
 | 0,_,_=>rfl
 | m+1,x,h=>by
  have h0:x≠p:=h 0 (by omega)
  show itF r (L.set p.toNat d) (fo r (L.set p.toNat d) x) m=itF r L (fo r L x) m;rw[ayt w r0 r1 p0 p1,if_neg h0];exact anx p0 p1 m fun i hi=>h (i+1) (by omega)
theorem arb{p d:Int}(p0:0<=p)(p1:p < (L.length:Int))(h:agd r L p):agd r (L.set p.toNat d) d:=fun x hx=>by
 have hx:InN L x:=by unfold InN at *;rw[dD] at hx;exact hx
 obtain⟨m0,e0⟩:=h x hx;obtain⟨m,e,hmin⟩:=least (P:=fun m=>itF r L x m=p) m0 e0
 refine⟨m+1,?_⟩;rw[aer,anx w r0 r1 p0 p1 m hmin,e,ayt w r0 r1 p0 p1,if_pos rfl]
theorem asq{x z:Int}(hx:InN L x)(h:Rch (lp L) x z):InN L z/\∃m,itF r L x m=z:=by
 induction h with
 | base=>exact⟨hx,0,rfl⟩
 | step _ h0 hd ih =>
  obtain⟨hin,m,e⟩:=ih;rw[ama h0 hin.2,bY] at hd;have:fo r L (itF r L x m)=L.getD (itF r L x m).toNat 0:=if_pos (by rw[e];exact h0)
  have e2:itF r L x (m+1)=L.getD (itF r L x m).toNat 0:=by rw[aer,this]
  rw[e] at e2;rw[hd];exact⟨by rw[<-e2];exact apg w r0 r1 _ hx,m+1,e2⟩
theorem ai4(hf:trapI (lp L)=[]):agd r L r:=fun x hx=>by
 by_cases h0:0<=x
 ·have nc:caught (lp L) x≠true:=fun c=>by
   have:x∈trapI (lp L):=bQ.mpr ⟨by
    unfold upto;rw[aae];exact bV.mpr ⟨x.toNat,cR.mpr (by have:=hx.2;omega),by omega⟩,c⟩
   rw[hf] at this;cases this
  rw[Ne,jf] at nc;have:∃z,Rch (lp L) x z/\z < 0:=by
   apply bF;intro H;refine nc fun z hz =>?_
   rcases gJ z 0 with q | q
   ·exact absurd ⟨z,hz,q⟩ H
   ·exact q
  obtain⟨z,hz,zn⟩:=this;obtain⟨_,m,e⟩:=asq w r0 r1 hx hz;refine⟨m+1,?_⟩;rw[aer,e];exact if_neg (by omega)
 ·exact⟨1,if_neg h0⟩
theorem aun{x:Int}(hx:InN L x){m:Nat}(hm:itF r L x m < 0):∃i,i<=m/\itF r L x i < 0/\∀j < i,0<=itF r L x j:=by
 obtain⟨i,hi,hmin⟩:=least (P:=fun i=>itF r L x i < 0) m hm
 refine⟨i,?_,hi,fun j hj =>?_⟩
 ·rcases jQ m i with q | q
  ·exact absurd hm (hmin m q)
  ·exact q
 ·have:¬itF r L x j < 0:=hmin j hj;omega
theorem at3{x:Int}(hx:InN L x):∀m,(∀j < m,0<=itF r L x j)->Rch (lp L) x (itF r L x m)
 | 0,_=>.base
 | m+1,h=>by
  have ih:=at3 hx m fun j hj=>h j (by omega)
  have h0:=h m (by omega)
  have hin:=apg w r0 r1 m hx;rw[aer];refine .step ih h0 ?_;rw[ama h0 hin.2,bY];exact if_pos h0
theorem auh{g:Int}(hg:g < 0)(h:agd r L g):trapI (lp L)=[]:=by
 unfold trapI;refine uQ.mpr fun x hx hc =>?_
 rw[aae] at hx;have hx':=j4 hx;have hin:InN L x:=⟨by omega,hx'.2⟩
 obtain⟨m,e⟩:=h x hin;obtain⟨i,_,hi,hj⟩:=aun w r0 r1 hin (m:=m) (by rw[e];exact hg)
 have:=(jf (lp L) x).mp hc _ (at3 w r0 r1 hin i hj);omega
end
theorem aw0{a w:Int}(h0:0<=a)(h1:a < w):((a+1) % w - 1) % w=a:=by
 rcases gJ (a+1) w with q | q
 ·rw[cP (by omega) q,show a+1 - 1=a by omega,cP h0 h1]
 ·have e0:a+1=w:=by omega
  have e:=lU (-1) w;rw[e0,uN,show(0:Int) - 1 = -1 by omega,<-e,cP (by omega) (by omega)]
  omega
theorem aep{qv:LL9}{as:List Int}{i:Nat}(hi:i < qv.length):(lasts qv as)[i]? = some (aak qv as (i:Int)):=by
 unfold lasts;rw[bA,cB hi];rfl
section
variable{qv:LL9}(h:Hs qv){bs:List Int}(hb:Arr qv bs){p:Int}(p0:0<=p)(p1:p < (qv.length:Int))
include h hb p0 p1
theorem aqw:aak qv (gone qv bs p) p=led qv bs p:=by
 have a:=hb.at p0 p1;have hl:=hb.len;unfold aak wd led;rw[aah (by omega),aw0 a.1 a.2]
theorem aip:lasts qv (gone qv bs p)=(lasts qv bs).set p.toNat (led qv bs p):=by
 apply jY;intro i
 by_cases hi:i < qv.length
 ·rw[aep hi,bG]
  by_cases q:p.toNat=i
  ·rw[if_pos q,if_pos (by rw[gm];omega)]
   have:((i:Nat):Int)=p:=by omega
   rw[this,aqw h hb p0 p1]
  ·rw[if_neg q,aep hi];unfold aak;rw[ac1 (by omega) p0 (by omega)]
 ·rw[dX (by rw[gm];omega),dX (by rw[dD,gm];omega)]
theorem aqv(d:Int):((lasts qv bs).set p.toNat d).set p.toNat (aak qv bs p)=lasts qv bs:=by
 rw[uY];apply jY;intro i;rw[bG]
 by_cases q:p.toNat=i
 ·rw[if_pos q,if_pos (by rw[gm];omega),aep (by omega)]
  have:((i:Nat):Int)=p:=by omega
  rw[this]
 ·rw[if_neg q]
end
section
variable{qv:LL9}(h:Hs qv){as:List Int}(ha:Arr qv as){k:Int}(h0:0<=k)(h1:k < (qv.length:Int))(hf:trapI (lp (lasts qv as))=[])
include h ha h0 h1 hf
theorem ak4:∀t:Nat,(∀i < t,0<=(run qv as k i).2)->agd k (lasts qv (run qv as k t).1) (run qv as k t).2
 | 0,_=>ai4 (j7 h ha) h0 (by rw[gm];exact h1) hf
 | t+1,hp=>by
  have hp':∀i < t,0<=(run qv as k i).2:=fun i hi=>hp i (by omega)
  obtain⟨a1,a2,a3⟩:=ab4 h ha h0 h1 t hp';have ih:=ak4 t hp';have p0:=hp t (by omega)
  show agd k (lasts qv (gone qv (run qv as k t).1 (run qv as k t).2)) (led qv (run qv as k t).1 (run qv as k t).2);rw[aip h a1 p0 a3];exact arb (j7 h a1) h0 (by rw[gm];exact h1) p0 (by rw[gm];exact a3) ih
end
theorem a0z{a w:Int}(h0:0<=a)(h1:a < w):((a - 1) % w+1) % w=a:=by
 rcases gJ a 1 with q | q
 ·have:a=0:=by omega
  subst this;have e:=lU (-1) w;rw[show(0:Int) - 1 = -1 by omega,<-e,cP (show(0:Int) <= -1+w by omega) (by omega),show -1+w+1=w by omega,uN]
 ·rw[cP (show 0<=a - 1 by omega) (by omega),show a - 1+1=a by omega,cP h0 h1]
theorem ajm(qv:LL9)(as:List Int)(k:Int):∀n,run qv as k (n+1)=run qv (gone qv as k) (led qv as k) n
 | 0=>rfl
 | n+1=>by
  have ih:=ajm qv as k n;show(gone qv (run qv as k (n+1)).1 (run qv as k (n+1)).2,led qv (run qv as k (n+1)).1 (run qv as k (n+1)).2)=_;rw[ih];rfl
section
variable{qv:LL9}(h:Hs qv){r:Int}(r0:0<=r)(r1:r < (qv.length:Int))
include h r0 r1
theorem a9z{A:List Int}(hA:Arr qv A){p:Int}(hp:InN (lasts qv A) p)(al:agd r (lasts qv A) p) :
  (p=r/\∃g,g < 0/\agd r (lasts qv A) g)∨∃(B:List Int) (q:Int),Arr qv B/\0<=q/\q < (qv.length:Int)/\gone qv B q=A/\led qv B q=p/\agd r (lasts qv B) q:=by
 have w:=j7 h hA;have k1:r < ((lasts qv A).length:Int):=by rw[gm];exact r1
 obtain⟨m,em⟩:=al (fo r (lasts qv A) p) (a5y w r0 k1 hp);have em:itF r (lasts qv A) p (m+1)=p:=em;have hq:=apg w r0 k1 m hp;have eq1:fo r (lasts qv A) (itF r (lasts qv A) p m)=p:=by rw[<-aer];exact em
 have alq:agd r (lasts qv A) (itF r (lasts qv A) p m):=fun x hx=>by
  obtain⟨m1,e1⟩:=al x hx;exact⟨m1+m,by rw[aj4,e1]⟩
 generalize itF r (lasts qv A) p m=q at *
 by_cases q0:0<=q
 ·right
  have q1:q < (qv.length:Int):=by have:=hq.2;rw[gm] at this;exact this
  have a:=hA.at q0 q1;have hAl:=hA.len;have w0:(0:Int) < ((dr qv q).length:Int):=by omega
  have v0:=iZ (ar A q - 1) (show((dr qv q).length:Int)≠0 by omega)
  have v1:=gA (ar A q - 1) w0;have arx:ar (A.set q.toNat ((ar A q - 1) % ((dr qv q).length:Int))) q=(ar A q - 1) % ((dr qv q).length:Int):=by
   generalize (ar A q - 1) % ((dr qv q).length:Int)=v;unfold ar;rw[aM,bG,if_pos rfl,if_pos (by omega)]
   rfl
  have hB:Arr qv (A.set q.toNat ((ar A q - 1) % ((dr qv q).length:Int))):=⟨by rw[dD];exact hAl,fun i x rr g1 g2=>by
   rw[bG] at g1;split at g1
   ·rename_i hi;split at g1
    ·cases g1;have:dr qv q=rr:=by unfold dr;rw[aM,hi,g2];rfl
     rw[this] at v0 v1 ⊢
     exact⟨v0,v1⟩
    ·cases g1
   ·exact hA.ok i x rr g1 g2⟩
  have hg:gone qv (A.set q.toNat ((ar A q - 1) % ((dr qv q).length:Int))) q=A:=by
   unfold gone;rw[arx,a0z a.1 a.2,uY];apply jY;intro i;rw[bG]
   by_cases z:q.toNat=i
   ·have hk:i < A.length:=by omega
    rw[if_pos z,if_pos (by omega),aF hk]
    unfold ar;rw[z,aM,aF hk];rfl
   ·rw[if_neg z]
  have hl:led qv (A.set q.toNat ((ar A q - 1) % ((dr qv q).length:Int))) q=p:=by
   have e1:fo r (lasts qv A) q=aak qv A q:=by
    unfold fo;rw[if_pos q0,aM,aep (by omega)]
    show aak qv A ((q.toNat:Nat):Int)=aak qv A q;rw[show((q.toNat:Nat):Int)=q by omega]
   rw[eq1] at e1;unfold led;rw[arx,e1];rfl
  refine⟨_,q,hB,q0,q1,hg,hl,?_⟩;have hls:=aip h hB q0 q1;rw[hg,hl] at hls;generalize A.set q.toNat ((ar A q - 1) % ((dr qv q).length:Int))=B at *;intro x hx;have wB:=j7 h hB;have kB:r < ((lasts qv B).length:Int):=by rw[gm];exact r1
  have hxA:InN (lasts qv A) x:=by unfold InN at *;rw[gm] at *;exact hx
  obtain⟨m1,e1⟩:=alq x hxA;obtain⟨m2,e2,hmin⟩:=least (P:=fun m=>itF r (lasts qv A) x m=q) m1 e1
  have hback:=aqv h hB q0 q1 p;rw[<-hls] at hback;refine⟨m2,?_⟩;rw[<-hback];exact(anx w r0 k1 q0 (by rw[gm];exact q1) m2 hmin).trans e2
 ·left
  have:fo r (lasts qv A) q=r:=if_neg q0;exact⟨by rw[<-eq1,this],q,by omega,alq⟩
theorem anu{A:List Int}(hA:Arr qv A)(hf:trapI (lp (lasts qv A))=[]):∃(as:List Int) (T:Nat),Arr qv as/\trapI (lp (lasts qv as))=[]/\T<=10*6 ^ qv.length/\(run qv as r T).1=A/\(run qv as r T).2 < 0/\∀i < T,0<=(run qv as r i).2:=by
 have w:=j7 h hA;have k1:r < ((lasts qv A).length:Int):=by rw[gm];exact r1
 have hin:InN (lasts qv A) r:=⟨by omega,k1⟩
 have al:=ai4 w r0 k1 hf;have hgate:∃g,g < 0/\InN (lasts qv A) g/\agd r (lasts qv A) g:=by
  have nc:caught (lp (lasts qv A)) r≠true:=fun c=>by
   have:r∈trapI (lp (lasts qv A)):=bQ.mpr ⟨by
    unfold upto;rw[aae];exact bV.mpr ⟨r.toNat,cR.mpr (by omega),by omega⟩,c⟩
   rw[hf] at this;cases this
  rw[Ne,jf] at nc;have:∃z,Rch (lp (lasts qv A)) r z/\z < 0:=by
   apply bF;intro H;refine nc fun z hz =>?_
   rcases gJ z 0 with q | q
   ·exact absurd ⟨z,hz,q⟩ H
   ·exact q
  obtain⟨z,hz,zn⟩:=this;obtain⟨zi,m,e⟩:=asq w r0 k1 hin hz;exact⟨z,zn,zi,fun x hx=>by
   obtain⟨m1,e1⟩:=al x hx;exact⟨m1+m,by rw[aj4,e1];exact e⟩⟩
 obtain⟨g,gn,gi,alg⟩:=hgate;have steps:∀N,(∃(as:List Int) (T:Nat),T<=N/\Arr qv as/\trapI (lp (lasts qv as))=[]/\(run qv as r T).1=A/\(run qv as r T).2 < 0/\∀i < T,0<=(run qv as r i).2) ∨
   ∃(as:List Int) (q:Int),Arr qv as/\InN (lasts qv as) q/\agd r (lasts qv as) q/\run qv as q N=(A,g)/\∀i < N,0<=(run qv as q i).2/\(run qv as q i).2 < (qv.length:Int)/\Arr qv (run qv as q i).1:=fun N=>by
  induction N with
  | zero=>exact .inr ⟨A,g,hA,gi,alg,rfl,fun i hi=>by omega⟩
  | succ N ih =>
   rcases ih with⟨as,T,hT,z⟩ | ⟨as,q,ha,qi,aq,e,hp⟩
   ·exact .inl ⟨as,T,by omega,z⟩
   ·rcases a9z h r0 r1 ha qi aq with⟨rfl,g',gn',al'⟩ | ⟨B,q',hB,q0,q1,hg,hl,aB⟩
    ·left
     refine⟨as,N,by omega,ha,auh (j7 h ha) r0 (by rw[gm];exact r1) gn' al',by rw[e],by rw[e];exact gn,fun i hi=>(hp i hi).1⟩
    ·right
     refine⟨B,q',hB,⟨by omega,by rw[gm];exact q1⟩,aB,by rw[ajm,hg,hl];exact e,fun i hi =>?_⟩
     cases i with
     | zero=>exact⟨q0,q1,hB⟩
     | succ i =>
      rw[ajm,hg,hl];exact hp i (by omega)
 rcases steps (10*6 ^ qv.length+1) with⟨as,T,hT,ha,hfr,e1,e2,e3⟩ | ⟨as,q,ha,qi,aq,e,hp⟩
 ·by_cases hT2:T<=10*6 ^ qv.length
  ·exact⟨as,T,ha,hfr,hT2,e1,e2,e3⟩
  ·exfalso;have hm:=h.most;have ok:∀i,i < T->Arr qv (run qv as r i).1/\0<=(run qv as r i).2/\(run qv as r i).2 < (qv.length:Int):=fun i hi=>by
    obtain⟨a,b,c⟩:=ab4 h ha r0 r1 i fun j hj=>e3 j (by omega)
    exact⟨a,e3 i hi,c⟩
   obtain⟨i,j,hij,hj,ee⟩:=aij h (fun i=>run qv as r i) fun i hi=>ok i (by omega)
   have e4:=ag1 qv as r ee (T - j);rw[show j+(T - j)=T by omega] at e4
   have:=e3 (i+(T - j)) (by omega)
   rw[e4] at this;omega
 ·exfalso;obtain⟨i,j,hij,hj,ee⟩:=aij h (fun i=>run qv as q i) fun i hi=>⟨(hp i (by omega)).2.2,(hp i (by omega)).1,(hp i (by omega)).2.1⟩
  have e4:=ag1 qv as q ee (10*6 ^ qv.length+1 - j);rw[show j+(10*6 ^ qv.length+1 - j)=10*6 ^ qv.length+1 by omega,e] at e4
  have:=(hp (i+(10*6 ^ qv.length+1 - j)) (by omega)).1
  rw[e4] at this;have:0<=g:=this;omega
end
theorem amw{qv:LL9}{y:Int}(y0:0<=y)(y1:y < (qv.length:Int))(h:∀z,Rch qv y z->0<=z):y∈trapI qv:=bQ.mpr ⟨by
 unfold upto;exact bV.mpr ⟨y.toNat,cR.mpr (by omega),by omega⟩,(jf qv y).mpr h⟩
abbrev Rw:=Nat->Int
def lap(c:Nat)(F:List Rw->Int):List Rw->List Rw->Int
 | _,[]=>0
 | pre,r::rs=>r c*F (pre++rs) - lap c F (pre++[r]) rs
def det:List Nat->List Rw->Int
 | [],[]=>1
 | [],_::_=>0
 | c::cs,rows=>lap c (det cs) [] rows
def SW(F:List Rw->Int):Prop:=∀p a b q,F (p++a::b::q) = - F (p++b::a::q)
theorem atk{c:Nat}{F:List Rw->Int}(hF:SW F)(a b:Rw):∀(q p1 p2:List Rw),lap c F (p1++a::b::p2) q = - lap c F (p1++b::a::p2) q
 | [],_,_=>by simp[lap]
 | r::q,p1,p2=>by
  have ih:=atk (c:=c) hF a b q p1 (p2++[r]);have e:=hF p1 a b (p2++q);simp only[lap,dB,dO] at ih e ⊢
  rw[ih,e,gP];omega
theorem ayo{c:Nat}{F:List Rw->Int}(hF:SW F)(a b:Rw)(q:List Rw):∀(p pre:List Rw),lap c F pre (p++a::b::q) = - lap c F pre (p++b::a::q)
 | [],pre=>by
  have h:=atk (c:=c) hF a b q pre [];simp only[lap,bL,dB,dO] at h ⊢
  rw[h];omega
 | r::p,pre=>by
  have ih:=ayo (c:=c) hF a b q p (pre++[r]);have e:=hF (pre++p) a b q;simp only[lap,dB,dO] at ih e ⊢
  rw[ih,e,gP];omega
theorem apr:∀cs,SW (det cs)
 | []=>fun p a b q=>by
  have e:∀x:List Rw,x≠[]->det [] x=0:=fun x hx=>by
   cases x with
   | nil=>exact absurd rfl hx
   | cons=>rfl
  rw[e _ (by simp),e _ (by simp)]
  rfl
 | c::cs=>fun p a b q=>ayo (apr cs) a b q p []
def LN(F:List Rw->Int):Prop:=∀p (x y:Int) (a b:Rw) q,F (p++(fun j=>x*a j+y*b j)::q)=x*F (p++a::q)+y*F (p++b::q)
theorem atl{c:Nat}{F:List Rw->Int}(hF:LN F)(x y:Int)(a b:Rw):∀(q p1 p2:List Rw),lap c F (p1++(fun j=>x*a j+y*b j)::p2) q=x*lap c F (p1++a::p2) q+y*lap c F (p1++b::p2) q
 | [],_,_=>by simp[lap]
 | r::q,p1,p2=>by
  have ih:=atl (c:=c) hF x y a b q p1 (p2++[r]);have e:=hF p1 x y a b (p2++q);simp only[lap,dB,dO] at ih e ⊢
  rw[ih,e,iW,oX,oX,fD,fD (r c)];omega
theorem ayp{c:Nat}{F:List Rw->Int}(hF:LN F)(x y:Int)(a b:Rw)(q:List Rw):∀(p pre:List Rw),lap c F pre (p++(fun j=>x*a j+y*b j)::q)=x*lap c F pre (p++a::q)+y*lap c F pre (p++b::q)
 | [],pre=>by
  have h:=atl (c:=c) hF x y a b q pre [];simp only[lap,bL] at h ⊢
  rw[h,Int.add_mul,oX,oX,iT,iT];omega
 | r::p,pre=>by
  have ih:=ayp (c:=c) hF x y a b q p (pre++[r]);have e:=hF (pre++p) x y a b q;simp only[lap,dB,dO] at ih e ⊢
  rw[ih,e,iW,oX,oX,fD,fD (r c)];omega
theorem au3:∀cs,LN (det cs)
 | []=>fun p x y a b q=>by
  have e:∀z:List Rw,z≠[]->det [] z=0:=fun z hx=>by
   cases z with
   | nil=>exact absurd rfl hx
   | cons=>rfl
  rw[e _ (by simp),e _ (by simp),e _ (by simp)]
  simp
 | c::cs=>fun p x y a b q=>ayp (au3 cs) x y a b q p []
theorem aps(cs:List Nat)(a:Rw):∀(q p r:List Rw),det cs (p++a::(q++a::r))=0
 | [],p,r=>by
  have:=apr cs p a a r;simp only[bL];omega
 | x::q,p,r=>by
  have h:=apr cs p a x (q++a::r);have ih:=aps cs a q (p++[x]) r;simp only[dB,dO,bL] at h ih ⊢
  rw[h,ih];rfl
theorem ayy(cs:List Nat)(a:Rw):∀(q p r:List Rw),det cs (p++(q++a::r))=det cs (p++a::(q++r))∨det cs (p++(q++a::r)) = - det cs (p++a::(q++r))
 | [],p,r=>.inl rfl
 | x::q,p,r=>by
  have h:=apr cs p x a (q++r);have ih:=ayy cs a q (p++[x]) r;simp only[dB,dO,bL] at h ih ⊢
  rcases ih with e | e
  ·right;rw[e,h]
  ·left;rw[e,h];omega
def clr(x u:Int)(r k:Rw):Rw:=fun j=>x*r j+(-u)*k j
theorem aoc(C:List Nat)(k:Rw)(x:Int)(u:Rw->Int):∀(rs pre:List Rw),det C (k::(pre++rs.map fun r=>clr x (u r) r k))=x ^ rs.length*det C (k::(pre++rs))
 | [],pre=>by simp
 | r::rs,pre=>by
  have e:=au3 C (k::pre) x (-(u r)) r k (rs.map fun r=>clr x (u r) r k)
  have z:=aps C k pre [] (rs.map fun r=>clr x (u r) r k)
  have ih:=aoc C k x u rs (pre++[r]);simp only[dB,dO,bL,aV,cG] at e z ih ⊢
  show det C (k::(pre++(fun j=>x*r j+(-(u r))*k j)::_))=_
  rw[e,z,ih,fW,jD,pX,cO (x ^ rs.length) x,iT]
theorem apc{c:Nat}{F:List Rw->Int}:∀(rs pre:List Rw),(∀r∈rs,r c=0)->lap c F pre rs=0
 | [],_,_=>rfl
 | r::rs,pre,h=>by
  show r c*F (pre++rs) - lap c F (pre++[r]) rs=0;rw[h r (aR ..),apc rs _ fun x hx=>h x (aN _ hx)]
  simp
theorem chio(c:Nat)(cs:List Nat)(k:Rw)(rs:List Rw):k c*det cs (rs.map fun r=>clr (k c) (r c) r k)=k c ^ rs.length*det (c::cs) (k::rs):=by
 have e:=aoc (c::cs) k (k c) (fun r=>r c) rs []
 rw[bL,bL] at e;rw[<-e];show _=lap c (det cs) [] (k::_);show _=k c*det cs ([]++_) - lap c (det cs) ([]++[k]) _;rw[apc]
 ·simp
 ·intro r hr;obtain⟨r0,_,rfl⟩:=bV.mp hr;show k c*r0 c+(-(r0 c))*k c=0;rw[oW,cO];omega
theorem ahp(cs:List Nat)(x:Int):∀(rs pre:List Rw),det cs (pre++rs.map fun r j=>x*r j)=x ^ rs.length*det cs (pre++rs)
 | [],pre=>by simp
 | r::rs,pre=>by
  have e:=au3 cs pre x 0 r r (rs.map fun r j=>x*r j)
  have ih:=ahp cs x rs (pre++[r]);have z:(fun j=>x*r j+0*r j)=fun j=>x*r j:=by funext j;simp
  rw[z] at e;simp only[dB,dO,bL,aV,cG] at e ih ⊢
  rw[e,ih,eX,jD,pX,cO (x ^ rs.length) x,iT]
def Dvd(d:Int)(n:Nat)(M:Nat->Rw):Prop:=∀(is cs:List Nat),(∀i∈is,i < n)->is≠[]->d ^ (is.length - 1) ∣ det cs (is.map M)
theorem Dvd.one(n:Nat)(M:Nat->Rw):Dvd 1 n M:=fun is cs _ _=>by rw[Int.one_pow];exact Int.one_dvd _
theorem Dvd.two{d:Int}{n:Nat}{M:Nat->Rw}(h:Dvd d n M){i k:Nat}(hi:i < n)(hk:k < n)(c j:Nat):d ∣ M k c*M i j - M i c*M k j:=by
 have:=h [k,i] [c,j] (fun x hx=>by simp at hx;omega) (by simp)
 simp[det,lap] at this;have e:d ^ 1=d:=by rw[pX,Int.pow_zero,mC]
 rwa[e] at this
def stM(d:Int)(k:Nat)(M:Nat->Rw):Nat->Rw:=fun i j=>if i=k then M k j else (M k k*M i j - M i k*M k j) / d
section
variable{d:Int}{n:Nat}{M:Nat->Rw}(h:Dvd d n M){k:Nat}(hk:k < n)(hd:d≠0)
include h hk hd
omit hd in
theorem am0{i:Nat}(hi:i < n)(hne:i≠k)(j:Nat):d*stM d k M i j=M k k*M i j - M i k*M k j:=by
 unfold stM;rw[if_neg hne];exact vJ (h.two hi hk k j)
theorem aos(is:List Nat)(hi:∀i∈is,i < n)(hn:k∉is):(is.map (stM d k M)).map (fun r j=>d*r j)=(is.map M).map fun r=>clr (M k k) (r k) r (M k):=by
 rw[dN,dN];apply fV;intro i hm
 funext j
 have:=am0 h hk (hi i hm) (fun e=>hn (e▸hm)) j
 show d*stM d k M i j=M k k*M i j+(-(M i k))*M k j;rw[this,oW];omega
theorem Dvd.step(hp:M k k≠0):Dvd (M k k) n (stM d k M):=fun is cs hi hne=>by
 by_cases hm:k∈is
 ·obtain⟨a,b,rfl⟩:=nG hm
  by_cases ha:k∈a++b
  ·-- twice
   have z:det cs ((a++k::b).map (stM d k M))=0:=by
    rw[cI,aV];rcases cX.mp ha with q | q
    ·obtain⟨a1,a2,rfl⟩:=nG q;rw[cI,aV,dB,dO];exact aps cs _ _ _ _
    ·obtain⟨b1,b2,rfl⟩:=nG q;rw[cI,aV];exact aps cs _ _ _ _
   rw[z];exact Int.dvd_zero _
  ·have hab:∀i∈a++b,i < n:=fun i q=>hi i (by
    rcases cX.mp q with q | q
    ·exact gB _ q
    ·exact cU _ (aN _ q))
   have e1:=aos h hk hd (a++b) hab ha;have ek:stM d k M k=M k:=by funext j;unfold stM;rw[if_pos rfl]
   have e2:=ahp cs d ((a++b).map (stM d k M)) [M k];have e3:=aoc cs (M k) (M k k) (fun r=>r k) ((a++b).map M) []
   obtain⟨q,e4⟩:=h (k::(a++b)) cs (fun i hi'=>by
    rcases bD.mp hi' with rfl | z
    ·exact hk
    ·exact hab i z) (by simp)
   rw[e1] at e2;simp only[bL,dO,aW,aV,cG,wI] at e2 e3 e4;rw[e3,e4] at e2;have e5:det cs (M k::(a++b).map (stM d k M))=M k k ^ (a++b).length*q:=by
    refine dH (yO hd) ((e2.symm).trans ?_);rw[fD]
   have e6:=ayy cs (M k) (a.map (stM d k M)) [] (b.map (stM d k M));rw[bL,bL,<-cI,e5] at e6;rw[cI,aV,ek,show(a++k::b).length - 1=(a++b).length by simp]
   rcases e6 with z | z
   ·exact⟨q,z⟩
   ·exact⟨-q,by rw[z,gP]⟩
 ·have e1:=aos h hk hd is hi hm;have e2:=ahp cs d (is.map (stM d k M)) [];have e3:=chio k cs (M k) (is.map M);obtain⟨q,e4⟩:=h (k::is) (k::cs) (fun i hi'=>by
   rcases bD.mp hi' with rfl | z
   ·exact hk
   ·exact hi i z) (by simp)
  rw[e1] at e2;simp only[bL,aW,aV,cG,wI] at e2 e3 e4;rw[e2,e4] at e3;have e5:M k k*det cs (is.map (stM d k M))=M k k ^ is.length*q:=by
   refine dH (show d ^ is.length≠0 from yO hd) ?_
   rw[fD,e3,fD]
  have hl:is.length=is.length - 1+1:=by have:=mY.mpr hne;omega
  rw[hl,pX,cO (M k k ^ (is.length - 1)) (M k k),iT] at e5;exact⟨q,dH hp e5⟩
end
theorem amz{f:Int->Int}{m:Int}:∀{l:List Int},(∀d∈l,f d<=m)->(l.map f).sum<=m*(l.length:Int)
 | [],_=>by simp
 | d::l,h=>by
  have a:=h d (aR ..);have b:=amz (l:=l) fun x hx=>h x (aN _ hx)
  rw[aV,cA,cG,gH,iW];simp;omega
theorem aif{f:Int->Int}{m:Int}:∀{l:List Int},(∀d∈l,f d<=m)->m*(l.length:Int)<=(l.map f).sum->∀d∈l,f d=m
 | d::l,h,hs,x,hx=>by
  have a:=h d (aR ..);have b:=amz (l:=l) fun x hx=>h x (aN _ hx)
  rw[aV,cA,cG,gH,iW] at hs;simp at hs;rcases bD.mp hx with rfl | q
  ·omega
  ·exact aif (fun x hx=>h x (aN _ hx)) (by omega) x q
theorem avu(X:Int->Int):∀n:Nat,0 < n->∃i:Int,0<=i/\i < (n:Int)/\∀j:Int,0<=j->j < (n:Int)->X j<=X i
 | 1,_=>⟨0,by omega,by omega,fun j a b=>by
  have:j=0:=by omega
  rw[this];exact oY _⟩
 | n+2,_=>by
  obtain⟨i,i0,i1,h⟩:=avu X (n+1) (by omega)
  by_cases q:X i<=X ((n+1:Nat):Int)
  ·refine⟨((n+1:Nat):Int),by omega,by omega,fun j a b =>?_⟩
   by_cases e:j=((n+1:Nat):Int)
   ·rw[e];exact oY _
   ·exact rN (h j a (by omega)) q
  ·refine⟨i,i0,by omega,fun j a b =>?_⟩
   by_cases e:j=((n+1:Nat):Int)
   ·rw[e];omega
   ·exact h j a (by omega)
section
variable{qv:LL9}(h:Hs qv)(hop:trapI qv=[])
include h hop
theorem ao8{X:Int->Int}(hg:∀d,d < 0->X d=0)(hX:∀i,0<=i->i < (qv.length:Int)->0 < X i->((dr qv i).length:Int)*X i<=((dr qv i).map X).sum)(i:Int)(i0:0<=i)(i1:i < (qv.length:Int)):X i<=0:=by
 apply bF;intro hi;obtain⟨t,t0,t1,ht⟩:=avu X qv.length h.one;have hpos:0 < X t:=by have:=ht i i0 i1;omega
 have le:∀y,0<=y->y < (qv.length:Int)->∀d∈dr qv y,X d<=X t:=fun y y0 y1 d hd=>by
  have b:=(h.dr y0 y1).2.2 d hd;rcases gJ d 0 with q | q
  ·rw[hg d q];omega
  ·exact ht d q b.2
 have all:∀z,Rch qv t z->(0<=z/\z < (qv.length:Int))/\X z=X t:=fun z hz=>by
  induction hz with
  | base=>exact⟨⟨t0,t1⟩,rfl⟩
  | @step x d r _ hd ih =>
   obtain⟨⟨x0,x1⟩,e⟩:=ih;have a:=hX x x0 x1 (by omega)
   rw[e,cO] at a;have q:=aif (le x x0 x1) a d hd;have b:=(h.dr x0 x1).2.2 d hd;refine⟨⟨?_,b.2⟩,q⟩;rcases gJ d 0 with z | z
   ·rw[hg d z] at q;omega
   ·exact z
 have:=amw t0 t1 fun z hz=>(all z hz).1.1
 rw[hop] at this;cases this
end
def dot:Nat->Rw->Rw->Int
 | 0,_,_=>0
 | m+1,r,y=>dot m r y+r m*y m
theorem aft(x z:Int)(a b y:Rw):∀m,dot m (fun j=>x*a j+z*b j) y=x*dot m a y+z*dot m b y
 | 0=>by simp[dot]
 | m+1=>by
  show dot m _ y+(x*a m+z*b m)*y m=x*(dot m a y+a m*y m)+z*(dot m b y+b m*y m);rw[aft x z a b y m,Int.add_mul,iW,iW,iT,iT];omega
theorem um{a b y z:Rw}:∀m,(∀j < m,a j=b j)->(∀j < m,y j=z j)->dot m a y=dot m b z
 | 0,_,_=>rfl
 | m+1,h,g=>by
  show dot m a y+_=dot m b z+_;rw[um m (fun j hj=>h j (by omega)) (fun j hj=>g j (by omega)),h m (by omega),g m (by omega)]
theorem abm{a y:Rw}:∀m,(∀j < m,a j*y j=0)->dot m a y=0
 | 0,_=>rfl
 | m+1,h=>by
  show dot m a y+_=0;rw[abm m fun j hj=>h j (by omega),h m (by omega)]
  rfl
theorem ye{a y:Rw}{i:Nat}:∀m,i < m->(∀j < m,j≠i->a j*y j=0)->dot m a y=a i*y i
 | m+1,hi,h=>by
  show dot m a y+a m*y m=_
  by_cases e:i=m
  ·subst e;rw[abm i fun j hj=>h j (by omega) (by omega)]
   omega
  ·rw[ye m (by omega) fun j hj=>h j (by omega),h m (by omega) (fU e)]
   omega
theorem akk{a y z:Rw}:∀m,dot m a (fun j=>y j+z j)=dot m a y+dot m a z
 | 0=>rfl
 | m+1=>by
  show dot m a _+a m*(y m+z m)=dot m a y+a m*y m+(dot m a z+a m*z m);rw[akk m,iW];omega
theorem au0{a y:Rw}(x:Int):∀m,dot m a (fun j=>x*y j)=x*dot m a y
 | 0=>by simp[dot]
 | m+1=>by
  show dot m a _+a m*(x*y m)=x*(dot m a y+a m*y m);rw[au0 x m,iW,fD]
def BS(M0:Nat->Rw):Nat->Int×(Nat->Rw)
 | 0=>(1,M0)
 | k+1=>((BS M0 k).2 k k,stM (BS M0 k).1 k (BS M0 k).2)
structure BJ (n m:Nat) (M0:Nat->Rw) (P:Nat->Prop) (d:Int) (M:Nat->Rw):Prop where
 pos:0 < d
 dvd:Dvd d n M
 pin:∀j,P j->j < n
 shape:∀i < n,∀j,P j->M i j=if i=j then d else 0
 back:∀y,(∀j,P j->dot m (M j) y=0)->(∀j,P j->dot m (M0 j) y=0)/\∀i,i < n->¬P i->dot m (M i) y=d*dot m (M0 i) y
theorem BJ.zero(n m:Nat)(M0:Nat->Rw):BJ n m M0 (fun _=>False) 1 M0:=⟨by decide,Dvd.one n M0,fun _ h=>h.elim,fun _ _ _ h=>h.elim,fun y _=>⟨fun j hj=>hj.elim,fun i _ _=>by rw[mC]⟩⟩
theorem BJ.to{n m:Nat}{M0:Nat->Rw}{P Q:Nat->Prop}{d:Int}{M:Nat->Rw}(b:BJ n m M0 P d M)(h:∀j,P j↔Q j):BJ n m M0 Q d M:=by
 have:P=Q:=funext fun j=>propext (h j)
 rwa[<-this]
theorem BJ.step{n m:Nat}{M0:Nat->Rw}{P:Nat->Prop}{d:Int}{M:Nat->Rw}(b:BJ n m M0 P d M){k:Nat}(hk:k < n)(hnk:¬P k)(hp:0 < M k k):BJ n m M0 (fun j=>P j∨j=k) (M k k) (stM d k M):=by
 obtain⟨p1,p2,pin,p3,p4⟩:=b;have mul:=fun{i:Nat} (hi:i < n) (hne:i≠k) j=>am0 p2 hk hi hne j
 have hd:d≠0:=by omega
 have st:=p2.step hk hd (by omega)
 have ek:stM d k M k=M k:=by funext j;unfold stM;rw[if_pos rfl]
 have dm:∀i,i < n->i≠k->∀y,d*dot m (stM d k M i) y=M k k*dot m (M i) y - M i k*dot m (M k) y:=fun i hi hne y=>by
  have a:=aft d 0 (stM d k M i) (stM d k M i) y m;have c:=aft (M k k) (-(M i k)) (M i) (M k) y m;rw[eX,jD] at a;rw[<-a,Int.sub_eq_add_neg,<-oW,<-c];refine um m (fun j _ =>?_) fun _ _=>rfl
  rw[eX,jD,mul hi hne j,oW];omega
 refine⟨hp,st,fun j hj =>?_,fun i hi j hj =>?_,fun y hy =>?_⟩
 ·rcases hj with z | z
  ·exact pin j z
  ·omega
 ·by_cases hik:i=k
  ·subst hik;rw[ek]
   by_cases hjk:j=i
   ·subst hjk;rw[if_pos rfl]
   ·have hPj:P j:=hj.elim id fun z=>absurd z hjk
    rw[if_neg (fU hjk),p3 i hi j hPj,if_neg (fU hjk)]
  ·refine dH hd ?_;rw[mul hi hik j]
   by_cases hjk:j=k
   ·subst hjk;rw[if_neg hik,cO];omega
   ·have hPj:P j:=hj.elim id fun z=>absurd z hjk
    rw[p3 i hi j hPj,p3 k hk j hPj,if_neg (show ¬k=j from fU hjk)]
    by_cases hij:i=j
    ·rw[if_pos hij,if_pos hij,cO];omega
    ·rw[if_neg hij,if_neg hij];simp
 ·have hkk:dot m (M k) y=0:=by have:=hy k (.inr rfl);rwa[ek] at this
  have hj:∀j,P j->dot m (M j) y=0:=fun j hj=>by
   have hjk:j≠k:=fun e=>hnk (e▸hj)
   have a:=dm j (pin j hj) hjk y;rw[hy j (.inl hj),hkk,fW,fW,Int.sub_zero] at a;rcases yP.mp a.symm with z | z
   ·omega
   ·exact z
  obtain⟨b1,b2⟩:=p4 y hj;refine⟨fun j hj' =>?_,fun i hi hki =>?_⟩
  ·rcases hj' with z | z
   ·exact b1 j z
   ·subst z;have:=b2 j hk hnk;rw[hkk] at this;rcases yP.mp this.symm with z | z
    ·omega
    ·exact z
  ·have hik:i≠k:=fun e=>hki (.inr e)
   have a:=dm i hi hik y;rw[hkk,fW,Int.sub_zero,b2 i hi (fun z=>hki (.inl z)),fD] at a
   exact dH hd a
def dsq(qv:LL9):Nat->Rw:=fun i j=>(if i=j then ((dr qv (i:Int)).length:Int) else 0) - ((dr qv (i:Int)).count (j:Int):Int)
def xt(y:Rw)(d:Int):Int:=if d < 0 then 0 else y d.toNat
theorem amb(y:Rw){n:Nat}:∀l:List Int,(∀d∈l,d < (n:Int))->dot n (fun j=>(l.count (j:Int):Int)) y=(l.map (xt y)).sum
 | [],_=>abm n fun j _=>by simp
 | d::l,h=>by
  have ih:=amb y l fun x hx=>h x (aN _ hx)
  have hd:=h d (aR ..);have e:=aft 1 1 (fun j=>(l.count (j:Int):Int)) (fun j=>if d=(j:Int) then 1 else 0) y n
  rw[ih,mC,mC] at e;rw[aV,cA];have e1:dot n (fun j=>(((d::l).count (j:Int):Nat):Int)) y=dot n (fun j=>1*(l.count (j:Int):Int)+1*(if d=(j:Int) then 1 else 0)) y:=by
   refine um n (fun j _ =>?_) fun _ _=>rfl
   rw[sX]
   by_cases q:d=(j:Int)
   ·simp[q]
   ·simp[q]
  have e2:dot n (fun j=>if d=(j:Int) then 1 else 0) y=xt y d:=by
   unfold xt
   by_cases q:d < 0
   ·rw[if_pos q];exact abm n fun j _=>by rw[if_neg (by omega),eX]
   ·rw[if_neg q,ye (i:=d.toNat) n (by omega) fun j _ hj=>by rw[if_neg (by omega),eX],if_pos (by omega),mC]
  rw[e1,e,e2];omega
section
variable{qv:LL9}(h:Hs qv)
include h
theorem au1(y:Rw){i:Nat}(hi:i < qv.length):dot qv.length (dsq qv i) y=((dr qv (i:Int)).length:Int)*y i - ((dr qv (i:Int)).map (xt y)).sum:=by
 have e:=aft 1 (-1) (fun j=>if i=j then ((dr qv (i:Int)).length:Int) else 0) (fun j=>((dr qv (i:Int)).count (j:Int):Int)) y qv.length
 rw[amb y _ fun d hd=>((h.dr (x:=(i:Int)) (by omega) (by omega)).2.2 d hd).2] at e
 have e1:dot qv.length (dsq qv i) y=dot qv.length (fun j=>1*(if i=j then ((dr qv (i:Int)).length:Int) else 0)+(-1)*((dr qv (i:Int)).count (j:Int):Int)) y:=by
  refine um _ (fun j _ =>?_) fun _ _=>rfl
  unfold dsq;omega
 have e2:dot qv.length (fun j=>if i=j then ((dr qv (i:Int)).length:Int) else 0) y=((dr qv (i:Int)).length:Int)*y i:=by
  rw[ye (i:=i) _ hi fun j _ hj=>by rw[if_neg (fU hj),eX],if_pos rfl]
 rw[e1,e,e2];omega
variable(hop:trapI qv=[])
include hop
theorem ate(y:Rw)(l:List Int):(l.map fun d => - xt y d).sum = - (l.map (xt y)).sum:=by
 induction l with
 | nil=>rfl
 | cons x l ih=>rw[aV,aV,cA,cA,ih];omega
open Classical in
theorem colY{M0:Nat->Rw}(hM:∀i < qv.length,∀j < qv.length,M0 i j=dsq qv i j){P:Nat->Prop}{d:Int}{M:Nat->Rw}(b:BJ qv.length (qv.length+1) M0 P d M){k:Nat}(hk:k < qv.length)(hnk:¬P k):∃Y:Rw,Y k=d/\(∀j,¬P j->j≠k->Y j=0)/\(∀i,P i->M i k = - Y i)/\(∀i,P i->((dr qv (i:Int)).length:Int)*Y i - ((dr qv (i:Int)).map (xt Y)).sum=0)/\∀i < qv.length,¬P i->((dr qv (i:Int)).length:Int)*Y i - ((dr qv (i:Int)).map (xt Y)).sum=M i k:=by
 obtain⟨p1,p2,pin,p3,p4⟩:=b;have ds:∀i,dot (qv.length+1) (M i) (fun j=>(if P j then - M j k else 0)+(if j=k then d else 0))=dot (qv.length+1) (M i) (fun j=>if P j then - M j k else 0)+M i k*d:=fun i=>by
  rw[akk,ye (i:=k) (y:=fun j=>if j=k then d else 0) _ (by omega) fun j _ hj=>by rw[if_neg hj,fW]]
  rw[if_pos rfl]
 obtain⟨q1,q2⟩:=p4 (fun j=>(if P j then - M j k else 0)+(if j=k then d else 0)) fun j hj=>by
  have hjn:=pin j hj;rw[ds j,ye (i:=j) _ (by omega) fun j' hj' hne=>by
   by_cases q:P j'
   ·rw[p3 j hjn j' q,if_neg (fU hne),eX]
   ·rw[if_neg q,fW],p3 j hjn j hj,if_pos rfl,if_pos hj,gP,cO]
  omega
 have q2:∀i,i < qv.length->¬P i->dot (qv.length+1) (M0 i) (fun j=>(if P j then - M j k else 0)+(if j=k then d else 0))=M i k:=fun i hi hki=>by
  have q2:=q2 i hi hki;rw[ds i,abm _ fun j' hj'=>by
   by_cases q:P j'
   ·rw[p3 i hi j' q,if_neg (fun e:i=j'=>hki (by rw[e];exact q)),eX]
   ·rw[if_neg q,fW],mG,cO] at q2
  exact(dH (by omega) q2).symm
 have hPn:¬P qv.length:=fun z=>by have:=pin _ z;omega
 have lo:∀i,i < qv.length->dot (qv.length+1) (M0 i) (fun j=>(if P j then - M j k else 0)+(if j=k then d else 0))=((dr qv (i:Int)).length:Int)*((if P i then - M i k else 0)+(if i=k then d else 0)) - ((dr qv (i:Int)).map (xt fun j=>(if P j then - M j k else 0)+(if j=k then d else 0))).sum:=fun i hi=>by
  rw[<-au1 h (fun j=>(if P j then - M j k else 0)+(if j=k then d else 0)) hi]
  show dot qv.length _ _+M0 i qv.length*((if P qv.length then - M qv.length k else 0)+(if qv.length=k then d else 0))=_
  rw[if_neg hPn,if_neg (by omega),jD,fW,jD]
  exact um _ (fun j hj=>hM i hi j hj) fun _ _=>rfl
 refine⟨fun j=>(if P j then - M j k else 0)+(if j=k then d else 0),?_,fun j hj hjk =>?_,fun i hi =>?_,fun i hi =>?_,fun i hi hki =>?_⟩
 ·show(if P k then _ else _)+(if k=k then d else 0)=d
  rw[if_neg hnk,if_pos rfl,mG]
 ·show(if P j then _ else _)+(if j=k then d else 0)=0
  rw[if_neg hj,if_neg hjk];rfl
 ·show M i k = - ((if P i then - M i k else 0)+(if i=k then d else 0))
  rw[if_pos hi,if_neg (fun e:i=k=>hnk (by rw[<-e];exact hi))]
  omega
 ·rw[<-lo i (pin i hi),q1 i hi]
 ·rw[<-lo i hi,q2 i hi hki]
theorem ayg{M0:Nat->Rw}(hM:∀i < qv.length,∀j < qv.length,M0 i j=dsq qv i j){P:Nat->Prop}{d:Int}{M:Nat->Rw}(b:BJ qv.length (qv.length+1) M0 P d M){k:Nat}(hk:k < qv.length)(hnk:¬P k):0 < M k k/\M k k<=6*d/\∀i < qv.length,-(6*d)<=M i k/\M i k<=6*d:=by
 have p1:=b.pos;have pin:=b.pin;obtain⟨Y,Yk,Yb,m1,q1,q2⟩:=colY h hop hM b hk hnk;have hx0:∀d,d < 0->xt Y d=0:=fun d hd=>by unfold xt;rw[if_pos hd]
 have xi:∀i:Int,0<=i->xt Y i=Y i.toNat:=fun i hi=>by unfold xt;rw[if_neg (by omega)]
 have nn:∀i:Int,0<=i->i < (qv.length:Int)->0<=xt Y i:=fun i i0 i1=>by
  have:=ao8 h hop (X:=fun d => - xt Y d) (fun d hd=>by show - xt Y d=0;rw[hx0 d hd];rfl) (fun i i0 i1 hi=>by
   have hik:P i.toNat:=by
    apply bF;intro z
    by_cases e:i.toNat=k
    ·rw[xi i i0,e,Yk] at hi;omega
    ·rw[xi i i0,Yb _ z e] at hi;omega
   have a:=q1 _ hik;rw[show((i.toNat:Nat):Int)=i by omega] at a
   rw[ate h hop,xi i i0,gP];omega) i i0 i1
  omega
 have up:∀i:Int,0<=i->i < (qv.length:Int)->xt Y i<=d:=fun i i0 i1=>by
  have:=ao8 h hop (X:=xt fun j=>Y j+(-d)) (fun d hd=>by unfold xt;rw[if_pos hd]) (fun i i0 i1 hi=>by
   have e:xt (fun j=>Y j+(-d)) i=Y i.toNat+(-d):=by unfold xt;rw[if_neg (by omega)]
   rw[e] at hi ⊢
   have hik:P i.toNat:=by
    apply bF;intro z
    by_cases e:i.toNat=k
    ·rw[e,Yk] at hi;omega
    ·rw[Yb _ z e] at hi;omega
   have a:=q1 _ hik;rw[show((i.toNat:Nat):Int)=i by omega] at a
   have s:∀l:List Int,(l.map (xt Y)).sum - d*(l.length:Int)<=(l.map (xt fun j=>Y j+(-d))).sum:=fun l=>by
    induction l with
    | nil=>simp
    | cons x l ih =>
     rw[aV,aV,cA,cA,cG,gH,iW];have:xt Y x - d<=xt (fun j=>Y j+(-d)) x:=by
      unfold xt;split
      ·omega
      ·show Y x.toNat - d<=Y x.toNat+(-d);omega
     simp;omega
   have:=s (dr qv i);rw[iW,gP,cO _ d];omega) i i0 i1
  have e:xt (fun j=>Y j+(-d)) i=xt Y i+(-d):=by unfold xt;rw[if_neg (by omega),if_neg (by omega)]
  rw[e] at this;omega
 have sb:∀i:Nat,i < qv.length->0<=((dr qv (i:Int)).map (xt Y)).sum/\((dr qv (i:Int)).map (xt Y)).sum<=6*d:=fun i hi=>by
  obtain⟨_,l6,hb⟩:=h.dr (x:=(i:Int)) (by omega) (by omega)
  have s1:∀x∈dr qv (i:Int),0<=xt Y x/\xt Y x<=d:=fun x hx=>by
   rcases gJ x 0 with z | z
   ·rw[hx0 x z];omega
   ·exact⟨nn x z (hb x hx).2,up x z (hb x hx).2⟩
  have s2:=amz (f:=xt Y) (m:=d) fun x hx=>(s1 x hx).2
  have s3:d*((dr qv (i:Int)).length:Int)<=d*6:=jH (by omega) (by omega)
  refine⟨?_,by omega⟩
  have s4:∀l:List Int,(∀x∈l,0<=xt Y x)->0<=(l.map (xt Y)).sum:=fun l=>by
   induction l with
   | nil=>intro _;simp
   | cons x l ih =>
    intro hl;rw[aV,cA];have:=ih fun y hy=>hl y (aN _ hy)
    have:=hl x (aR ..);omega
  exact s4 _ fun x hx=>(s1 x hx).1
 have dk:=h.dr (x:=(k:Int)) (by omega) (by omega)
 have a:=q2 k hk hnk;rw[Yk] at a;have kd:((dr qv (k:Int)).length:Int)*d<=6*d:=rM (by omega) (by omega)
 have pos:0 < M k k:=by
  apply bF;intro hneg;have:=ao8 h hop (X:=xt Y) hx0 (fun i i0 i1 hi=>by
   rw[xi i i0] at hi ⊢
   by_cases z:P i.toNat
   ·have c:=q1 _ z;rw[show((i.toNat:Nat):Int)=i by omega] at c
    omega
   ·by_cases e:i.toNat=k
    ·have c:=q2 i.toNat (by omega) z
     rw[show((i.toNat:Nat):Int)=i by omega,e] at c
     rw[e];omega
    ·rw[Yb _ z e] at hi;omega) (k:Int) (by omega) (by omega)
  rw[xi _ (by omega),cD,Yk] at this
  omega
 have sk:=sb k hk;refine⟨pos,by omega,fun i hi =>?_⟩
 by_cases z:P i
 ·rw[m1 i z];have u:=up (i:Int) (by omega) (by omega)
  have l:=nn (i:Int) (by omega) (by omega)
  rw[xi _ (by omega),cD] at u l
  omega
 ·by_cases e:i=k
  ·subst e;omega
  ·have c:=q2 i hi z;rw[Yb i z e,fW] at c;have:=sb i hi;omega
theorem aq4{M0:Nat->Rw}(hM:∀i < qv.length,∀j < qv.length,M0 i j=dsq qv i j){P:Nat->Prop}(hP:∀j < qv.length,P j){d:Int}{M:Nat->Rw}(b:BJ qv.length (qv.length+1) M0 P d M)(i:Nat)(hi:i < qv.length):dot qv.length (dsq qv i) (fun j=>M j qv.length)=M0 i qv.length*d:=by
 obtain⟨p1,p2,pin,p3,p4⟩:=b;obtain⟨q1,_⟩:=p4 (fun j=>if j < qv.length then M j qv.length else -d) fun j hj'=>by
  have hj:=pin j hj';show dot qv.length (M j) _+M j qv.length*(if qv.length < qv.length then _ else -d)=0
  rw[if_neg (by omega),ye (i:=j) _ hj fun j' hj' hne=>by rw[p3 j hj j' (hP j' hj'),if_neg (fU hne),eX],p3 j hj j (hP j hj),if_pos rfl,if_pos hj,gP,cO]
  omega
 have a:=q1 i (hP i hi);have a:dot qv.length (M0 i) _+M0 i qv.length*(if qv.length < qv.length then _ else -d)=0:=a
 rw[if_neg (by omega),gP] at a
 have e:=um (a:=M0 i) (b:=dsq qv i) (y:=fun j=>if j < qv.length then M j qv.length else -d) (z:=fun j=>M j qv.length) qv.length (fun j hj=>hM i hi j hj) fun j hj=>if_pos hj
 rw[e] at a;omega
theorem ams{M0:Nat->Rw}(hM:∀i < qv.length,∀j < qv.length,M0 i j=dsq qv i j):∀k,k<=qv.length->BJ qv.length (qv.length+1) M0 (fun j=>j < k) (BS M0 k).1 (BS M0 k).2/\(BS M0 k).1<=6 ^ k
 | 0,_=>⟨(BJ.zero ..).to fun j=>⟨fun z=>z.elim,fun z=>by omega⟩,by show(1:Int)<=1;omega⟩
 | k+1,hk=>by
  obtain⟨a,c⟩:=ams hM k (by omega)
  obtain⟨p1,p2,_⟩:=ayg h hop hM a (k:=k) (by omega) (by omega)
  refine⟨(a.step (by omega) (by omega) p1).to fun j=>by omega,?_⟩
  show(BS M0 k).2 k k<=6 ^ (k+1);rw[pX,cO];omega
theorem a8e{M0:Nat->Rw}(hM:∀i < qv.length,∀j < qv.length,M0 i j=dsq qv i j){k:Nat}(b:BJ qv.length (qv.length+1) M0 (fun j=>j < k) (BS M0 k).1 (BS M0 k).2)(hk:k < qv.length):0 < (BS M0 k).2 k k/\(BS M0 k).2 k k<=6*(BS M0 k).1/\∀i < qv.length,-(6*(BS M0 k).1)<=(BS M0 k).2 i k/\(BS M0 k).2 i k<=6*(BS M0 k).1:=ayg h hop hM b hk (by omega)
theorem ar9{M0:Nat->Rw}(hM:∀i < qv.length,∀j < qv.length,M0 i j=dsq qv i j)(i:Nat)(hi:i < qv.length):dot qv.length (dsq qv i) (fun j=>(BS M0 qv.length).2 j qv.length)=M0 i qv.length*(BS M0 qv.length).1:=aq4 h hop hM (fun _ hj=>hj) (ams h hop hM qv.length (aL _)).1 i hi
end
section
variable{qv:LL9}(h:Hs qv)(hop:trapI qv=[])
include h hop
end
def rwD(m:Nat)(r:Rw):D:=.lst ((aK m).map fun j=>.int (r j))
def mtD(n m:Nat)(M:Nat->Rw):List D:=(aK n).map fun i=>rwD m (M i)
theorem rm(n m:Nat)(M:Nat->Rw):(mtD n m M).length=n:=by simp[mtD]
theorem agh(n m:Nat)(M:Nat->Rw):mtD (n+1) m M=mtD n m M++[rwD m (M n)]:=by unfold mtD;rw[iI,cI];rfl
theorem atg{n m:Nat}{M:Nat->Rw}{k:Nat}(hk:k < n):atI (mtD n m M) (k:Int)=some (rwD m (M k)):=by
 unfold atI;rw[aj3 (by omega) (by rw[rm];omega),cD]
 show(mtD n m M)[k]? = _;unfold mtD;rw[bA,cB hk];rfl
theorem aik{m:Nat}{r:Rw}{k:Nat}(hk:k < m):atI ((aK m).map fun j=>D.int (r j)) (k:Int)=some (.int (r k)):=by
 unfold atI;rw[aj3 (by omega) (by simp;omega),cD]
 show((aK m).map fun j=>D.int (r j))[k]? = _
 rw[bA,cB hk];rfl
theorem u9(m:Nat)(r:Rw):((aK m).map fun j=>D.int (r j)).length=m:=by simp
theorem aqh{k n:Nat}(hk:k < n):∃rest,rangeD (k:Int) (n - k)=.int (k:Int)::rest:=by
 obtain⟨c,hc⟩:∃c,n - k=c+1:=⟨n - k - 1,by omega⟩
 rw[hc];refine⟨(aK c).map fun i=>.int ((k:Int)+((i+1:Nat):Int)),?_⟩
 unfold rangeD;rw[List.range_succ_eq_map,aV,dN];show D.int ((k:Int)+((0:Nat):Int))::_=_;rw[show(k:Int)+((0:Nat):Int)=k by omega]
 rfl
theorem am9{n m:Nat}{M:Nat->Rw}{k:Nat}(hk:k < n)(hm:k < m)(hn:n < 1000)(h0:M k k≠0):aa0 [.own (some 0) (mtD n m M),.val (.int (k:Int))]=some (.ok (.v (.int (k:Int))),[.own (some 0) (mtD n m M),.val (.int (k:Int))]):=by
 have e1:=atg (m:=m) (M:=M) hk;have e2:=aik (r:=M k) hm;have hl:=rm n m M;obtain⟨rest,er⟩:=aqh hk;unfold rwD at e1;generalize (aK m).map (fun j=>D.int (M k j))=rr at *
 generalize M k k=v at *;generalize mtD n m M=mm at *;have e3:adw [.own (some 0) mm,.val (.int (k:Int)),.val (.int (k:Int))]=some (.ret (.v (.int (k:Int))),[.own (some 0) mm,.val (.int (k:Int)),.val (.int (k:Int))]):=by
  simp[adw,e1,e2,h0]
 have hb:((n:Int) - (k:Int)).toNat=n - k:=by omega
 have hb1:k < 4611686018427387904:=by omega
 have hb2:n < 4611686018427387904:=by omega
 simp[aa0,air,hl,hb,hb1,hb2,er,mj,e3]
theorem au8(n m:Nat)(M:Nat->Rw)(hm:m<=1000):compD (di 0) (ret true) afs (mtD n m M) [] [.emp]=some (.ok (mtD n m M),abe .emp (mtD n m M)::[]):=by
 rw[uo (f:=id)]
 ·simp
 ·intro d hd;unfold mtD at hd;obtain⟨i,_,rfl⟩:=bV.mp hd;have hl:=u9 m (M i);unfold rwD;have hc:((aK m).map fun j=>D.int (M i j)).length<=capS:=by rw[hl];exact cz hm
  generalize (aK m).map (fun j=>D.int (M i j))=rr at *
  simp[afs,hc]
theorem ap7{n m:Nat}{M:Nat->Rw}(k:Int)(hn:n<=1000)(hm:m<=1000):acg [.val (.lst (mtD n m M)),.val (.int k),.val (.int k)]=some (.ok (.fr (mtD n m M)),[.val (.lst (mtD n m M)),.val (.int k),.val (.int k)]):=by
 have e:=au8 n m M hm;have hl:=rm n m M;have hc:(mtD n m M).length<=capS:=by rw[hl];exact cz hn
 generalize mtD n m M=mm at *;simp[acg,al2,e,hc]
theorem aq6{m:Nat}{k i:Nat}{M:Nat->Rw}{d:Int}(hk:k < m)(hd0:0 < d)(hd1:d < 1000000000000000000000000000000000000000000000000000000000000)(hik:i≠k)(hkk : -18446744073709551616 < M k k/\M k k < 18446744073709551616)(hic : -18446744073709551616 < M i k/\M i k < 18446744073709551616):∃q1 q2,compD (bTup 2 (lq (di 0) (lq (di 1) bNil))) (ret true) acz (ut ((aK m).map fun j=>D.int (M i j)) ((aK m).map fun j=>D.int (M k j))) [] [.emp,.emp,.val (rwD m (M i)),.val (rwD m (M k)),.val (.int d),.val (.int (k:Int))] =
  some (.ok ((aK m).map fun j=>D.int (stM d k M i j)),[q1,q2,.val (rwD m (M i)),.val (rwD m (M k)),.val (.int d),.val (.int (k:Int))]):=by
 have ek:=aik (r:=M k) hk;have ei:=aik (r:=M i) hk;have comp:=uq (b:=bTup 2 (lq (di 0) (lq (di 1) bNil))) (mc:=ret true) (me:=acz) (fun j ys ρ=>∃o1 o2:Sl,ρ=[o1,o2,.val (rwD m (M i)),.val (rwD m (M k)),.val (.int d),.val (.int (k:Int))]/\ys=(aK j).map fun j=>D.int (stM d k M i j))
  (l:=ut ((aK m).map fun j=>D.int (M i j)) ((aK m).map fun j=>D.int (M k j))) (ys:=[]) (ρ:=[.emp,.emp,.val (rwD m (M i)),.val (rwD m (M k)),.val (.int d),.val (.int (k:Int))]) 0 ⟨.emp,.emp,rfl,rfl⟩ ?_
 ·obtain⟨ys,ρ',e6,o1,o2,rfl,rfl⟩:=comp;have hz:(ut ((aK m).map fun j=>D.int (M i j)) ((aK m).map fun j=>D.int (M k j))).length=m:=by unfold ut;rw[jG,u9,u9];omega
  rw[hz,cN] at e6;exact⟨o1,o2,e6⟩
 ·rintro j z ys ρ hd ⟨o1,o2,rfl,rfl⟩
  have hj:j < m:=by
   rcases jQ j m with q | q
   ·exact q
   ·rw[dX (by unfold ut;rw[jG,u9];omega)] at hd
    cases hd
  have ed:z=.tup [.int (M i j),.int (M k j)]:=by
   unfold ut at hd;rw[pQ,bA,bA,cB hj] at hd;exact(bU hd).symm
  subst ed;have es:stM d k M i j=(M k k*M i j - M i k*M k j) / d:=by unfold stM;rw[if_neg hik]
  have fd:fDiv (M k k*M i j - M i k*M k j) d=some ((M k k*M i j - M i k*M k j) / d):=by unfold fDiv;rw[if_pos ⟨hd0,hd1⟩]
  refine⟨[.val (.int (M i j)),.val (.int (M k j)),.val (rwD m (M i)),.val (rwD m (M k)),.val (.int d),.val (.int (k:Int))],_,true,by simp,rfl,.inr ⟨rfl,.int (stM d k M i j),[.val (.int (M i j)),.val (.int (M k j)),.val (rwD m (M i)),.val (rwD m (M k)),.val (.int d),.val (.int (k:Int))],?_,_,_,rfl,?_⟩⟩
  ·rw[es];unfold rwD;generalize (aK m).map (fun j=>D.int (M k j))=rk at *
   generalize (aK m).map (fun j=>D.int (M i j))=ri at *
   generalize M k k=a1 at *;generalize M i j=a2 at *;generalize M i k=a3 at *;generalize M k j=a4 at *;have m1:fMul a1 a2=some (a1*a2):=by unfold fMul;rw[if_pos (.inl hkk)]
   have m2:fMul a3 a4=some (a3*a4):=by unfold fMul;rw[if_pos (.inl hic)]
   simp[acz,ek,ei,m1,m2,fd]
  ·rw[cN,iI,cI];rfl
theorem aq5{n m:Nat}{k:Nat}{M:Nat->Rw}{d:Int}(hkn:k < n)(hk:k < m)(hn:n<=1000)(hm:m<=1000)(hd0:0 < d)(hd1:d < 1000000000000000000000000000000000000000000000000000000000000)(hcol:∀i < n,-18446744073709551616 < M i k/\M i k < 18446744073709551616):ach [.val (.lst (mtD n m M)),.val (.int (k:Int)),.val (.int d)]=some (.ok (.fr (mtD n m (stM d k M))),[.val (.lst (mtD n m M)),.val (.int (k:Int)),.val (.int d)]):=by
 have loop:=abh (b:=bTup 2 (lq (di 5) (lq (di 6) bNil))) (g:=acx) (fun i ρ=>∃o5 o6,ρ=[.val (.lst (mtD n m M)),.val (.int (k:Int)),.val (.int d),.val (rwD m (M k)),.own none (mtD i m (stM d k M)),o5,o6])
  (l:=aib (mtD n m M)) (ρ:=[.val (.lst (mtD n m M)),.val (.int (k:Int)),.val (.int d),.val (rwD m (M k)),.own none [],.emp,.emp]) 0 ⟨.emp,.emp,rfl⟩ ?_
 ·obtain⟨ρ',e,o5,o6,rfl⟩:=loop;rw[aez,rm,cN] at e;have e1:=atg (m:=m) (M:=M) hkn;generalize mtD n m (stM d k M)=m2 at *;generalize mtD n m M=mm at *;generalize rwD m (M k)=rk at *;simp[ach,al3,e1,e]
 ·rintro i z ρ hd ⟨o5,o6,rfl⟩
  rw[cN];obtain⟨d0,g1,rfl⟩:=ahl hd;have hi:i < n:=by
   have:=(aQ.mp g1).1;rwa[rm] at this
  have ed:d0=rwD m (M i):=by
   unfold mtD at g1;rw[bA,cB hi] at g1;exact(bU g1).symm
  subst ed;refine⟨[.val (.lst (mtD n m M)),.val (.int (k:Int)),.val (.int d),.val (rwD m (M k)),.own none (mtD i m (stM d k M)),.val (.int (i:Int)),.val (rwD m (M i))],[.val (.lst (mtD n m M)),.val (.int (k:Int)),.val (.int d),.val (rwD m (M k)),.own none (mtD (i+1) m (stM d k M)),.val (.int (i:Int)),.val (rwD m (M i))],rfl,.inl ?_,_,_,rfl⟩;have hcap:(mtD i m (stM d k M)).length < capS:=by rw[rm];unfold capS;omega
  rw[agh]
  by_cases hik:i=k
  ·subst hik;have ek:stM d i M i=M i:=by funext j;unfold stM;rw[if_pos rfl]
   rw[ek];have hl:=u9 m (M i);have hc:((aK m).map fun j=>D.int (M i j)).length<=capS:=by rw[hl];exact cz hm
   unfold rwD;generalize (aK m).map (fun j=>D.int (M i j))=rr at *
   generalize mtD i m (stM d i M)=m2 at *;generalize mtD n m M=mm at *;simp[acx,hc,hcap]
  ·obtain⟨q1,q2,e⟩:=aq6 (M:=M) hk hd0 hd1 hik (hcol k hkn) (hcol i hi);have l1:=u9 m (M i);have l2:=u9 m (M k);have l3:=u9 m (stM d k M i);have hle:((aK m).map fun j=>D.int (M i j)).length<=((aK m).map fun j=>D.int (M k j)).length:=by rw[l1,l2];exact aL _
   have hc:((aK m).map fun j=>D.int (stM d k M i j)).length<=capS:=by rw[l3];exact cz hm
   have hne:¬((i:Int)=(k:Int)):=by omega
   unfold rwD at e ⊢
   generalize (aK m).map (fun j=>D.int (stM d k M i j))=rs at *
   generalize (aK m).map (fun j=>D.int (M i j))=ri at *
   generalize (aK m).map (fun j=>D.int (M k j))=rk at *
   generalize mtD i m (stM d k M)=m2 at *;generalize mtD n m M=mm at *;simp[acx,hne,hle,e,hc,hcap]
def aug(A:Nat->Rw)(n:Nat)(c:Rw):Nat->Rw:=fun i j=>if j < n then A i j else c i
theorem azu(A:Nat->Rw)(n:Nat)(c:Rw)(i:Nat):rwD (n+1) (aug A n c i)=.lst (((aK n).map fun j=>.int (A i j))++[.int (c i)]):=by
 unfold rwD;rw[iI,cI]
 congr 2
 ·apply fV;intro j hj;have:=cR.mp hj;unfold aug;rw[if_pos this]
 ·show[D.int (aug A n c i n)]=_;unfold aug;rw[if_neg (by omega)]
theorem ax5{A:Nat->Rw}{n:Nat}{c:Rw}(hn:n<=100):∃q1 q2,compD (bTup 2 (lq (di 0) (lq (di 1) bNil))) (ret true) ae0 (ut (mtD n n A) ((aK n).map fun i=>.int (c i))) [] [.emp,.emp]=some (.ok (mtD n (n+1) (aug A n c)),[q1,q2]):=by
 have comp:=uq (b:=bTup 2 (lq (di 0) (lq (di 1) bNil))) (mc:=ret true) (me:=ae0) (fun j ys ρ=>∃o1 o2:Sl,ρ=[o1,o2]/\ys=mtD j (n+1) (aug A n c))
  (l:=ut (mtD n n A) ((aK n).map fun i=>D.int (c i))) (ys:=[]) (ρ:=[.emp,.emp]) 0 ⟨.emp,.emp,rfl,rfl⟩ ?_
 ·obtain⟨ys,ρ',e6,o1,o2,rfl,rfl⟩:=comp;have hz:(ut (mtD n n A) ((aK n).map fun i=>D.int (c i))).length=n:=by unfold ut;rw[jG,rm,u9];omega
  rw[hz,cN] at e6;exact⟨o1,o2,e6⟩
 ·rintro j z ys ρ hd ⟨o1,o2,rfl,rfl⟩
  have hj:j < n:=by
   rcases jQ j n with q | q
   ·exact q
   ·rw[dX (by unfold ut;rw[jG,rm];omega)] at hd
    cases hd
  have ed:z=.tup [rwD n (A j),.int (c j)]:=by
   unfold ut mtD at hd;rw[pQ,bA,bA,cB hj] at hd;exact(bU hd).symm
  subst ed;have hl:=u9 n (A j);have hc:((aK n).map fun i=>D.int (A j i)).length<=capS:=by rw[hl];exact cz (by omega)
  have hc2:((aK n).map fun i=>D.int (A j i)).length+1<=capS:=by rw[hl];exact cz (by omega)
  refine⟨[.val (rwD n (A j)),.val (.int (c j))],_,true,by simp,rfl,.inr ⟨rfl,rwD (n+1) (aug A n c j),[.val (rwD n (A j)),.val (.int (c j))],?_,_,_,rfl,?_⟩⟩
  ·rw[azu];unfold rwD;generalize (aK n).map (fun i=>D.int (A j i))=rr at *
   simp[ae0,hc,hc2]
  ·rw[cN,agh]
def tops(qv:LL9)(c:Rw):Nat->Int:=fun i=>(BS (aug (dsq qv) qv.length c) qv.length).2 i qv.length
def botm(qv:LL9)(c:Rw):Int:=(BS (aug (dsq qv) qv.length c) qv.length).1
section
variable{qv:LL9}(h:Hs qv)(hop:trapI qv=[])(c:Rw)
include h hop
theorem ahz:∀i < qv.length,∀j < qv.length,aug (dsq qv) qv.length c i j=dsq qv i j:=fun i _ j hj=>by unfold aug;rw[if_pos hj]
theorem ahx:0 < botm qv c/\botm qv c<=60466176:=by
 obtain⟨a,b⟩:=ams h hop (ahz h hop c) qv.length (aL _);refine⟨a.pos,rN b ?_⟩;have:(6:Int) ^ qv.length<=6 ^ 10:=by
  have:=vG (show 0 < 6 by decide) h.most
  exact_mod_cast this
 exact this
theorem azj(i:Nat)(hi:i < qv.length):dot qv.length (dsq qv i) (tops qv c)=c i*botm qv c:=by
 have:=ar9 h hop (ahz h hop c) i hi;have e:aug (dsq qv) qv.length c i qv.length=c i:=by unfold aug;rw[if_neg (by omega)]
 rw[e] at this;exact this
end
theorem aqb{n:Nat}{A:Nat->Rw}{c:Rw}(hm:n<=10)(h0:∀k,k < n->0 < (BS (aug A n c) k).2 k k)(hd':∀k,k < n->0 < (BS (aug A n c) k).1/\(BS (aug A n c) k).1<=60466176)(hcol:∀k,k < n->∀i,i < n -> -18446744073709551616 < (BS (aug A n c) k).2 i k/\(BS (aug A n c) k).2 i k < 18446744073709551616):abi [.val (.lst (mtD n n (A))),.val (.lst ((aK n).map fun i=>.int (c i)))]=some (.ok (.v (.tup [.lst ((aK n).map fun i=>.int ((BS (aug A n c) n).2 i n)),.int ((BS (aug A n c) n).1)])),[.val (.lst (mtD n n (A))),.val (.lst ((aK n).map fun i=>.int (c i)))]):=by
 generalize hM:aug A n c=M0 at *;have loop:=abh (b:=di 4) (g:=aeq) (fun k ρ=>k<=n->∃o4 o5,ρ=[.val (.lst (mtD n n (A))),.val (.lst ((aK n).map fun i=>D.int (c i))),.own none (mtD n (n+1) (BS M0 k).2),.val (.int (BS M0 k).1),o4,o5])
  (l:=rangeD 0 n) (ρ:=[.val (.lst (mtD n n (A))),.val (.lst ((aK n).map fun i=>D.int (c i))),.own none (mtD n (n+1) M0),.val (.int 1),.emp,.emp]) 0 (fun _=>⟨.emp,.emp,rfl⟩) ?_
 ·obtain⟨ρ',e,hρ⟩:=loop;have rl:(rangeD 0 n).length=n:=by simp[rangeD]
  rw[rl,cN] at hρ;obtain⟨o4,o5,rfl⟩:=hρ (aL _);obtain⟨q1,q2,e1⟩:=ax5 (A:=A) (n:=n) (c:=c) (by omega)
  rw[hM] at e1;have ec:compD (di 0) (ret true) ahm (mtD n (n+1) (BS M0 n).2) [] [.emp,.val (.lst (mtD n n (A)))]=some (.ok ((aK n).map fun i=>.int ((BS M0 n).2 i n)),abe .emp (mtD n (n+1) (BS M0 n).2)::[.val (.lst (mtD n n (A)))]):=by
   have hl:=rm n n (A);have et:=fun i=>aik (r:=(BS M0 n).2 i) (m:=n+1) (k:=n) (by omega)
   have eg:∀i,((aK (n+1)).map fun j=>D.int ((BS M0 n).2 i j))[n]? = some (.int ((BS M0 n).2 i n)):=fun i=>by
    rw[bA,cB (by omega)]
    rfl
   rw[uo (f:=fun d=>match d with | .lst l=>(l[n]?).getD .non | d=>d)]
   ·congr 3
    unfold mtD;rw[bL,dN];apply fV;intro i _;show(((aK (n+1)).map fun j=>D.int ((BS M0 n).2 i j))[n]?).getD .non=.int ((BS M0 n).2 i n)
    rw[eg i];rfl
   ·intro d hd;unfold mtD at hd;obtain⟨i,_,rfl⟩:=bV.mp hd;have k1:=et i;have k2:=eg i
    clear e1 e hρ
    unfold rwD;generalize (aK (n+1)).map (fun j=>D.int ((BS M0 n).2 i j))=rr at *
    generalize mtD n n (A)=mm at *;simp[ahm,hl,k1,k2]
  have hl1:=rm n n (A);have hl2:=u9 n c;have hle:(mtD n n (A)).length<=((aK n).map fun i=>D.int (c i)).length:=by rw[hl1,hl2];exact aL _
  have hc1:(mtD n (n+1) M0).length<=capS:=by rw[rm];exact cz (by omega)
  have hc2:((aK n).map fun i=>D.int ((BS M0 n).2 i n)).length<=capS:=by rw[u9 n (fun i=>(BS M0 n).2 i n)];exact cz (by omega)
  have hb:n < 4611686018427387904:=by omega
  generalize (aK n).map (fun i=>D.int ((BS M0 n).2 i n))=tt at *
  generalize mtD n (n+1) (BS M0 n).2=m3 at *;generalize mtD n (n+1) M0=m2 at *;generalize (aK n).map (fun i=>D.int (c i))=cc at *
  generalize mtD n n (A)=mm at *;generalize (BS M0 n).1=dn at *;simp[abi,apm,e1,hc1,hl1,hl2,hb,e,ec,hc2]
 ·rintro k z ρ hd hρ
  rw[cN];have hk:k < n:=by
   have:=(aQ.mp hd).1
   simpa[rangeD] using this
  rw[cN] at hρ;obtain⟨o4,o5,rfl⟩:=hρ (by omega)
  have ez:z=.int (k:Int):=by
   unfold rangeD at hd;rw[bA,cB hk] at hd;have:=(bU hd).symm
   simpa using this
  subst ez;have p1:=h0 k hk;have p3:=hcol k hk;obtain⟨d0,d2⟩:=hd' k hk;have d1:(BS M0 k).1 < 1000000000000000000000000000000000000000000000000000000000000:=by omega
  have e1:=am9 (M:=(BS M0 k).2) hk (show k < n+1 by omega) (by omega) (by omega)
  have e2:=ap7 (n:=n) (m:=n+1) (M:=(BS M0 k).2) (k:Int) (by omega) (by omega)
  have e3:=aq5 (M:=(BS M0 k).2) hk (show k < n+1 by omega) (by omega) (by omega) d0 d1 (fun i hi=>by have:=p3 i hi;omega)
  have e4:=atg (m:=n+1) (M:=stM (BS M0 k).1 k (BS M0 k).2) hk;have e5:=aik (r:=stM (BS M0 k).1 k (BS M0 k).2 k) (show k < n+1 by omega)
  have e6:stM (BS M0 k).1 k (BS M0 k).2 k k=(BS M0 k).2 k k:=by unfold stM;rw[if_pos rfl]
  rw[e6] at e5;refine⟨_,[.val (.lst (mtD n n (A))),.val (.lst ((aK n).map fun i=>D.int (c i))),.own none (mtD n (n+1) (BS M0 (k+1)).2),.val (.int (BS M0 (k+1)).1),.val (.int (k:Int)),.val (.int (k:Int))],rfl,.inl ?_,fun _=>⟨_,_,rfl⟩⟩
  show aeq [.val (.lst (mtD n n (A))),.val (.lst ((aK n).map fun i=>D.int (c i))),.own none (mtD n (n+1) (BS M0 k).2),.val (.int (BS M0 k).1),.val (.int (k:Int)),o5]=some (Fl.nx,[.val (.lst (mtD n n (A))),.val (.lst ((aK n).map fun i=>D.int (c i))),.own none (mtD n (n+1) (stM (BS M0 k).1 k (BS M0 k).2)),.val (.int ((BS M0 k).2 k k)),.val (.int (k:Int)),.val (.int (k:Int))])
  unfold rwD at e4;generalize (aK (n+1)).map (fun j=>D.int (stM (BS M0 k).1 k (BS M0 k).2 k j))=rk at *
  generalize mtD n (n+1) (stM (BS M0 k).1 k (BS M0 k).2)=m3 at *;generalize mtD n (n+1) (BS M0 k).2=m2 at *;generalize (aK n).map (fun i=>D.int (c i))=cc at *
  generalize mtD n n (A)=mm at *;generalize (BS M0 k).2 k k=pk at *;generalize (BS M0 k).1=dk at *;simp[aeq,e1,isN,e2,e3,e4,e5]
theorem ahr(x:Int):∀V:List Int,(V.map D.int).countP (fun y=>eqD y (.int x))=V.count x
 | []=>rfl
 | a::V=>by
  have e:=akg a x;rw[aV,rY,ahr x V,sX,e]
  by_cases q:a=x <;> simp[q]
theorem awy(n:Nat)(r:List Int):compD (di 0) (ret true) zj (rangeD 0 n) [] [.emp,.val (.tup (r.map D.int))]=some (.ok ((aK n).map fun(j:Nat)=>.int (-((r.count (j:Int):Nat):Int))),abe .emp (rangeD 0 n)::[.val (.tup (r.map D.int))]):=by
 have ok:=ain 30 r;have hc:=fun x=>ahr x r
 rw[uo (f:=fun d=>match d with | .int k=>.int (-((r.count k:Nat):Int)) | d=>d)]
 ·unfold rangeD;rw[bL,dN]
  congr 3
  apply fV;intro i _;simp
 ·intro d hd;unfold rangeD at hd;obtain⟨k,_,rfl⟩:=bV.mp hd;have hk:=hc (k:Int);generalize r.map D.int=vv at *;simp[zj,ok,hk,okD]
section
variable{qv:LL9}(h:Hs qv)
include h
theorem azs{i:Nat}(hi:i < qv.length)(o4:Sl):∃q4,l1_doors_square [.val (hD qv),.own none (mtD i qv.length (dsq qv)),.val (.int (i:Int)),.val (.tup ((dr qv (i:Int)).map D.int)),o4]=some (.nx,[.val (hD qv),.own none (mtD (i+1) qv.length (dsq qv)),.val (.int (i:Int)),.val (.tup ((dr qv (i:Int)).map D.int)),q4]):=by
 have hm:=h.most;have hl:=xx qv;have e1:=awy qv.length (dr qv (i:Int));have hb:qv.length < 4611686018427387904:=by omega
 have rl:((aK qv.length).map fun(j:Nat)=>D.int (-(((dr qv (i:Int)).count (j:Int):Nat):Int))).length=qv.length:=by simp
 have hc:((aK qv.length).map fun(j:Nat)=>D.int (-(((dr qv (i:Int)).count (j:Int):Nat):Int))).length<=capS:=by rw[rl];exact cz (by omega)
 have ix:ixN ((aK qv.length).map fun(j:Nat)=>D.int (-(((dr qv (i:Int)).count (j:Int):Nat):Int))).length (i:Int)=some i:=by
  rw[rl,aj3 (by omega) (by omega),cD]
 have ia:((aK qv.length).map fun(j:Nat)=>D.int (-(((dr qv (i:Int)).count (j:Int):Nat):Int)))[i]? = some (.int (-(((dr qv (i:Int)).count (i:Int):Nat):Int))):=by
  rw[bA,cB hi];rfl
 have es:((aK qv.length).map fun(j:Nat)=>D.int (-(((dr qv (i:Int)).count (j:Int):Nat):Int))).set i (.int (-(((dr qv (i:Int)).count (i:Int):Nat):Int)+((dr qv (i:Int)).length:Int)))=(aK qv.length).map fun j=>D.int (dsq qv i j):=by
  apply jY;intro j;rw[bG,rl]
  by_cases hj:j < qv.length
  ·rw[bA,bA,cB hj]
   by_cases e:i=j
   ·subst e;rw[if_pos rfl,if_pos hj];show _=some (D.int (dsq qv i i));unfold dsq;rw[if_pos rfl]
    congr 2
    omega
   ·rw[if_neg e];show some (D.int _)=some (D.int (dsq qv i j));unfold dsq;rw[if_neg e]
    congr 2
    omega
  ·rw[if_neg (by omega),dX (by simp;omega),dX (by simp;omega)]
 have dl:((dr qv (i:Int)).map D.int).length=(dr qv (i:Int)).length:=aW ..
 have hcap:(mtD i qv.length (dsq qv)).length < capS:=by rw[rm];unfold capS;omega
 rw[agh];unfold rwD;rw[<-es];generalize ((aK qv.length).map fun(j:Nat)=>D.int (-(((dr qv (i:Int)).count (j:Int):Nat):Int)))=rr at *
 generalize (-(((dr qv (i:Int)).count (i:Int):Nat):Int))=v at *;generalize (dr qv (i:Int)).length=ln at *;generalize (dr qv (i:Int)).map D.int=dd at *;generalize mtD i qv.length (dsq qv)=mm at *;refine⟨.val (.lst (rr.set i (.int (v+(ln:Int))))),?_⟩;have hc':qv.length<=capS:=cz (by omega)
 have ix':ixN qv.length (i:Int)=some i:=by rw[<-rl];exact ix
 simp only[hD] at *;simp[l1_doors_square,hl,hb,e1,hc',rl,dl,ix',ia,hcap]
theorem aho:qx [.val (hD qv)]=some (.ok (.fr (mtD qv.length qv.length (dsq qv))),[.val (hD qv)]):=by
 have loop:=abh (b:=bTup 2 (lq (di 2) (lq (di 3) bNil))) (g:=l1_doors_square) (fun i ρ=>∃o2 o3 o4,ρ=[.val (hD qv),.own none (mtD i qv.length (dsq qv)),o2,o3,o4])
  (l:=aib (hDs qv)) (ρ:=[.val (hD qv),.own none [],.emp,.emp,.emp]) 0 ⟨.emp,.emp,.emp,rfl⟩ ?_
 ·obtain⟨ρ',e,o2,o3,o4,rfl⟩:=loop;rw[aez,xx,cN] at e;generalize mtD qv.length qv.length (dsq qv)=mm at *;simp only[hD] at *;simp[qx,ac9,e]
 ·rintro i z ρ hd ⟨o2,o3,o4,rfl⟩
  rw[cN];obtain⟨d0,g1,rfl⟩:=ahl hd;have hi:i < qv.length:=by
   have:=(aQ.mp g1).1;rwa[xx] at this
  have ed:d0=.tup ((dr qv (i:Int)).map D.int):=by
   unfold hDs at g1;rw[bA,aF hi] at g1;unfold dr;rw[cD,aM,aF hi];exact(bU g1).symm
  subst ed;obtain⟨q4,e⟩:=azs h hi o4;exact⟨_,_,rfl,.inl e,_,_,_,rfl⟩
end
section
variable{qv:LL9}(h:Hs qv)(hop:trapI qv=[])
include h hop
end
theorem akj(A:Nat->Rw)(X Y:Rw)(n:Nat):∀m,dot m (fun i=>dot n (A i) X) Y=dot n (fun j=>dot m (fun i=>A i j) Y) X
 | 0=>by
  show(0:Int)=_;rw[abm];intro j _;show(0:Int)*_=0;simp
 | m+1=>by
  show dot m _ Y+dot n (A m) X*Y m=dot n (fun j=>dot m (fun i=>A i j) Y+A m j*Y m) X
  rw[akj A X Y n m];have e:=aft 1 (Y m) (fun j=>dot m (fun i=>A i j) Y) (A m) X n
  rw[mC] at e;have e2:dot n (fun j=>dot m (fun i=>A i j) Y+A m j*Y m) X=dot n (fun j=>1*dot m (fun i=>A i j) Y+Y m*A m j) X:=um n (fun j _=>by rw[mC,cO (A m j)]) fun _ _=>rfl
  rw[e2,e,cO]
theorem ayx{a y:Rw}:∀m,(∀j,j < m->0<=a j*y j)->0<=dot m a y
 | 0,_=>oY _
 | m+1,h=>by
  have:=ayx m fun j hj=>h j (by omega)
  have:=h m (by omega)
  show 0<=dot m a y+a m*y m;omega
open Classical in
theorem colG{n:Nat}{A M0:Nat->Rw}(hM:∀i,i < n->∀j,j < n->M0 i j=A i j){P:Nat->Prop}{d:Int}{M:Nat->Rw}(b:BJ n (n+1) M0 P d M){k:Nat}(hk:k < n)(hnk:¬P k):∃Y:Rw,Y k=d/\(∀j,¬P j->j≠k->Y j=0)/\(∀i,P i->dot n (A i) Y=0)/\∀i,i < n->¬P i->dot n (A i) Y=M i k:=by
 obtain⟨p1,p2,pin,p3,p4⟩:=b;have ds:∀i,dot (n+1) (M i) (fun j=>(if P j then - M j k else 0)+(if j=k then d else 0))=dot (n+1) (M i) (fun j=>if P j then - M j k else 0)+M i k*d:=fun i=>by
  rw[akk,ye (i:=k) (y:=fun j=>if j=k then d else 0) _ (by omega) fun j _ hj=>by rw[if_neg hj,fW]]
  rw[if_pos rfl]
 obtain⟨q1,q2⟩:=p4 (fun j=>(if P j then - M j k else 0)+(if j=k then d else 0)) fun j hj=>by
  have hjn:=pin j hj;rw[ds j,ye (i:=j) _ (by omega) fun j' hj' hne=>by
   by_cases q:P j'
   ·rw[p3 j hjn j' q,if_neg (fU hne),eX]
   ·rw[if_neg q,fW],p3 j hjn j hj,if_pos rfl,if_pos hj,gP,cO]
  omega
 have q2:∀i,i < n->¬P i->dot (n+1) (M0 i) (fun j=>(if P j then - M j k else 0)+(if j=k then d else 0))=M i k:=fun i hi hki=>by
  have q2:=q2 i hi hki;rw[ds i,abm _ fun j' hj'=>by
   by_cases q:P j'
   ·rw[p3 i hi j' q,if_neg (fun e:i=j'=>hki (by rw[e];exact q)),eX]
   ·rw[if_neg q,fW],mG,cO] at q2
  exact(dH (by omega) q2).symm
 have hPn:¬P n:=fun z=>by have:=pin _ z;omega
 have lo:∀i,i < n->dot (n+1) (M0 i) (fun j=>(if P j then - M j k else 0)+(if j=k then d else 0))=dot n (A i) (fun j=>(if P j then - M j k else 0)+(if j=k then d else 0)):=fun i hi=>by
  show dot n _ _+M0 i n*((if P n then - M n k else 0)+(if n=k then d else 0))=_
  rw[if_neg hPn,if_neg (by omega),jD,fW,jD]
  exact um _ (fun j hj=>hM i hi j hj) fun _ _=>rfl
 refine⟨fun j=>(if P j then - M j k else 0)+(if j=k then d else 0),?_,fun j hj hjk =>?_,fun i hi =>?_,fun i hi hki =>?_⟩
 ·show(if P k then _ else _)+(if k=k then d else 0)=d
  rw[if_neg hnk,if_pos rfl,mG]
 ·show(if P j then _ else _)+(if j=k then d else 0)=0
  rw[if_neg hj,if_neg hjk];rfl
 ·rw[<-lo i (pin i hi),q1 i hi]
 ·rw[<-lo i hi,q2 i hi hki]
theorem awp{n:Nat}{A M0 N0:Nat->Rw}(hM:∀i,i < n->∀j,j < n->M0 i j=A i j)(hN:∀i,i < n->∀j,j < n->N0 i j=A j i){P:Nat->Prop}{d d':Int}{M N:Nat->Rw}(b:BJ n (n+1) M0 P d M)(b':BJ n (n+1) N0 P d' N){k:Nat}(hk:k < n)(hnk:¬P k):N k k*d=M k k*d':=by
 obtain⟨X,x1,x2,x3,x4⟩:=colG hM b hk hnk;obtain⟨Y,y1,y2,y3,y4⟩:=colG (A:=fun i j=>A j i) hN b' hk hnk
 have s:=akj A X Y n n;rw[ye (i:=k) (a:=fun i=>dot n (A i) X) n hk fun j hj hne=>by
  by_cases q:P j
  ·show dot n (A j) X*Y j=0;rw[x3 j q,eX]
  ·rw[y2 j q hne,fW],ye (i:=k) (a:=fun j=>dot n (fun i=>A i j) Y) n hk fun j hj hne=>by
  by_cases q:P j
  ·show dot n (fun i=>A i j) Y*X j=0
   rw[y3 j q,eX]
  ·rw[x2 j q hne,fW]] at s
 rw[x4 k hk hnk,y4 k hk hnk,x1,y1] at s;exact s.symm
theorem aof{n:Nat}{A M0:Nat->Rw}(hM:∀i,i < n->∀j,j < n->M0 i j=A i j){P:Nat->Prop}(hP:∀j,j < n->P j){d:Int}{M:Nat->Rw}(b:BJ n (n+1) M0 P d M)(i:Nat)(hi:i < n):dot n (A i) (fun j=>M j n)=M0 i n*d:=by
 obtain⟨p1,p2,pin,p3,p4⟩:=b;obtain⟨q1,_⟩:=p4 (fun j=>if j < n then M j n else -d) fun j hj'=>by
  have hj:=pin j hj';show dot n (M j) _+M j n*(if n < n then _ else -d)=0
  rw[if_neg (by omega),ye (i:=j) _ hj fun j' hj' hne=>by rw[p3 j hj j' (hP j' hj'),if_neg (fU hne),eX],p3 j hj j (hP j hj),if_pos rfl,if_pos hj,gP,cO]
  omega
 have a:=q1 i (hP i hi);have a:dot n (M0 i) _+M0 i n*(if n < n then _ else -d)=0:=a
 rw[if_neg (by omega),gP] at a
 have e:=um (a:=M0 i) (b:=A i) (y:=fun j=>if j < n then M j n else -d) (z:=fun j=>M j n) n (fun j hj=>hM i hi j hj) fun j hj=>if_pos hj
 rw[e] at a;omega
def trq(qv:LL9):Nat->Rw:=fun i j=>dsq qv j i
section
variable{qv:LL9}(h:Hs qv)(hop:trapI qv=[])(c:Rw)
include h hop
theorem amr:∀k,k<=qv.length->BJ qv.length (qv.length+1) (aug (trq qv) qv.length c) (fun j=>j < k) (BS (aug (trq qv) qv.length c) k).1 (BS (aug (trq qv) qv.length c) k).2/\(BS (aug (trq qv) qv.length c) k).1=(BS (aug (dsq qv) qv.length c) k).1
 | 0,_=>⟨(BJ.zero ..).to fun j=>⟨fun z=>z.elim,fun z=>by omega⟩,rfl⟩
 | k+1,hk=>by
  obtain⟨a,e⟩:=amr k (by omega)
  obtain⟨a',_⟩:=ams h hop (ahz h hop c) k (by omega)
  have p:=a8e h hop (ahz h hop c) a' (by omega)
  have q:=awp (A:=dsq qv) (fun i hi j hj=>by unfold aug;rw[if_pos hj]) (fun i hi j hj=>by unfold aug trq;rw[if_pos hj]) a' a (k:=k) (by omega) (by omega)
  have d0:=a'.pos;rw[e] at q;have q2:(BS (aug (trq qv) qv.length c) k).2 k k=(BS (aug (dsq qv) qv.length c) k).2 k k:=by
   rw[cO,cO _ (BS (aug (dsq qv) qv.length c) k).1] at q;exact dH (by omega) q
  refine⟨(a.step (by omega) (by omega) (by rw[q2];exact p.1)).to fun j=>by omega,?_⟩
  exact q2
theorem a6t{k:Nat}(hk:k < qv.length):0 < (BS (aug (trq qv) qv.length c) k).2 k k:=(amr h hop c (k+1) (by omega)).1.pos
def topT(qv:LL9)(c:Rw):Rw:=fun i=>(BS (aug (trq qv) qv.length c) qv.length).2 i qv.length
theorem azk(i:Nat)(hi:i < qv.length):dot qv.length (fun j=>dsq qv j i) (topT qv c)=c i*botm qv c:=by
 obtain⟨a,e⟩:=amr h hop c qv.length (aL _);have q:=aof (A:=trq qv) (fun i hi j hj=>by unfold aug;rw[if_pos hj]) (fun j hj=>hj) a i hi
 rw[e] at q;have e2:aug (trq qv) qv.length c i qv.length=c i:=by unfold aug;rw[if_neg (by omega)]
 rw[e2] at q;exact q
theorem azv{u:Rw}(hu:∀i,i < qv.length->0<=dot qv.length (dsq qv i) u):∀i,i < qv.length->0<=u i:=fun j hj=>by
 have:=ao8 h hop (X:=fun d => - xt u d) (fun d hd=>by show - xt u d=0;unfold xt;rw[if_pos hd];rfl) (fun i i0 i1 _=>by
  have a:=hu i.toNat (by omega)
  rw[au1 h u (by omega),show((i.toNat:Nat):Int)=i by omega] at a
  rw[ate h hop];show _*(-(if i < 0 then 0 else u i.toNat))<=_
  rw[if_neg (by omega),gP]
  omega) (j:Int) (by omega) (by omega)
 unfold xt at this;rw[if_neg (by omega),cD] at this
 omega
theorem au9{v:Rw}(hv:∀j,j < qv.length->0<=dot qv.length (fun i=>dsq qv i j) v):∀i,i < qv.length->0<=v i:=fun k hk=>by
 have ok:=azj h hop (fun i=>if i=k then 1 else 0)
 have b0:=(ahx h hop (fun i=>if i=k then 1 else 0)).1
 have un:=azv h hop (u:=tops qv fun i=>if i=k then 1 else 0) fun i hi=>by
  rw[ok i hi];split <;> omega
 have s:=akj (dsq qv) (tops qv fun i=>if i=k then 1 else 0) v qv.length qv.length
 rw[ye (i:=k) (a:=fun i=>dot qv.length (dsq qv i) _) _ hk fun j hj hne=>by
  show dot qv.length (dsq qv j) _*v j=0;rw[ok j hj,if_neg hne,eX,eX]] at s
 have t:0<=dot qv.length (fun j=>dot qv.length (fun i=>dsq qv i j) v) (tops qv fun i=>if i=k then 1 else 0):=ayx _ fun j hj=>Int.mul_nonneg (hv j hj) (un j hj)
 rw[<-s,ok k hk,if_pos rfl,mC] at t;apply bF;intro z;have:=Int.mul_neg_of_pos_of_neg b0 (show v k < 0 by omega)
 omega
end
section
variable{qv:LL9}(h:Hs qv)(hop:trapI qv=[])
include h hop
end
def atv(qv:LL9)(g:Rw)(i:Nat):Int:=dot qv.length (fun j=>dsq qv j i) g
def dl(qv:LL9)(i:Nat):Int:=((dr qv (i:Int)).length:Int)
theorem a2c(qv:LL9)(a b:Rw)(i:Nat):atv qv (fun j=>a j+b j) i=atv qv a i+atv qv b i:=akk _
theorem ah0(qv:LL9)(x:Int)(a:Rw)(i:Nat):atv qv (fun j=>x*a j) i=x*atv qv a i:=au0 x _
section
variable{qv:LL9}(h:Hs qv)(hop:trapI qv=[])(w:Rw)
include h hop
end
section
variable{qv:LL9}(h:Hs qv)(hop:trapI qv=[])(c:Rw)
include h hop
end
theorem azw(n:Nat)(r:Rw){k:Nat}(hk:k < n):atI ((aK n).map fun j=>D.int (r j)) (k:Int)=some (.int (r k)):=aik hk
theorem ah3{n:Nat}{A:Nat->Rw}(hn:n<=100):ue [.val (.lst (mtD n n A))]=some (.ok (.fr (mtD n n fun i j=>A j i)),[.val (.lst (mtD n n A))]):=by
 have col:∀k,k < n->compD (di 0) (ret true) aap (mtD n n A) [] [.emp,.val (.int (k:Int))]=some (.ok ((aK n).map fun i=>.int (A i k)),abe .emp (mtD n n A)::[.val (.int (k:Int))]):=fun k hk=>by
  have eg:∀i,((aK n).map fun j=>D.int (A i j))[k]? = some (.int (A i k)):=fun i=>by
   rw[bA,cB hk];rfl
  rw[uo (f:=fun d=>match d with | .lst l=>(l[k]?).getD .non | d=>d)]
  ·congr 3
   unfold mtD;rw[bL,dN];apply fV;intro i _;show(((aK n).map fun j=>D.int (A i j))[k]?).getD .non=.int (A i k)
   rw[eg i];rfl
  ·intro d hd;unfold mtD at hd;obtain⟨i,_,rfl⟩:=bV.mp hd;have k1:=azw n (A i) hk;have k2:=eg i;unfold rwD;generalize (aK n).map (fun j=>D.int (A i j))=rr at *
   simp[aap,k1,k2]
 have comp:=uq (b:=di 0) (mc:=ret true) (me:=aao) (fun j ys ρ=>∃o1:Sl,ρ=[o1,.val (.lst (mtD n n A))]/\ys=mtD j n fun i j=>A j i)
  (l:=rangeD 0 n) (ys:=[]) (ρ:=[.emp,.val (.lst (mtD n n A))]) 0 ⟨.emp,rfl,rfl⟩ ?_
 ·obtain⟨ys,ρ',e6,o1,rfl,rfl⟩:=comp;have rl:(rangeD 0 n).length=n:=by simp[rangeD]
  rw[rl,cN] at e6;have hl:=rm n n A;have hc:(mtD n n fun i j=>A j i).length<=capS:=by rw[rm];exact cz (by omega)
  have hb:n < 4611686018427387904:=by omega
  generalize (mtD n n fun i j=>A j i)=m2 at *
  generalize mtD n n A=mm at *;simp[ue,aeu,hl,hb,e6,hc]
 ·rintro k z ys ρ hd ⟨o1,rfl,rfl⟩
  have hk:k < n:=by
   have:=(aQ.mp hd).1
   simpa[rangeD] using this
  have ez:z=.int (k:Int):=by
   unfold rangeD at hd;rw[bA,cB hk] at hd;have:=(bU hd).symm
   simpa using this
  subst ez;have e:=col k hk;have hc:((aK n).map fun i=>D.int (A i k)).length<=capS:=by rw[u9 n (fun i=>A i k)];exact cz (by omega)
  refine⟨[.val (.int (k:Int)),.val (.lst (mtD n n A))],_,true,rfl,rfl,.inr ⟨rfl,rwD n (fun i=>A i k),[.val (.int (k:Int)),.val (.lst (mtD n n A))],?_,_,rfl,?_⟩⟩
  ·unfold rwD;generalize (aK n).map (fun i=>D.int (A i k))=rr at *
   generalize mtD n n A=mm at *;simp[aao,e,hc]
  ·rw[cN,agh]
section
variable{qv:LL9}(h:Hs qv)
include h
end
theorem ahn(a y:Rw):∀n,dot n a y=((aK n).map fun j=>a j*y j).sum
 | 0=>rfl
 | n+1=>by
  rw[iI,cI,sU,<-ahn a y n];show dot n a y+a n*y n=_;simp
section
variable{qv:LL9}(h:Hs qv)(hop:trapI qv=[])
include h hop
end
def fdo(l:List Int)(d m:Int):Nat:=if l.getD (m % (l.length:Int)).toNat 0=d then 1 else 0
def gsm(l:List Int)(d a:Int):Nat->Nat
 | 0=>0
 | n+1=>gsm l d a n+fdo l d (a+(n:Int))
theorem ars(qv:LL9)(as:List Int)(y d:Int):∀n,us qv as y d n=gsm (dr qv y) d (ar as y) n
 | 0=>rfl
 | n+1=>by
  show us qv as y d n+_=gsm (dr qv y) d (ar as y) n+_;rw[ars qv as y d n];rfl
theorem auo(l:List Int)(d m:Int):fdo l d (m+(l.length:Int))=fdo l d m:=by
 unfold fdo;rw[lU]
theorem at9(l:List Int)(d a:Int):∀n,gsm l d a (n+l.length)=gsm l d a n+gsm l d a l.length
 | 0=>by rw[cN];show _=0+_;omega
 | n+1=>by
  rw[show n+1+l.length=(n+l.length)+1 by omega]
  show gsm l d a (n+l.length)+fdo l d (a+((n+l.length:Nat):Int))=gsm l d a n+fdo l d (a+(n:Int))+gsm l d a l.length;rw[at9 l d a n,show a+((n+l.length:Nat):Int)=a+(n:Int)+(l.length:Int) by omega,auo]
  omega
theorem al1(l:List Int)(d a:Int):∀n,gsm l d a (n+1)=fdo l d a+gsm l d (a+1) n
 | 0=>by
  show 0+fdo l d (a+((0:Nat):Int))=fdo l d a+0;rw[show a+((0:Nat):Int)=a by omega]
  omega
 | n+1=>by
  show gsm l d a (n+1)+fdo l d (a+((n+1:Nat):Int))=fdo l d a+(gsm l d (a+1) n+fdo l d (a+1+(n:Int)));rw[al1 l d a n,show a+((n+1:Nat):Int)=a+1+(n:Int) by omega]
  omega
theorem axg(l:List Int)(d a:Int):gsm l d (a+1) l.length=gsm l d a l.length:=by
 have e1:=al1 l d a l.length;have e2:gsm l d a (l.length+1)=gsm l d a l.length+fdo l d (a+(l.length:Int)):=rfl;rw[auo] at e2;omega
theorem apk(l:List Int)(d:Int):∀n,n<=l.length->gsm l d 0 n=(l.take n).count d
 | 0,_=>by simp[gsm]
 | n+1,hn=>by
  show gsm l d 0 n+fdo l d (0+(n:Int))=_;rw[apk l d n (by omega),xG,aF (by omega),eN]
  unfold fdo;rw[mG,cP (by omega) (by omega),cD,aM,aF (by omega)]
  show _+(if l[n]=d then 1 else 0)=_+[l[n]].count d
  rw[ji];simp
theorem aua(l:List Int)(d:Int):∀a:Nat,gsm l d (a:Int) l.length=l.count d
 | 0=>by
  have:=apk l d l.length (aL _);rw[mH] at this;exact this
 | a+1=>by
  rw[show((a+1:Nat):Int)=(a:Int)+1 by omega,axg,aua l d a]
theorem an1(l:List Int)(d:Int)(a n:Nat):∀k,gsm l d (a:Int) (n+k*l.length)=gsm l d (a:Int) n+k*l.count d
 | 0=>by simp
 | k+1=>by
  rw[pK,<-Nat.add_assoc,at9,an1 l d a n k,aua,pK];omega
theorem a1b(l:List Int)(d:Int)(a:Nat){m n:Nat}{g:Int}(e:(m:Int)=(n:Int)+(l.length:Int)*g):(gsm l d (a:Int) m:Int)=(gsm l d (a:Int) n:Int)+(l.count d:Int)*g:=by
 rcases Int.le_total 0 g with z | z
 ·obtain⟨k,rfl⟩:=lR z;have em:m=n+k*l.length:=by
   have:((k*l.length:Nat):Int)=(l.length:Int)*(k:Int):=by rw[iK,cO]
   omega
  rw[em,an1,gH,iK,cO (k:Int)]
 ·obtain⟨k,hk⟩:=lR (show 0 <= -g by omega)
  have hg:g = -(k:Int):=by omega
  subst hg;have em:n=m+k*l.length:=by
   have:((k*l.length:Nat):Int)=(l.length:Int)*(k:Int):=by rw[iK,cO]
   rw[gP] at e;omega
  rw[em,an1,gH,iK,gP,cO (k:Int)];omega
theorem ajc(f:Int->Nat):∀l:List Int,(((l.map f).sum:Nat):Int)=(l.map fun y=>(f y:Int)).sum
 | []=>rfl
 | y::l=>by
  rw[aV,cA,aV,cA,gH,ajc f l]
theorem ar7(a g:Rw)(f:Int->Int)(b:Int->Int):∀n,(∀i:Nat,i < n->f (i:Int)=b (i:Int)+a i*g i)->((upto n).map f).sum=((upto n).map b).sum+dot n a g
 | 0,_=>rfl
 | n+1,h=>by
  have e:upto (n+1)=upto n++[(n:Int)]:=by
   unfold upto;rw[iI,cI];rfl
  rw[e,cI,cI,sU,sU,ar7 a g f b n fun i hi=>h i (by omega)]
  show _+(f (n:Int)+0)=_+(b (n:Int)+0)+(dot n a g+a n*g n);rw[h n (by omega)]
  omega
theorem au2(c e g:Rw)(j:Nat):∀n,dot n (fun k=>(if k=j then c k else 0) - e k) g=(if j < n then c j*g j else 0) - dot n e g
 | 0=>rfl
 | n+1=>by
  show dot n _ g+((if n=j then c n else 0) - e n)*g n=_ - (dot n e g+e n*g n)
  rw[au2 c e g j n,Int.sub_mul]
  by_cases q:n=j
  ·subst q;rw[if_pos rfl,if_neg (by omega),if_pos (by omega)]
   omega
  ·rw[if_neg q,eX]
   by_cases w:j < n
   ·rw[if_pos w,if_pos (by omega)]
    omega
   ·rw[if_neg w,if_neg (by omega)]
    omega
theorem ay8(qv:LL9)(g:Rw){j:Nat}(hj:j < qv.length):atv qv g j=((dr qv (j:Int)).length:Int)*g j - dot qv.length (fun k=>((dr qv (k:Int)).count (j:Int):Int)) g:=by
 have:=au2 (fun k=>((dr qv (k:Int)).length:Int)) (fun k=>((dr qv (k:Int)).count (j:Int):Int)) g j qv.length
 rw[if_pos hj] at this;exact this
section
variable{qv:LL9}(h:Hs qv){as:List Int}(ha:Arr qv as)
include h ha
theorem amo{s t:List Int}(hs:InR qv s)(ht:InR qv t)(g:Rw)(e:∀i:Nat,i < qv.length->(t.count (i:Int):Int)=(s.count (i:Int):Int)+((dr qv (i:Int)).length:Int)*g i)(d:Int):(arv qv d as t:Int)=(arv qv d as s:Int)+dot qv.length (fun k=>((dr qv (k:Int)).count d:Int)) g:=by
 rw[ah1 h d t ha ht,ah1 h d s ha hs,ajc,ajc];refine ar7 _ g _ _ qv.length fun i hi =>?_
 have a0:=(ha.at (x:=(i:Int)) (by omega) (by omega)).1
 obtain⟨a,ea⟩:=lR a0;rw[ars,ars,ea];exact a1b _ d a (e i hi)
theorem ax4{w1 w2:Int->Nat}{s t:List Int}(hs:InR qv s)(ht:InR qv t)(ss:Stb qv as w1 s)(st:Stb qv as w2 t)(e:go qv as s=go qv as t):∃g:Rw,∀j:Nat,j < qv.length->atv qv g j=(w1 (j:Int):Int) - (w2 (j:Int):Int):=by
 have ex:∀i:Nat,i < qv.length->((s.count (i:Int):Int) - (t.count (i:Int):Int)) % ((dr qv (i:Int)).length:Int)=0:=fun i hi=>by
  have e1:=akr h (y:=(i:Int)) (by omega) (by omega) s ha hs
  have e2:=akr h (y:=(i:Int)) (by omega) (by omega) t ha ht
  rw[e,e2] at e1;have:=Int.emod_eq_emod_iff_emod_sub_eq_zero.mp e1.symm;rw[show ar as (i:Int)+(s.count (i:Int):Int) - (ar as (i:Int)+(t.count (i:Int):Int))=(s.count (i:Int):Int) - (t.count (i:Int):Int) by omega] at this
  exact this
 have hc:∀i:Nat,i < qv.length->(s.count (i:Int):Int)=(t.count (i:Int):Int)+((dr qv (i:Int)).length:Int)*(((s.count (i:Int):Int) - (t.count (i:Int):Int)) / ((dr qv (i:Int)).length:Int)):=fun i hi=>by
  have:=Int.mul_ediv_cancel_of_emod_eq_zero (ex i hi);omega
 refine⟨fun i=>((s.count (i:Int):Int) - (t.count (i:Int):Int)) / ((dr qv (i:Int)).length:Int),fun j hj =>?_⟩
 have a:=amo h ha ht hs _ hc (j:Int);rw[ay8 qv _ hj];have c:=hc j hj;have s1:=ss (j:Int) (by omega) (by omega)
 have s2:=st (j:Int) (by omega) (by omega)
 omega
theorem ldo_last{t:List Int}(ht:InR qv t){x:Int}(x0:0<=x)(x1:x < (qv.length:Int)):(lasts qv (go qv as t)).getD x.toNat 0=ldo qv as x (t.count x):=by
 have hk:x.toNat < qv.length:=by omega
 unfold lasts;rw[aM,bA,cB hk];show aak qv (go qv as t) ((x.toNat:Nat):Int)=_;rw[show((x.toNat:Nat):Int)=x by omega]
 unfold aak ldo wd;rw[akr h x0 x1 _ ha ht]
 congr 2
 rw[show ar as x+((t.count x:Int) - 1)=ar as x+(t.count x:Int) - 1 by omega]
 exact Int.emod_sub_emod _ _ _
theorem axo{w:Int->Nat}{S t:List Int}(lS:Lg qv as w S)(sS:Stb qv as w S)(ht:InR qv t)(st:Stb qv as w t)(hf:trapI (lp (lasts qv (go qv as t)))=[])(x:Int):S.count x=t.count x:=by
 obtain⟨le,more⟩:=aqq h ha lS sS ht st;apply bF;intro q;have hx:S.count x < t.count x:=by have:=le x;omega
 have hr:∀y,S.count y < t.count y->0<=y/\y < (qv.length:Int):=fun y hy=>bF fun z=>by
  rw[InR.count ht z] at hy;omega
 have w:=j7 h (af4 h t ha ht);have ll:=gm qv (go qv as t);have cl:∀z,Rch (lp (lasts qv (go qv as t))) x z->S.count z < t.count z:=fun z hz=>by
  induction hz with
  | base=>exact hx
  | @step y d r y0 hd ih =>
   have hy:=hr y ih;rw[ama hy.1 (by rw[ll];exact hy.2),bY,ldo_last h ha ht hy.1 hy.2] at hd
   rw[hd];exact(more y ih).2
 have hxr:=hr x hx;have:=amw (qv:=lp (lasts qv (go qv as t))) hxr.1 (by rw[aae,ll];exact hxr.2) fun z hz=>(hr z (cl z hz)).1
 rw[hf] at this;cases this
theorem a2e{bs:List Int}(hb:Arr qv bs)(e:∀i:Nat,i < qv.length->ar as (i:Int)=ar bs (i:Int)):as=bs:=by
 have l1:=ha.len;have l2:=hb.len;apply jY;intro i
 by_cases hi:i < qv.length
 ·have e1:=e i hi;unfold ar at e1;rw[show((i:Nat):Int).toNat=i by omega,aM,aM,aF (by omega),aF (by omega)] at e1
  rw[aF (by omega),aF (by omega)]
  exact congrArg some e1
 ·rw[dX (by omega),dX (by omega)]
theorem a4o{w1 w2:Int->Nat}{S1 S:List Int}(l1:Lg qv as w1 S1)(s1:Stb qv as w1 S1)(hS:InR qv S)(sS:Stb qv as w2 S)(hf:trapI (lp (lasts qv (go qv as S)))=[])(g:Rw)(hg:∀j:Nat,j < qv.length->atv qv g j=(w1 (j:Int):Int) - (w2 (j:Int):Int))(hn:∀i:Nat,i < qv.length->0<=(S.count (i:Int):Int)+((dr qv (i:Int)).length:Int)*g i):go qv as S1=go qv as S:=by
 have hin:=ajn ((aK qv.length).map fun(i:Nat)=>(S.count (i:Int):Int)+((dr qv (i:Int)).length:Int)*g i) qv.length
 have hc:∀i:Nat,i < qv.length->((rowW ((aK qv.length).map fun(i:Nat)=>(S.count (i:Int):Int)+((dr qv (i:Int)).length:Int)*g i) qv.length).count (i:Int):Int)=(S.count (i:Int):Int)+((dr qv (i:Int)).length:Int)*g i:=fun i hi=>by
  have:=acq ((aK qv.length).map fun(i:Nat)=>(S.count (i:Int):Int)+((dr qv (i:Int)).length:Int)*g i) qv.length i
  rw[if_pos hi,aM,bA,cB hi] at this;have e:(rowW ((aK qv.length).map fun(i:Nat)=>(S.count (i:Int):Int)+((dr qv (i:Int)).length:Int)*g i) qv.length).count (i:Int)=((S.count (i:Int):Int)+((dr qv (i:Int)).length:Int)*g i).toNat:=this
  have:=hn i hi;rw[e];omega
 generalize rowW ((aK qv.length).map fun(i:Nat)=>(S.count (i:Int):Int)+((dr qv (i:Int)).length:Int)*g i) qv.length=t at *
 have st:Stb qv as w1 t:=fun x x0 x1=>by
  obtain⟨j,rfl⟩:=lR x0;have hj:j < qv.length:=by omega
  have a:=amo h ha hS hin g hc (j:Int);have b:=sS (j:Int) x0 x1;have c:=hc j hj;have d:=hg j hj;rw[ay8 qv g hj] at d;omega
 have eg:go qv as t=go qv as S:=a2e h (af4 h t ha hin) (af4 h S ha hS) fun i hi=>by
  rw[akr h (by omega) (by omega) t ha hin,akr h (by omega) (by omega) S ha hS,hc i hi,<-Int.add_assoc,Int.add_mul_emod_self_left]
 rw[<-eg];exact go_same h ha l1.inR hin (axo h ha l1 s1 hin st (by rw[eg];exact hf))
end
section
variable{qv:LL9}(h:Hs qv)
include h
theorem Led.arr{as rs s:List Int}(l:Led qv as rs s)(ha:Arr qv as):Arr qv (go qv as s):=af4 h s ha (l.ok h ha).1.inR
theorem Led.free{as rs s:List Int}(l:Led qv as rs s):Arr qv as->trapI (lp (lasts qv as))=[]->trapI (lp (lasts qv (go qv as s)))=[]:=by
 induction l with
 | nil as=>intro _ hf;exact hf
 | @cons as k T rs s h0 h1 hp hn t ih =>
  intro ha hf;obtain⟨b1,b2,b3⟩:=ab4 h ha h0 h1 T hp;have al:=ak4 h ha h0 h1 hf T hp;have f:=auh (j7 h b1) h0 (by rw[gm];exact h1) hn al
  rw[uc,ahf];exact ih b1 f
omit h in
theorem Led.app{as rs s:List Int}(l:Led qv as rs s):∀{rs' s':List Int},Led qv (go qv as s) rs' s'->Led qv as (rs++rs') (s++s'):=by
 induction l with
 | nil as=>intro rs' s' t;exact t
 | @cons as k T rs s h0 h1 hp hn t ih =>
  intro rs' s' t';rw[dB];rw[uc,ahf] at t';exact .cons h0 h1 hp hn (ih t')
theorem apb:∀(rs:List Int) {A:List Int},InR qv rs->Arr qv A->trapI (lp (lasts qv A))=[]->∃bs s,Arr qv bs/\trapI (lp (lasts qv bs))=[]/\Led qv bs rs s/\go qv bs s=A
 | [],A,_,hA,hf=>⟨A,[],hA,hf,.nil _,rfl⟩
 | k::rs,A,hr,hA,hf=>by
  obtain⟨cs,s,c1,c2,c3,c4⟩:=apb rs (fun x hx=>hr x (aN _ hx)) hA hf
  have hk:=hr k (aR ..);obtain⟨as,T,a1,a2,_,a4,a5,a6⟩:=anu h hk.1 hk.2 c1 c2;refine⟨as,vis qv as k T++s,a1,a2,.cons hk.1 hk.2 a6 a5 (by rw[a4];exact c3),?_⟩
  rw[uc,ahf,a4,c4]
theorem avw{as rs1 rs2 s1 s2:List Int}(ha:Arr qv as)(hf:trapI (lp (lasts qv as))=[])(l1:Led qv as rs1 s1)(l2:Led qv as rs2 s2):go qv as s1=go qv as s2↔∃g:Rw,∀j:Nat,j < qv.length->atv qv g j=(rs1.count (j:Int):Int) - (rs2.count (j:Int):Int):=by
 constructor
 ·intro e;obtain⟨a1,b1⟩:=l1.ok h ha;obtain⟨a2,b2⟩:=l2.ok h ha;exact ax4 h ha a1.inR a2.inR b1 b2 e
 ·rintro⟨g,hg⟩
  obtain⟨C,hC⟩:∃C:Nat,∀i:Nat,i < qv.length->6*(g i).natAbs<=C:=by
   have:∀n,∃C:Nat,∀i:Nat,i < n->6*(g i).natAbs<=C:=fun n=>by
    induction n with
    | zero=>exact⟨0,fun i hi=>by omega⟩
    | succ n ih =>
     obtain⟨C,hC⟩:=ih;refine⟨C+6*(g n).natAbs,fun i hi =>?_⟩
     by_cases q:i=n
     ·subst q;omega
     ·have:=hC i (by omega);omega
   exact this _
  have zin:=ajn (aU qv.length (C:Int)) qv.length;have zc:∀i:Nat,i < qv.length->(rowW (aU qv.length (C:Int)) qv.length).count (i:Int)=C:=fun i hi=>by
   rw[acq,if_pos hi];simp[hi]
  generalize rowW (aU qv.length (C:Int)) qv.length=zs at *;obtain⟨bs,sz,hb,hbf,lz,rfl⟩:=apb h zs zin ha hf;have L1:=lz.app l1;have L2:=lz.app l2;obtain⟨a1,b1⟩:=L1.ok h hb;obtain⟨a2,b2⟩:=L2.ok h hb;have:=a4o h hb a1 b1 a2.inR b2 (L2.free h hb hbf) g (fun j hj=>by
   rw[hg j hj,eN,eN];omega) fun i hi=>by
   have q2:(sz++s2).count (i:Int)=(zs++rs2).count (i:Int)+arv qv (i:Int) bs (sz++s2):=b2 (i:Int) (by omega) (by omega)
   have z:=zc i hi;have c:=hC i hi;rw[eN (l₁:=zs),z] at q2;have d6:=(h.dr (x:=(i:Int)) (by omega) (by omega)).2.1
   have:(((dr qv (i:Int)).length:Int)*g i).natAbs<=6*(g i).natAbs:=by
    rw[nR];exact vH _ (by simpa using d6)
   omega
  rw[uc,uc] at this;exact this
end
section
variable{qv:LL9}(h:Hs qv){as:List Int}(ha:Arr qv as)
include h ha
theorem alw:f__law_lasts [.val (hD qv),.val (.tup (as.map D.int))]=some (.ok (.fr ((lasts qv as).map D.int)),[.val (hD qv),.val (.tup (as.map D.int))]):=by
 have e1:(f__law_lasts:Fd)=fnD 2 2 acf:=rfl;have hl:=ha.len;have hm:=h.most;have hle:(as.map D.int).length<=(hDs qv).length:=by rw[xx,aW];omega
 have comp:=uq (b:=bTup 2 (lq (di 0) (lq (di 1) bNil))) (mc:=ret true) (me:=abj) (fun j ys ρ=>∃(o1 o2:Sl),ρ=[o1,o2]/\ys=((aK j).map fun(i:Nat)=>aak qv as (i:Int)).map D.int)
  (l:=ut (as.map D.int) (hDs qv)) (ys:=[]) (ρ:=[.emp,.emp]) 0 ⟨.emp,.emp,rfl,rfl⟩ ?_
 ·obtain⟨ys,ρ',e6,o1,o2,rfl,rfl⟩:=comp;rw[agn hle,aW,cN,hl] at e6;have hc:((lasts qv as).map D.int).length<=capS:=by rw[aW,gm];exact cz (by omega)
  have hle2:as.length<=(hDs qv).length:=by simpa using hle
  change compD _ _ _ _ _ _=some (.ok ((lasts qv as).map D.int),_) at e6
  generalize (lasts qv as).map D.int=ld at *;simp only[hD];simp[f__law_lasts,acf,hle2,e6,hc]
 ·rintro j d ys ρ hd ⟨o1,o2,rfl,rfl⟩
  obtain⟨d1,d2,g1,g2,rfl⟩:=ad5 hd;obtain⟨r,hr,rfl⟩:=aj7 g2;rw[bA] at g1;obtain⟨a,ea,rfl⟩:=eQ.mp g1;obtain⟨b0,b1⟩:=ha.ok j a r ea hr;have er:dr qv (j:Int)=r:=by unfold dr;rw[aM,cD,hr];rfl
  have e3:ar as (j:Int)=a:=by unfold ar;rw[aM,cD,ea];rfl
  have e4:=avs b0 b1;have e5:aak qv as ((0+j:Nat):Int)=r.getD ((a - 1) % (r.length:Int)).toNat 0:=by rw[cN];unfold aak wd;rw[er,e3]
  refine⟨[.val (.int a),.val (.tup (r.map D.int))],_,true,by simp,rfl,.inr ⟨rfl,.int (r.getD ((a - 1) % (r.length:Int)).toNat 0),[.val (.int a),.val (.tup (r.map D.int))],by simp[abj,e4],_,_,rfl,?_⟩⟩
  rw[aio,cI,e5];rfl
end
section
variable{L:List Int}(w:Ways L)
include w
theorem aui{s:Int}(hs:0<=s):∀(l:List D) (p:Int) (o:Sl),p < (L.length:Int) ->
  ((∃t,1<=t/\t<=l.length/\itr L p t=s)/\∃ρ,forD (di 3) pq l [.val (.lst (L.map D.int)),.val (.int s),.val (.int p),o]=some (.ret (.v (.bl false)),.val (.lst (L.map D.int))::ρ)) ∨
  ((∀t,1<=t->t<=l.length->itr L p t≠s)/\∃q o',forD (di 3) pq l [.val (.lst (L.map D.int)),.val (.int s),.val (.int p),o]=some (.nx,[.val (.lst (L.map D.int)),.val (.int s),.val (.int q),o']))
 | [],p,o,hp=>.inr ⟨fun t a b=>by simp at b;omega,p,o,rfl⟩
 | d::r,p,o,hp=>by
  by_cases hq:0<=p/\nxt L p=s
  ·obtain⟨h0,hq⟩:=hq;have e:=ac0 (ns:=L) h0 hp;have en:nxt L p=L.getD p.toNat 0:=if_pos h0;rw[<-en,hq] at e;refine .inl ⟨⟨1,by omega,by simp,hq⟩,[.val (.int s),.val (.int s),.val d],?_⟩
   generalize L.map D.int=LL at *;simp[mj,pq,h0,e]
  ·have one:pq [.val (.lst (L.map D.int)),.val (.int s),.val (.int p),.val d]=some (.nx,[.val (.lst (L.map D.int)),.val (.int s),.val (.int (nxt L p)),.val d]):=by
    by_cases h0:0<=p
    ·have e:=ac0 (ns:=L) h0 hp;have en:nxt L p=L.getD p.toNat 0:=if_pos h0;rw[<-en] at e;have hne:¬nxt L p=s:=fun z=>hq ⟨h0,z⟩
     generalize nxt L p=np at *;generalize L.map D.int=LL at *;simp[pq,h0,e,hne]
    ·have en:nxt L p=p:=if_neg h0;rw[en];simp[pq,h0]
   have hne:nxt L p≠s:=fun z=>by
    by_cases h0:0<=p
    ·exact hq ⟨h0,z⟩
    ·have en:nxt L p=p:=if_neg h0;omega
   rcases aui hs r (nxt L p) (.val d) (ayi w hp) with⟨⟨t,t1,t2,t3⟩,ρ,z⟩ | ⟨z1,q,o',z⟩
   ·refine .inl ⟨⟨t+1,by omega,by simp;omega,t3⟩,ρ,?_⟩
    generalize nxt L p=np at *;generalize L.map D.int=LL at *;rw[mj];simp[one,z]
   ·refine .inr ⟨fun t a b =>?_,q,o',?_⟩
    ·cases t with
     | zero=>omega
     | succ t =>
      cases t with
      | zero=>exact hne
      | succ t=>exact z1 (t+1) (by omega) (by simp at b;omega)
    ·generalize nxt L p=np at *;generalize L.map D.int=LL at *;rw[mj];simp[one,z]
theorem axp{s:Int}(hs:0<=s)(h1:s < (L.length:Int))(o1 o2:Sl) :
  ((∃t,1<=t/\t<=L.length/\itr L s t=s)/\∃ρ,l2__law_free [.val (.lst (L.map D.int)),.val (.int s),o1,o2]=some (.ret (.v (.bl false)),.val (.lst (L.map D.int))::ρ)) ∨
  ((∀t,1<=t->t<=L.length->itr L s t≠s)/\∃q1 q2,l2__law_free [.val (.lst (L.map D.int)),.val (.int s),o1,o2]=some (.nx,[.val (.lst (L.map D.int)),.val (.int s),q1,q2])):=by
 have hm:=w.most;have hb:L.length < 4611686018427387904:=by omega
 have rl:(rangeD 0 L.length).length=L.length:=by simp[rangeD]
 have hl:(L.map D.int).length=L.length:=aW ..
 rcases aui w hs (rangeD 0 L.length) s o2 h1 with⟨c,ρ,z⟩ | ⟨c,q,o',z⟩
 ·rw[rl] at c;refine .inl ⟨c,ρ,?_⟩;generalize L.map D.int=LL at *;simp[l2__law_free,hl,hb,z]
 ·rw[rl] at c;refine .inr ⟨c,.val (.int q),o',?_⟩;generalize L.map D.int=LL at *;simp[l2__law_free,hl,hb,z]
theorem apn:∀(ss:List Int) (o1 o2 o3:Sl),(∀s∈ss,0<=s/\s < (L.length:Int)) ->
  ((∃s∈ss,∃t,1<=t/\t<=L.length/\itr L s t=s)/\∃ρ,forD (di 1) l2__law_free (ss.map D.int) [.val (.lst (L.map D.int)),o1,o2,o3]=some (.ret (.v (.bl false)),.val (.lst (L.map D.int))::ρ)) ∨
  ((¬ ∃s∈ss,∃t,1<=t/\t<=L.length/\itr L s t=s)/\∃ρ,forD (di 1) l2__law_free (ss.map D.int) [.val (.lst (L.map D.int)),o1,o2,o3]=some (.nx,.val (.lst (L.map D.int))::ρ))
 | [],o1,o2,o3,_=>.inr ⟨fun⟨_,hs,_⟩=>absurd hs fP,[o1,o2,o3],rfl⟩
 | s::r,o1,o2,o3,hs=>by
  have s0:=hs s (aR ..);rcases axp w s0.1 s0.2 o2 o3 with⟨c,ρ,z⟩ | ⟨c,q1,q2,z⟩
  ·refine .inl ⟨⟨s,aR ..,c⟩,ρ,?_⟩;generalize L.map D.int=LL at *;rw[aV,mj];simp[z]
  ·rcases apn r (.val (.int s)) q1 q2 fun x hx=>hs x (aN _ hx) with⟨⟨x,hx,c2⟩,ρ,z2⟩ | ⟨c2,ρ,z2⟩
   ·refine .inl ⟨⟨x,aN _ hx,c2⟩,ρ,?_⟩;generalize L.map D.int=LL at *;rw[aV,mj];simp[z,z2]
   ·refine .inr ⟨fun⟨x,hx,t,t1,t2,t3⟩ =>?_,ρ,?_⟩
    ·rcases bD.mp hx with rfl | hx
     ·exact c t t1 t2 t3
     ·exact c2 ⟨x,hx,t,t1,t2,t3⟩
    ·generalize L.map D.int=LL at *;rw[aV,mj];simp[z,z2]
theorem free_eq:vg [.val (.lst (L.map D.int))]=some (.ok (.v (.bl (decide (trapI (lp L)=[])))),[.val (.lst (L.map D.int))]):=by
 have hm:=w.most;have hb:L.length < 4611686018427387904:=by omega
 have hl:(L.map D.int).length=L.length:=aW ..
 have er:=abb L.length;rcases apn w (upto L.length) .emp .emp .emp fun s hs=>j4 hs with⟨c,ρ,z⟩ | ⟨c,ρ,z⟩
 ·rw[decide_eq_false ((aov w).mp c)];rw[<-er] at z;generalize L.map D.int=LL at *;simp[vg,adz,hl,hb,z]
 ·have:trapI (lp L)=[]:=bF fun q=>c ((aov w).mpr q)
  rw[decide_eq_true this];rw[<-er] at z;generalize L.map D.int=LL at *;simp[vg,adz,hl,hb,z]
end
def mu(x y:Nat):Nat:=if y=0 then 0 else (x*y).log2+(if x < y then 2 else 1)
theorem a0y{x y:Nat}(hy:y≠0):mu y (x % y) < mu x y:=by
 unfold mu;rw[if_neg hy]
 by_cases hr:x % y=0
 ·rw[if_pos hr];split <;> omega
 ·rw[if_neg hr];have hlt:x % y < y:=wZ _ (by omega)
  rw[if_neg (show ¬y < x % y by omega)]
  by_cases hxy:x < y
  ·rw[if_pos hxy,Nat.mod_eq_of_lt hxy,nD];omega
  ·rw[if_neg hxy];have h2:2*(x % y)<=x:=by
    have:=Nat.div_add_mod x y;have h1:1<=x / y:=(Nat.one_le_div_iff (by omega)).mpr (by omega)
    have:y*1<=y*(x / y):=mW _ h1;omega
   have h3:2*(y*(x % y))<=x*y:=by
    rw[Nat.mul_left_comm,nD x y];exact mW _ h2
   have h4:y*(x % y)≠0:=Nat.mul_ne_zero hy hr;have h5:(y*(x % y)).log2 < (x*y).log2:=by
    have a:=Nat.log2_self_le h4;have b:2 ^ ((y*(x % y)).log2+1)<=x*y:=by rw[Nat.pow_succ];omega
    have:=(Nat.le_log2 (by omega)).mpr b
    omega
   omega
theorem a8q{x y:Nat}(h:x*y < 2 ^ 1000):mu x y < 2000:=by
 unfold mu;split
 ·decide
 ·by_cases z:x*y=0
  ·rw[z];split <;> decide
  ·have:=(Nat.log2_lt z).mpr h;split <;> omega
theorem euclid{c:M Bool}{g:Sd}(fr:Int->Int->Sl->Ro)(hc:∀x y o,c (fr x y o)=some (.ok (decide (y≠0)),fr x y o))(hg:∀x y o,0 < y->∃o',g (fr x y o)=some (.nx,fr y (x % y) o'))(x y:Nat)(hb:x*y < 2 ^ 1000)(o:Sl):∃o',whileD c g fuel (fr x y o)=some (.nx,fr ((mX x y:Nat):Int) 0 o'):=by
 have loop:=uv (c:=c) (g:=g)
  (fun n ρ=>∃(a b:Nat) (o:Sl),n=mu a b/\mX a b=mX x y/\ρ=fr a b o)
  (fun ρ=>∃o:Sl,ρ=fr ((mX x y:Nat):Int) 0 o)
  ?_ fuel (mu x y) (fr x y o) (jC (a8q hb) (jC (by decide) aex)) ⟨x,y,o,rfl,rfl,rfl⟩
 ·obtain⟨ρ',e,o',rfl⟩:=loop;exact⟨o',e⟩
 ·rintro n ρ ⟨a,b,o,rfl,hab,rfl⟩
  by_cases hz:b=0
  ·subst hz;refine .inl ⟨fr a (0:Nat) o,?_,o,?_⟩
   ·have:=hc a (0:Nat) o;rw[this];rfl
   ·rw[<-hab,wH];rfl
  ·obtain⟨o',e⟩:=hg a b o (by omega)
   refine .inr ⟨fr a b o,fr b ((a:Int) % (b:Int)) o',mu b (a % b),?_,e,a0y hz,b,a % b,o',rfl,?_,?_⟩
   ·rw[hc a b o,decide_eq_true (by omega)]
   ·rw[<-hab,Nat.gcd_comm b,<-Nat.gcd_rec,Nat.gcd_comm]
   ·rw[Int.natCast_emod]
theorem azb(t:Int):gAbs (.int t)=some (.v (.int (t.natAbs:Int))):=by
 show some (Rv.v (.int _))=_
 congr 3
 try omega
theorem cd_one(t:Int)(x:Nat)(hb:x*t.natAbs < 2 ^ 1000)(a0 a3 a4:Sl):∃b3 b4,l1_common_divisor [a0,.val (.int (x:Int)),.val (.int t),a3,a4]=some (.nx,[a0,.val (.int ((mX x t.natAbs:Nat):Int)),.val (.int t),b3,b4]):=by
 obtain⟨o',e⟩:=euclid (c:=ux) (g:=uw) (fun x y o=>[a0,.val (.int x),.val (.int t),.val (.int y),o])
  (fun x y o=>by by_cases z:y=0 <;> simp[ux,z]) (fun x y o hy=>⟨.val (.int (x % y)),by
   have e:fMod x y=some (x % y):=by unfold fMod;rw[if_pos hy]
   simp[uw,e]⟩) x t.natAbs hb a4
 have e2:=azb t;refine⟨.val (.int 0),o',?_⟩;simp[l1_common_divisor,e2,e]
def BdW(W:Nat):Nat->Nat
 | 0=>W
 | k+1=>2*(BdW W k*BdW W k)
theorem a1u{qv:LL9}(h:Hs qv){W:Nat}(hw:∀r∈qv,r.length<=W){i j:Nat}(hi:i < qv.length):(dsq qv i j).natAbs<=W:=by
 have e:dr qv (i:Int)=qv[i]:=by
  unfold dr;rw[cD,aM,aF hi];rfl
 have:=hw _ (cZ hi);rw[<-e] at this;have c2:=List.count_le_length (a:=(j:Int)) (l:=dr qv (i:Int));unfold dsq;split <;> omega
section
variable{qv:LL9}(h:Hs qv)(hop:trapI qv=[])(c:Rw)
include h hop
theorem avz{W:Nat}(hW1:1<=W)(hw:∀r∈qv,r.length<=W)(hc:∀i,i < qv.length->(c i).natAbs<=W):∀k,k<=qv.length->∀i,i < qv.length->∀j,j<=qv.length->((BS (aug (trq qv) qv.length c) k).2 i j).natAbs<=BdW W k
 | 0,_,i,hi,j,hj=>by
  show(aug (trq qv) qv.length c i j).natAbs<=W;unfold aug trq;split
  ·rename_i hj';exact a1u h hw hj'
  ·exact hc i hi
 | k+1,hk,i,hi,j,hj=>by
  have ih:=avz hW1 hw hc k (by omega)
  have a:=(amr h hop c k (by omega)).1
  have d0:=a.pos;show(stM (BS (aug (trq qv) qv.length c) k).1 k (BS (aug (trq qv) qv.length c) k).2 i j).natAbs<=2*(BdW W k*BdW W k);have b1:=ih i hi j hj;have b2:=ih k (by omega) j hj
  have b3:=ih k (by omega) k (by omega)
  have b4:=ih i hi k (by omega)
  have one:1<=BdW W k:=by
   have:∀n,1<=BdW W n:=fun n=>by
    induction n with
    | zero=>exact hW1
    | succ n ih =>
     have:=tV ih ih;show 1<=2*(BdW W n*BdW W n);omega
   exact this k
  by_cases hik:i=k
  ·have e:stM (BS (aug (trq qv) qv.length c) k).1 k (BS (aug (trq qv) qv.length c) k).2 i j=(BS (aug (trq qv) qv.length c) k).2 k j:=by unfold stM;rw[if_pos hik]
   rw[e];have:=mW (BdW W k) one;omega
  ·have m:=am0 a.dvd (k:=k) (by omega) hi hik j
   generalize stM (BS (aug (trq qv) qv.length c) k).1 k (BS (aug (trq qv) qv.length c) k).2 i j=z at *;generalize (BS (aug (trq qv) qv.length c) k).2 k k=p at *;generalize (BS (aug (trq qv) qv.length c) k).2 k j=u at *;generalize (BS (aug (trq qv) qv.length c) k).2 i k=v at *;generalize (BS (aug (trq qv) qv.length c) k).2 i j=w at *;generalize (BS (aug (trq qv) qv.length c) k).1=d at *;generalize BdW W k=t at *;have k1:(p*w).natAbs<=t*t:=by rw[nR];exact tV b3 b1
   have k2:(v*u).natAbs<=t*t:=by rw[nR];exact tV b4 b2
   have k3:z.natAbs<=(d*z).natAbs:=by
    rw[nR];exact pH _ (by omega)
   rw[m] at k3;omega
theorem am1{W:Nat}(hW1:1<=W)(hw:∀r∈qv,r.length<=W)(hc:∀i,i < qv.length->(c i).natAbs<=W)(hB:∀k,k < qv.length->BdW W k < 18446744073709551616):abi [.val (.lst (mtD qv.length qv.length (trq qv))),.val (.lst ((aK qv.length).map fun i=>.int (c i)))]=some (.ok (.v (.tup [.lst ((aK qv.length).map fun i=>.int (topT qv c i)),.int (botm qv c)])),[.val (.lst (mtD qv.length qv.length (trq qv))),.val (.lst ((aK qv.length).map fun i=>.int (c i)))]):=by
 have hm:=h.most;have all:=amr h hop c;have e:=aqb (n:=qv.length) (A:=trq qv) (c:=c) h.most (fun k hk=>a6t h hop c hk) (fun k hk=>by
  obtain⟨a,b⟩:=all k (by omega)
  refine⟨a.pos,?_⟩;rw[b];refine rN (ams h hop (ahz h hop c) k (by omega)).2 ?_
  have:(6:Int) ^ k<=6 ^ 10:=by
   have:=vG (show 0 < 6 by decide) (show k<=10 by omega)
   exact_mod_cast this
  exact this) (fun k hk i hi=>by
  have a:=avz h hop c hW1 hw hc k (by omega) i hi k (by omega)
  have:=hB k hk;omega)
 rw[(all qv.length (aL _)).2] at e;exact e
theorem ker0{v:Rw}(hv:∀j,j < qv.length->atv qv v j=0){k:Nat}(hk:k < qv.length):v k=0:=by
 have n1:=au9 h hop (v:=v) (fun j hj=>by have:=hv j hj;unfold atv at this;rw[this];exact oY _) k hk
 have n2:=au9 h hop (v:=fun j => -1*v j) (fun j hj=>by
  have:=ah0 qv (-1) v j;rw[hv j hj] at this;unfold atv at this;rw[this]
  decide) k hk
 have n2:0 <= -1*v k:=n2;omega
theorem a05(m:Int):(∃g:Rw,∀j,j < qv.length->atv qv g j=m*c j)↔∀i,i < qv.length->botm qv c ∣ m*topT qv c i:=by
 have b:=(ahx h hop c).1;have tk:∀j,j < qv.length->atv qv (topT qv c) j=c j*botm qv c:=fun j hj=>azk h hop c j hj
 constructor
 ·rintro⟨g,hg⟩ i hi
  have z:=ker0 h hop (v:=fun i=>m*topT qv c i+(- botm qv c)*g i) (fun j hj=>by
   rw[a2c qv (fun i=>m*topT qv c i) (fun i=>(- botm qv c)*g i) j,ah0,ah0,tk j hj,hg j hj,oW,fD (botm qv c),cO (botm qv c)]
   omega) hi
  have z:m*topT qv c i+(- botm qv c)*g i=0:=z;rw[oW] at z;exact⟨g i,by omega⟩
 ·intro hd;refine⟨fun i=>m*topT qv c i / botm qv c,fun j hj =>?_⟩
  have e:=ah0 qv (botm qv c) (fun i=>m*topT qv c i / botm qv c) j
  have e2:atv qv (fun i=>botm qv c*(m*topT qv c i / botm qv c)) j=atv qv (fun i=>m*topT qv c i) j:=by
   unfold atv;rw[ahn,ahn]
   congr 1
   apply fV;intro i hi;rw[vJ (hd i (cR.mp hi))]
  rw[e2,ah0,tk j hj,<-iT,cO] at e;exact(dH (by omega) e).symm
end
def gcdL:Nat->List Int->Nat
 | x,[]=>x
 | x,t::l=>gcdL (mX x t.natAbs) l
theorem aj8:∀(l:List Int) (x:Nat),gcdL x l ∣ x/\∀t∈l,gcdL x l ∣ t.natAbs
 | [],x=>⟨Nat.dvd_refl _,fun t ht=>by cases ht⟩
 | t::l,x=>by
  obtain⟨a,b⟩:=aj8 l (mX x t.natAbs);refine⟨Nat.dvd_trans a (Nat.gcd_dvd_left ..),fun u hu =>?_⟩
  rcases bD.mp hu with z | z
  ·rw[z];exact Nat.dvd_trans a (Nat.gcd_dvd_right ..)
  ·exact b u z
theorem apl(d m:Nat):∀(l:List Int) (x:Nat),d ∣ m*x->(∀t∈l,d ∣ m*t.natAbs)->d ∣ m*gcdL x l
 | [],x,hx,_=>hx
 | t::l,x,hx,hl=>apl d m l (mX x t.natAbs) (by
  rw[<-Nat.gcd_mul_left];exact Nat.dvd_gcd hx (hl t (aR ..))) fun u hu=>hl u (aN _ hu)
theorem a5r{x t B:Nat}(hx:x < B)(ht:t < B):mX x t < B:=by
 by_cases z:t=0
 ·subst z;rw[wH];exact hx
 ·exact qQ (Nat.gcd_le_right _ (by omega)) ht
theorem ave(a0:Sl):∀(l:List Int) (x:Nat) (o2 o3 o4:Sl),x < 2 ^ 400->(∀t∈l,t.natAbs < 2 ^ 400)->∃q2 q3 q4,forD (di 2) l1_common_divisor (l.map D.int) [a0,.val (.int (x:Int)),o2,o3,o4]=some (.nx,[a0,.val (.int ((gcdL x l:Nat):Int)),q2,q3,q4])
 | [],x,o2,o3,o4,_,_=>⟨o2,o3,o4,rfl⟩
 | t::l,x,o2,o3,o4,hx,hl=>by
  have ht:=hl t (aR ..);have hb:x*t.natAbs < 2 ^ 1000:=by
   have:=Nat.mul_lt_mul_of_lt_of_lt hx ht;rw[<-Nat.pow_add] at this;exact jC this (Nat.pow_lt_pow_right (by decide) (by decide))
  obtain⟨b3,b4,e1⟩:=cd_one t x hb a0 o3 o4;obtain⟨q2,q3,q4,e2⟩:=ave a0 l (mX x t.natAbs) (.val (.int t)) b3 b4 (a5r hx ht) fun u hu=>hl u (aN _ hu)
  refine⟨q2,q3,q4,?_⟩;rw[aV,mj];generalize l.map D.int=LL at *;show _=some (Fl.nx,[a0,.val (.int ((gcdL (mX x t.natAbs) l:Nat):Int)),q2,q3,q4]);generalize gcdL (mX x t.natAbs) l=gg at *;generalize mX x t.natAbs=g0 at *;simp[e1,e2]
theorem a6h{l:List Int}(hl:∀t∈l,t.natAbs < 2 ^ 400):my [.val (.lst (l.map D.int))]=some (.ok (.v (.int ((gcdL 0 l:Nat):Int))),[.val (.lst (l.map D.int))]):=by
 obtain⟨q2,q3,q4,e⟩:=ave (.val (.lst (l.map D.int))) l 0 .emp .emp .emp (Nat.two_pow_pos _) hl;have e:forD (di 2) l1_common_divisor (l.map D.int) [.val (.lst (l.map D.int)),.val (.int 0),.emp,.emp,.emp]=_:=e;generalize gcdL 0 l=gg at *;generalize l.map D.int=LL at *;simp[my,abr,e]
def unit(k:Nat):Rw:=fun i=>if i=k then 1 else 0
def tpl(qv:LL9)(k:Nat):List Int:=(aK qv.length).map (topT qv (unit k))++[botm qv (unit k)]
def ord(qv:LL9)(k:Nat):Nat:=(botm qv (unit k)).toNat / gcdL 0 (tpl qv k)
section
variable{qv:LL9}(h:Hs qv)(hop:trapI qv=[])
include h hop
theorem ane(k:Nat):1<=ord qv k/\ord qv k<=60466176/\ord qv k*gcdL 0 (tpl qv k)=(botm qv (unit k)).toNat:=by
 obtain⟨b1,b2⟩:=ahx h hop (unit k);have d:gcdL 0 (tpl qv k) ∣ (botm qv (unit k)).toNat:=by
  have:=(aj8 (tpl qv k) 0).2 (botm qv (unit k)) (by unfold tpl;simp)
  rwa[show(botm qv (unit k)).natAbs=(botm qv (unit k)).toNat by omega] at this
 have m:=Nat.div_mul_cancel d;have p:0 < (botm qv (unit k)).toNat:=by omega
 refine⟨?_,?_,m⟩
 ·unfold ord;exact Nat.div_pos (zL p d) (Nat.pos_of_dvd_of_pos d p)
 ·unfold ord;have:=Nat.div_le_self (botm qv (unit k)).toNat (gcdL 0 (tpl qv k));omega
theorem a0l(k m:Nat):(∃g:Rw,∀j,j < qv.length->atv qv g j=(m:Int)*unit k j)↔ord qv k ∣ m:=by
 rw[a05 h hop (unit k) (m:Int)];obtain⟨b1,b2⟩:=ahx h hop (unit k);obtain⟨o1,o2,o3⟩:=ane h hop k;have gp:0 < gcdL 0 (tpl qv k):=by
  rcases lN (gcdL 0 (tpl qv k)) with z | z
  ·rw[z] at o3;omega
  ·exact z
 have bb:botm qv (unit k)=(((botm qv (unit k)).toNat:Nat):Int):=by omega
 constructor
 ·intro hd;have q:=apl (botm qv (unit k)).toNat m (tpl qv k) 0 (by rw[Nat.mul_zero];exact Nat.dvd_zero _) fun t ht=>by
   unfold tpl at ht;rcases cX.mp ht with z | z
   ·obtain⟨i,hi,rfl⟩:=bV.mp z;have:=hd i (cR.mp hi);rw[bb] at this;have:=vB.mpr this;rw[nR,qX,qX] at this;exact this
   ·rw[bY] at z;rw[z,show(botm qv (unit k)).natAbs=(botm qv (unit k)).toNat by omega]
    exact Nat.dvd_mul_left ..
  rw[<-o3] at q;exact Nat.dvd_of_mul_dvd_mul_right gp q
 ·rintro⟨u,rfl⟩ i hi
  have d:=(aj8 (tpl qv k) 0).2 (topT qv (unit k) i) (by unfold tpl;exact gB _ (bV.mpr ⟨i,cR.mpr hi,rfl⟩))
  have d2:((gcdL 0 (tpl qv k):Nat):Int) ∣ topT qv (unit k) i:=vB.mp (by rw[qX];exact d)
  obtain⟨s,es⟩:=d2;rw[bb,<-o3,es,iK,iK];refine⟨(u:Int)*s,?_⟩;rw[iT,iT,fD (u:Int)]
variable{W:Nat}(hW1:1<=W)(hW6:W<=6)(hw:∀r∈qv,r.length<=W)(hB:∀k,k < qv.length->BdW W k < 18446744073709551616)(hB2:BdW W qv.length < 2 ^ 400)
include hW1 hW6 hw hB hB2
theorem aw5{k:Nat}(hk:k < qv.length):uf [.val (.lst (mtD qv.length qv.length (dsq qv))),.val (.int (k:Int))]=some (.ok (.v (.int (ord qv k:Int))),[.val (.lst (mtD qv.length qv.length (dsq qv))),.val (.int (k:Int))]):=by
 have hm:=h.most;have hc:∀i,i < qv.length->(unit k i).natAbs<=W:=fun i _=>by
  unfold unit;split <;> omega
 have e1:=ah3 (n:=qv.length) (A:=dsq qv) (by omega)
 have e2:=am1 h hop (unit k) hW1 hw hc hB;obtain⟨b1,b2⟩:=ahx h hop (unit k);obtain⟨o1,o2,o3⟩:=ane h hop k;have tb:∀t∈tpl qv k,t.natAbs < 2 ^ 400:=fun t ht=>by
  unfold tpl at ht;rcases cX.mp ht with z | z
  ·obtain⟨i,hi,rfl⟩:=bV.mp z;exact qQ (avz h hop (unit k) hW1 hw hc qv.length (aL _) i (cR.mp hi) qv.length (aL _)) hB2
  ·rw[bY] at z;rw[z];have:(60466177:Nat) < 2 ^ 400:=by decide
   omega
 have e3:=a6h tb;have et:(tpl qv k).map D.int=((aK qv.length).map fun i=>D.int (topT qv (unit k) i))++[.int (botm qv (unit k))]:=by
  unfold tpl;rw[cI,dN];rfl
 rw[et] at e3;have ml:=rm qv.length qv.length (dsq qv);have hb:qv.length < 4611686018427387904:=by omega
 have c1:compD (di 0) (ret true) vq (rangeD 0 qv.length) [] [.emp,.val (.int (k:Int))]=some (.ok ((aK qv.length).map fun i=>.int (unit k i)),abe .emp (rangeD 0 qv.length)::[.val (.int (k:Int))]):=by
  rw[uo (f:=fun d=>match d with | .int x=>.int (if x=(k:Int) then 1 else 0) | _=>.non)]
  ·unfold rangeD;rw[bL,dN]
   congr 3
   apply fV;intro j _;show D.int (if (0:Int)+(j:Int)=(k:Int) then 1 else 0)=.int (unit k j)
   unfold unit
   by_cases q:j=k
   ·rw[if_pos q,if_pos (by omega)]
   ·rw[if_neg q,if_neg (by omega)]
  ·intro d hd;unfold rangeD at hd;obtain⟨j,_,rfl⟩:=bV.mp hd;generalize (0:Int)+((j:Nat):Int)=x
   by_cases q:x=(k:Int)
   ·simp[vq,q]
   ·simp[vq,q]
 have hc1:((aK qv.length).map fun i=>D.int (unit k i)).length<=capS:=by rw[aW,gF];exact cz (by omega)
 have a0:∀x y:D,atI [x,y] 0=some x:=fun x y=>by simp[atI,ixN]
 have a1:∀x y:D,atI [x,y] 1=some y:=fun x y=>by simp[atI,ixN]
 have ab:=azb (botm qv (unit k));rw[show((botm qv (unit k)).natAbs:Int)=botm qv (unit k) by omega] at ab
 have gp:0 < gcdL 0 (tpl qv k):=by
  rcases lN (gcdL 0 (tpl qv k)) with z | z
  ·rw[z] at o3;omega
  ·exact z
 have gl:gcdL 0 (tpl qv k)<=(botm qv (unit k)).toNat:=by
  rw[<-o3];exact pH _ o1
 have fd:fDiv (botm qv (unit k)) ((gcdL 0 (tpl qv k):Nat):Int)=some (ord qv k:Int):=by
  unfold fDiv;rw[if_pos ⟨by omega,by omega⟩]
  congr 1
  unfold ord;rw[Int.natCast_ediv]
  congr 1
  omega
 have hl1:((aK qv.length).map fun i=>D.int (topT qv (unit k) i)).length+1<=capS:=by rw[aW,gF];exact cz (by omega)
 have e2:abi [.val (.lst (mtD qv.length qv.length fun i j=>dsq qv j i)),.val (.lst ((aK qv.length).map fun i=>.int (unit k i)))]=_:=e2
 clear tb et hB hB2 hw hc
 generalize (aK qv.length).map (fun i=>D.int (topT qv (unit k) i))=TT at *
 generalize (aK qv.length).map (fun i=>D.int (unit k i))=UU at *
 generalize mtD qv.length qv.length (fun i j=>dsq qv j i)=M2 at *
 generalize mtD qv.length qv.length (dsq qv)=M1 at *;generalize gcdL 0 (tpl qv k)=gg at *;generalize botm qv (unit k)=bb at *;generalize ord qv k=oo at *;simp[uf,aev,ml,hb,e1,c1,hc1,e2,a0,a1,hl1,e3,ab,fd]
end
structure Sm (qv:LL9) (W:Nat):Prop where
 h:Hs qv
 hop:trapI qv=[]
 one:1<=W
 six:W<=6
 hw:∀r∈qv,r.length<=W
 b1:∀k,k < qv.length->BdW W k < 18446744073709551616
 b2:BdW W qv.length < 2 ^ 400
 b3:sx W qv.length < 90000
section
variable{qv:LL9}(h:Hs qv)
include h
theorem ax8{as:List Int}(ha:Arr qv as){w:Int->Nat}{S:List Int}(lS:Lg qv as w S)(sS:Stb qv as w S)(hc:∀i:Nat,i < qv.length->0 < S.count (i:Int)):trapI (lp (lasts qv (go qv as S)))=[]:=by
 apply bF;intro q;obtain⟨x,hx⟩:=List.exists_mem_of_ne_nil _ q;have ll:=gm qv (go qv as S);obtain⟨a1,a2⟩:=bQ.mp hx;rw[aae,ll] at a1;have hxr:=j4 a1;have cc:=(jf (lp (lasts qv (go qv as S))) x).mp a2;have wy:=(j7 h (af4 h S ha lS.inR)).hs;refine aqd h ha lS sS (fun z=>Rch (lp (lasts qv (go qv as S))) x z) (fun z hz =>?_) x .base
 have z0:=cc z hz;have z1:=(Rch.range wy (by rw[aae,ll];exact hxr) hz).2
 rw[aae,ll] at z1;refine⟨z0,z1,?_,?_⟩
 ·have:=hc z.toNat (by omega)
  rwa[show((z.toNat:Nat):Int)=z by omega] at this
 ·rw[<-ldo_last h ha lS.inR z0 z1];refine .step hz z0 ?_;rw[ama z0 (by rw[ll];exact z1),bY]
variable{as:List Int}(ha:Arr qv as){k:Int}(h0:0<=k)(h1:k < (qv.length:Int))
include ha h0 h1
theorem azt{T:Nat}(hT:T < 90000)(hp:∀i < T,0<=(run qv as k i).2)(hn:(run qv as k T).2 < 0):∃S2,f__law_sent [.val (hD qv),.val (.tup (as.map D.int)),.val (.int k)]=some (.ok (.v (.tup ((run qv as k T).1.map D.int))),[.val (hD qv),.val (.tup (as.map D.int)),S2]):=by
 have loop:=uv (c:=zu) (g:=abw)
  (fun n ρ=>∃(t:Nat) (o:Sl),t<=T/\n=T - t/\ρ=[.val (hD qv),.val (.tup (as.map D.int)),.val (.int (run qv as k t).2),.own none ((run qv as k t).1.map D.int),o])
  (fun ρ=>∃o:Sl,ρ=[.val (hD qv),.val (.tup (as.map D.int)),.val (.int (run qv as k T).2),.own none ((run qv as k T).1.map D.int),o])
  ?_ fuel T [.val (hD qv),.val (.tup (as.map D.int)),.val (.int k),.own none (as.map D.int),.emp] (jC (show T < 100000 by omega) aex) ⟨0,.emp,by omega,rfl,rfl⟩
 ·obtain⟨ρ',e,o,rfl⟩:=loop;have hm:=h.most;have l1:(as.map D.int).length<=capS:=by rw[aW,ha.len];exact cz (by omega)
  have ro:=(ab4 h ha h0 h1 T hp).1;have l2:((run qv as k T).1.map D.int).length<=capS:=by rw[aW,ro.len];exact cz (by omega)
  refine⟨.val (.int (run qv as k T).2),?_⟩;generalize (run qv as k T).1.map D.int=RR at *;generalize as.map D.int=AA at *;simp[f__law_sent,ahh,l1,l2,e]
 ·rintro n ρ ⟨t,o,t2,rfl,rfl⟩
  rcases jQ t T with q | q
  ·obtain⟨a1,a2,a3⟩:=ab4 h ha h0 h1 t fun i hi=>hp i (by omega)
   have p0:=hp t q;have e1:=akp p0 a3;have e2:=ax6 h a1 p0 a3;have e3:=a2d h a1 p0 a3;have e4:=aul h a1 p0 a3 (ar (run qv as k t).1 (run qv as k t).2+1);have e5:ixN (run qv as k t).1.length (run qv as k t).2=some (run qv as k t).2.toNat:=aj3 p0 (by rw[a1.len];exact a3)
   refine .inr ⟨[.val (hD qv),.val (.tup (as.map D.int)),.val (.int (run qv as k t).2),.own none ((run qv as k t).1.map D.int),o],[.val (hD qv),.val (.tup (as.map D.int)),.val (.int (run qv as k (t+1)).2),.own none ((run qv as k (t+1)).1.map D.int),.val (.int (run qv as k (t+1)).2)],T - (t+1),?_,?_,by omega,t+1,_,by omega,rfl,rfl⟩
   ·simp[zu,p0]
   ·show _=some (Fl.nx,[Sl.val (hD qv),Sl.val (.tup (as.map D.int)),Sl.val (.int (led qv (run qv as k t).1 (run qv as k t).2)),Sl.own none ((gone qv (run qv as k t).1 (run qv as k t).2).map D.int),Sl.val (.int (led qv (run qv as k t).1 (run qv as k t).2))]);generalize (run qv as k t).1=bs at *;generalize (run qv as k t).2=y at *;generalize as.map D.int=AA at *;simp[abw,hD,e1,e2,e3,e4,e5,gone]
  ·have:t=T:=by omega
   subst this;have q:¬0<=(run qv as k t).2:=by omega
   exact .inl ⟨[.val (hD qv),.val (.tup (as.map D.int)),.val (.int (run qv as k t).2),.own none ((run qv as k t).1.map D.int),o],by simp[zu,q],o,rfl⟩
end
section
variable{qv:LL9}{W:Nat}(sm:Sm qv W)
include sm
theorem ajg{as:List Int}(ha:Arr qv as){k:Int}(h0:0<=k)(h1:k < (qv.length:Int)):∃s S2,Led qv as [k] s/\f__law_sent [.val (hD qv),.val (.tup (as.map D.int)),.val (.int k)]=some (.ok (.v (.tup ((go qv as s).map D.int))),[.val (hD qv),.val (.tup (as.map D.int)),S2]):=by
 obtain⟨T,t1,t2,hp,hn⟩:=aom sm.h ha h0 h1 sm.one sm.hop sm.hw;have b:=sm.b3;obtain⟨S2,e⟩:=azt sm.h ha h0 h1 (T:=T) (by omega) hp hn
 refine⟨vis qv as k T++[],S2,.cons h0 h1 hp hn (.nil _),?_⟩;rw[fO,ahf];exact e
theorem ai5(P:Int×Int):∃(bs:List Int) (P':Int×Int),su [.own (some 0) (pen P),.val (hD qv)]=some (.ok (.v (.tup (bs.map D.int))),[.own (some 0) (pen P'),.val (hD qv)])/\Arr qv bs/\trapI (lp (lasts qv bs))=[]:=by
 obtain⟨as,P1,e1,ha⟩:=ah2 P sm.h;have hm:=sm.h.most;have loop:=abh (b:=di 3) (g:=abg) (fun j ρ=>∃s o3,Led qv as (upto j) s/\ρ=[.own (some 0) (pen P1),.val (hD qv),.val (.tup ((go qv as s).map D.int)),o3])
  (l:=rangeD 0 qv.length) (ρ:=[.own (some 0) (pen P1),.val (hD qv),.val (.tup (as.map D.int)),.emp]) 0 ⟨[],.emp,.nil _,rfl⟩ ?_
 ·obtain⟨ρ',e,s,o3,l,rfl⟩:=loop;have rl:(rangeD 0 qv.length).length=qv.length:=by simp[rangeD]
  rw[rl,cN] at l;obtain⟨a1,a2⟩:=l.ok sm.h ha;refine⟨go qv as s,P1,?_,l.arr sm.h ha,ax8 sm.h ha a1 a2 fun i hi =>?_⟩
  ·have hl:=xx qv;have hb:qv.length < 4611686018427387904:=by omega
   generalize (go qv as s).map D.int=GG at *;generalize as.map D.int=AA at *;simp only[hD] at *;simp[su,af9,e1,hl,hb,e]
  ·have b:s.count (i:Int)=(upto qv.length).count (i:Int)+arv qv (i:Int) as s:=a2 (i:Int) (by omega) (by omega)
   have:0 < (upto qv.length).count (i:Int):=wL.mpr (ad7 (by omega) (by omega))
   omega
 ·rintro j d ρ hd ⟨s,o3,l,rfl⟩
  rw[cN] at *;have hj:j < qv.length:=by
   have:=(aQ.mp hd).1
   simpa[rangeD] using this
  have ed:d=.int (j:Int):=by
   unfold rangeD at hd;rw[bA,cB hj] at hd;exact(bU hd).symm.trans (by show D.int ((0:Int)+(j:Int))=_;rw[mG])
  subst ed;obtain⟨s2,S2,l2,e2⟩:=ajg sm (l.arr sm.h ha) (k:=(j:Int)) (by omega) (by omega)
  have eu:upto (j+1)=upto j++[(j:Int)]:=by
   unfold upto;rw[iI,cI];rfl
  refine⟨[.own (some 0) (pen P1),.val (hD qv),.val (.tup ((go qv as s).map D.int)),.val (.int (j:Int))],[.own (some 0) (pen P1),.val (hD qv),.val (.tup ((go qv as (s++s2)).map D.int)),.val (.int (j:Int))],by simp,.inl ?_,s++s2,_,by rw[eu];exact l.app l2,rfl⟩
  rw[uc];generalize (go qv (go qv as s) s2).map D.int=G2 at *;generalize (go qv as s).map D.int=GG at *;generalize hD qv=hh at *;simp[abg,e2]
theorem a6b{as:List Int}(ha:Arr qv as)(hf:trapI (lp (lasts qv as))=[]){k:Nat}(hk:k < qv.length):aa3 [.val (hD qv),.val (.tup (as.map D.int)),.val (.int (k:Int))]=some (.ok (.v (.int (ord qv k:Int))),[.val (hD qv),.val (.tup (as.map D.int)),.val (.int (k:Int))]):=by
 obtain⟨o1,o2,_⟩:=ane sm.h sm.hop k;have key:∀(m:Nat) (s:List Int),Led qv as (aU m (k:Int)) s->(go qv as s=as↔ord qv k ∣ m):=fun m s l=>by
  have a:=avw sm.h ha hf l (.nil as);have b:=a0l sm.h sm.hop k m;rw[<-b];refine a.trans ⟨?_,?_⟩
  ·rintro⟨g,hg⟩
   refine⟨g,fun j hj =>?_⟩
   rw[hg j hj,qG];unfold unit
   by_cases q:j=k
   ·subst q;simp
   ·have:((k:Int)==(j:Int))=false:=beq_eq_false_iff_ne.mpr (by omega)
    rw[this,if_neg q];simp
  ·rintro⟨g,hg⟩
   refine⟨g,fun j hj =>?_⟩
   rw[hg j hj,qG];unfold unit
   by_cases q:j=k
   ·subst q;simp
   ·have:((k:Int)==(j:Int))=false:=beq_eq_false_iff_ne.mpr (by omega)
    rw[this,if_neg q];simp
 obtain⟨s1,S2,l1,e1⟩:=ajg sm ha (k:=(k:Int)) (by omega) (by omega)
 have loop:=uv (c:=yx) (g:=aa4)
  (fun n ρ=>∃(m:Nat) (s:List Int),1<=m/\m<=ord qv k/\n=ord qv k - m/\Led qv as (aU m (k:Int)) s/\ρ=[.val (hD qv),.val (.tup (as.map D.int)),.val (.int (k:Int)),.val (.tup ((go qv as s).map D.int)),.val (.int (m:Int))])
  (fun ρ=>∃o:Sl,ρ=[.val (hD qv),.val (.tup (as.map D.int)),.val (.int (k:Int)),o,.val (.int (ord qv k:Int))])
  ?_ fuel (ord qv k - 1) [.val (hD qv),.val (.tup (as.map D.int)),.val (.int (k:Int)),.val (.tup ((go qv as s1).map D.int)),.val (.int ((1:Nat):Int))] (by
   have:(60466176:Nat) < fuel:=by unfold fuel;decide
   omega) ⟨1,s1,by omega,o1,rfl,l1,rfl⟩
 ·obtain⟨ρ',e,o,rfl⟩:=loop;have e:whileD yx aa4 fuel [.val (hD qv),.val (.tup (as.map D.int)),.val (.int (k:Int)),.val (.tup ((go qv as s1).map D.int)),.val (.int 1)]=_:=e;generalize (go qv as s1).map D.int=GG at *;generalize as.map D.int=AA at *;generalize hD qv=hh at *;generalize ord qv k=oo at *;simp[aa3,aiw,e1,e]
 ·rintro n ρ ⟨m,s,m1,m2,rfl,l,rfl⟩
  have kk:=key m s l;have eq:=aka true (go qv as s) as
  by_cases q:m=ord qv k
  ·have z:go qv as s=as:=kk.mpr (by rw[q];exact Nat.dvd_refl _)
   refine .inl ⟨[.val (hD qv),.val (.tup (as.map D.int)),.val (.int (k:Int)),.val (.tup ((go qv as s).map D.int)),.val (.int (m:Int))],?_,_,by rw[q]⟩
   rw[decide_eq_true z] at eq;generalize (go qv as s).map D.int=GG at *;generalize as.map D.int=AA at *;simp[yx,eq]
  ·have z:¬go qv as s=as:=fun z=>q (Nat.le_antisymm m2 (zL (by omega) (kk.mp z)))
   obtain⟨s2,S3,l2,e2⟩:=ajg sm (l.arr sm.h ha) (k:=(k:Int)) (by omega) (by omega)
   refine .inr ⟨[.val (hD qv),.val (.tup (as.map D.int)),.val (.int (k:Int)),.val (.tup ((go qv as s).map D.int)),.val (.int (m:Int))],[.val (hD qv),.val (.tup (as.map D.int)),.val (.int (k:Int)),.val (.tup ((go qv as (s++s2)).map D.int)),.val (.int ((m+1:Nat):Int))],ord qv k - (m+1),?_,?_,by omega,m+1,s++s2,by omega,by omega,rfl,?_,rfl⟩
   ·rw[decide_eq_false z] at eq;generalize (go qv as s).map D.int=GG at *;generalize as.map D.int=AA at *;simp[yx,eq]
   ·rw[uc];generalize (go qv (go qv as s) s2).map D.int=G2 at *;generalize (go qv as s).map D.int=GG at *;generalize as.map D.int=AA at *;generalize hD qv=hh at *;simp[aa4,e2]
   ·rw[List.replicate_succ'];exact l.app l2
end
theorem aqx:qd [.val (.exn "NeverBack" [])]=some (.ok (.v (.str "never")),[.val (.exn "NeverBack" [])]):=by kernel_rfl
theorem awu:("NeverBack" : Str)∈NS:=dY.mp (by decide +kernel)
theorem a9q:gEq false (.tup [.str "never", .non]) (.tup [.str "never", .non])=some (.v (.bl true)):=by kernel_rfl
theorem a9p:gEq false (.str "told") (.str "told")=some (.v (.bl true)):=by kernel_rfl
theorem a8p:gEq true (.str "arrows") (.str "arrows")=some (.v (.bl false)):=by kernel_rfl
theorem a8n:gEq true (.str "room") (.str "room")=some (.v (.bl false)):=by kernel_rfl
theorem a8o:gEq true (.str "open") (.str "open")=some (.v (.bl false)):=by kernel_rfl
theorem at20(x y:D):atI [x,y] 0=some x:=by simp[atI,ixN]
section
variable{qv:LL9}(h:Hs qv)
include h
theorem ayb{bad:D}(hb:arrB qv bad=false)(d:D):dz [.val (hD qv),.val bad,.val d]=some (.ok (.v (.tup [.str "arrows", .non])),[.val (hD qv),.val bad,.val d]):=by
 have e:=azr h hb d;have hn:=ata;have hk:=anw;generalize hD qv=hh at *;have s1:gf [.val hh,.val bad,.val d]=some (.exc ⟨"NoArrows", []⟩,[.val hh,.val bad,.val d]):=by simp[gf,qp,e]
 simp[dz,vf,dTry,s1,hn,wz,hk]
variable{as:List Int}(ha:Arr qv as)
include ha
theorem aya{d:D}(hd:j8 0 ((qv.length:Int) - 1) d=false):dz [.val (hD qv),.val (.tup (as.map D.int)),.val d]=some (.ok (.v (.tup [.str "room", .non])),[.val (hD qv),.val (.tup (as.map D.int)),.val d]):=by
 have e:=azq h ha hd;have hn:=a0t;have hk:=atp;generalize hD qv=hh at *;generalize as.map D.int=la at *;have s1:gf [.val hh,.val (.tup la),.val d]=some (.exc ⟨"NoRoom", []⟩,[.val hh,.val (.tup la),.val d]):=by simp[gf,qp,e]
 simp[dz,vf,dTry,s1,hn,wz,hk]
variable{k:Int}(h0:0<=k)(h1:k < (qv.length:Int))
include h0 h1
theorem a2u{i:Int}{r:List Int}(ht:trapI qv=i::r):dz [.val (hD qv),.val (.tup (as.map D.int)),.val (.int k)]=some (.ok (.v (.tup [.str "open", .non])),[.val (hD qv),.val (.tup (as.map D.int)),.val (.int k)]):=by
 have e:=aje h ha h0 h1;have e2:=awv h ht;have hn:=a0u;have hk:=atq i;generalize hD qv=hh at *;generalize as.map D.int=la at *;have s1:gf [.val hh,.val (.tup la),.val (.int k)]=some (.exc ⟨"NotOpen", [("room", i)]⟩,[.val hh,.val (.tup la),.val (.int k)]):=by simp[gf,qp,e,e2]
 simp[dz,vf,dTry,s1,hn,wz,hk]
theorem a2v(hop:trapI qv=[])(hf:trapI (lp (lasts qv as))≠[]):dz [.val (hD qv),.val (.tup (as.map D.int)),.val (.int k)]=some (.ok (.v (.tup [.str "never", .non])),[.val (hD qv),.val (.tup (as.map D.int)),.val (.int k)]):=by
 have e:=aje h ha h0 h1;have e2:=aiq h hop;have e3:=atj h ha (j7 h ha);rw[decide_eq_false hf] at e3;have hn:=awu;have hk:=aqx;generalize hD qv=hh at *;generalize as.map D.int=la at *;have e4:f9 [.val hh,.val (.tup la)]=some (.exc ⟨"NeverBack", []⟩,[.val hh,.val (.tup la)]):=by simp[f9,rn,agb,e3]
 have s1:gf [.val hh,.val (.tup la),.val (.int k)]=some (.exc ⟨"NeverBack", []⟩,[.val hh,.val (.tup la),.val (.int k)]):=by simp[gf,qp,e,e2,e4]
 simp[dz,vf,dTry,s1,hn,wz,hk]
end
section
variable{qv:LL9}{W:Nat}(sm:Sm qv W){as:List Int}(ha:Arr qv as){k:Nat}(hk:k < qv.length)
include sm ha hk
theorem ar3(hf:trapI (lp (lasts qv as))=[]):dz [.val (hD qv),.val (.tup (as.map D.int)),.val (.int (k:Int))]=some (.ok (.v (.tup [.str "told", .int (ord qv k:Int)])),[.val (hD qv),.val (.tup (as.map D.int)),.val (.int (k:Int))]):=by
 have h:=sm.h;have e:=aje h ha (k:=(k:Int)) (by omega) (by omega)
 have e2:=aiq h sm.hop;have e3:=atj h ha (j7 h ha);rw[decide_eq_true hf] at e3;have e5:=aho h;have e6:=aw5 h sm.hop sm.one sm.six sm.hw sm.b1 sm.b2 hk;generalize mtD qv.length qv.length (dsq qv)=MM at *;generalize ord qv k=oo at *;generalize (k:Int)=kk at *;generalize hD qv=hh at *;generalize as.map D.int=la at *;have e4:f9 [.val hh,.val (.tup la)]=some (.ok (.v .non),[.val hh,.val (.tup la)]):=by simp[f9,rn,e3]
 have s1:gf [.val hh,.val (.tup la),.val (.int kk)]=some (.ok (.v (.int (oo:Int))),[.val hh,.val (.tup la),.val (.int kk)]):=by simp[gf,qp,e,e2,e4,e5,e6]
 simp[dz,vf,dTry,s1]
theorem aed:je [.val (hD qv),.val (.tup (as.map D.int)),.val (.int (k:Int))]=some (.ok (.v (.bl true)),[.val (hD qv),.val (.tup (as.map D.int)),.val (.int (k:Int))]):=by
 have h:=sm.h;have e1:=alw h ha;have e2:=free_eq (j7 h ha)
 by_cases hf:trapI (lp (lasts qv as))=[]
 ·have e3:=ar3 sm ha hk hf;have e4:=a6b sm ha hf hk;rw[decide_eq_true hf] at e2;have q:=a9p;generalize (lasts qv as).map D.int=LL at *;generalize ord qv k=oo at *;generalize (k:Int)=kk at *;generalize hD qv=hh at *;generalize as.map D.int=la at *;simp[je,ace,e1,e2,e3,e4,q,aid]
 ·have e3:=a2v h ha (k:=(k:Int)) (by omega) (by omega) sm.hop hf
  rw[decide_eq_false hf] at e2;have q:=a9q;generalize (lasts qv as).map D.int=LL at *;generalize (k:Int)=kk at *;generalize hD qv=hh at *;generalize as.map D.int=la at *;simp[je,ace,e1,e2,e3,q]
end
theorem aqc(P:Int×Int):∃(qv:LL9) (P':Int×Int) (W:Nat),xf [.own (some 0) (pen P)]=some (.ok (.v (hD qv)),[.own (some 0) (pen P')])/\Sm qv W:=by
 obtain⟨r1,P1,e1,r1a,r1b⟩:=uh P 5 (by decide) (by decide)
 have hm:∃m w:Nat,atI [D.tup [.int 2,.int 6],.tup [.int 3,.int 4],.tup [.int 4,.int 3],.tup [.int 5,.int 2],.tup [.int 6,.int 2]] r1=some (.tup [.int (m:Int),.int (w:Int)])/\1<=m/\m<=10/\1<=w/\w<=6/\(∀k,k < m->BdW w k < 18446744073709551616)/\(∀k,k < m+1->BdW w k < 2 ^ 400)/\∀k,k < m+1->sx w k < 90000:=by
  have:r1=0∨r1=1∨r1=2∨r1=3∨r1=4:=by omega
  rcases this with rfl | rfl | rfl | rfl | rfl
  ·exact⟨2,6,rfl,by decide,by decide,by decide,by decide,by decide +kernel,by decide +kernel,by decide +kernel⟩
  ·exact⟨3,4,rfl,by decide,by decide,by decide,by decide,by decide +kernel,by decide +kernel,by decide +kernel⟩
  ·exact⟨4,3,rfl,by decide,by decide,by decide,by decide,by decide +kernel,by decide +kernel,by decide +kernel⟩
  ·exact⟨5,2,rfl,by decide,by decide,by decide,by decide,by decide +kernel,by decide +kernel,by decide +kernel⟩
  ·exact⟨6,2,rfl,by decide,by decide,by decide,by decide,by decide +kernel,by decide +kernel,by decide +kernel⟩
 obtain⟨m,w,em,m1,m2,w1,w2,b1,b2,b3⟩:=hm;obtain⟨qv,P2,e2,h,hop,hl,hw⟩:=open_spec P1 (m:Int) (w:Int) (by omega) (by omega) (by omega) (by omega)
 have hl:qv.length<=m:=by omega
 exact⟨qv,P2,w,by generalize hD qv=hh at *;simp[xf,af6,e1,em,e2],h,hop,w1,w2,fun r hr=>by have:=hw r hr;omega,fun k hk=>b1 k (by omega),b2 _ (by omega),b3 _ (by omega)⟩
def mx0(d:Int):Int:=if d > 0 then d else 0
def uz(qv:LL9):LL9:=qv.map fun r=>r.map mx0
section
variable{qv:LL9}(h:Hs qv)
include h
theorem am3:Hs (uz qv):=by
 have h1:=h.one;refine⟨by unfold uz;simp;exact h1,by unfold uz;simp;exact h.most,fun r hr =>?_⟩
 unfold uz at hr;obtain⟨q,hq,rfl⟩:=bV.mp hr;obtain⟨a,b,c⟩:=h.room q hq;refine⟨by simpa using a,by simpa using b,fun x hx =>?_⟩
 obtain⟨y,hy,rfl⟩:=bV.mp hx;have:=c y hy;unfold uz mx0;rw[aW];split <;> omega
theorem asf:∃i r,trapI (uz qv)=i::r:=by
 have h1:=h.one;have sh:=am3 h;have sl:(uz qv).length=qv.length:=by unfold uz;simp
 have nn:∀z,Rch (uz qv) 0 z->0<=z:=fun z hz=>by
  induction hz with
  | base=>exact oY _
  | @step x d r x0 hd ih =>
   have xr:=(Rch.range sh (a:=0) ⟨by decide,by omega⟩ r).2
   unfold dr uz at hd;rw[aM,bA,aF (by omega)] at hd
   obtain⟨y,_,rfl⟩:=bV.mp hd;unfold mx0;split <;> omega
 have:=amw (qv:=uz qv) (y:=0) (by decide) (by omega) nn
 obtain⟨i,r,e⟩:=tH (qR this);exact⟨i,r,e⟩
omit h in
theorem aot{as:List Int}(ha:Arr qv as):Arr (uz qv) as:=⟨by unfold uz;rw[aW];exact ha.len,fun i a r g1 g2=>by
 unfold uz at g2;rw[bA] at g2;obtain⟨q,eq,rfl⟩:=eQ.mp g2;rw[aW];exact ha.ok i a q g1 eq⟩
theorem ash:compD (di 0) (ret true) auw (hDs qv) [] [.emp]=some (.ok (hDs (uz qv)),abe .emp (hDs qv)::[]):=by
 rw[uo (f:=fun d=>match d with | .tup l=>.tup (l.map fun x=>match x with | .int y=>.int (mx0 y) | x=>x) | d=>d)]
 ·rw[bL]
  congr 2
  unfold hDs uz;rw[dN,dN]
  congr 2
  funext r
  show D.tup ((r.map D.int).map _)=.tup ((r.map mx0).map D.int);rw[dN,dN];rfl
 ·intro d hd;unfold hDs at hd;obtain⟨r,hr,rfl⟩:=bV.mp hd;have b:=(h.room r hr).2.1;have e:compD (di 0) (ret true) auy (r.map D.int) [] [.emp]=some (.ok ((r.map mx0).map D.int),abe .emp (r.map D.int)::[]):=by
   rw[uo (f:=fun d=>match d with | .int x=>.int (mx0 x) | _=>.non)]
   ·rw[bL,dN,dN];rfl
   ·intro d hd;obtain⟨x,_,rfl⟩:=bV.mp hd;simp[auy,mx0]
  have hc:((r.map mx0).map D.int).length<=capS:=by rw[aW,aW];exact cz (by omega)
  have e3:(r.map D.int).map (fun x=>match x with | .int y=>.int (mx0 y) | x=>x)=(r.map mx0).map D.int:=by
   rw[dN,dN];rfl
  show _=some (Out.ok (D.tup ((r.map D.int).map fun x=>match x with | .int y=>.int (mx0 y) | x=>x)),_)
  rw[e3];generalize (r.map mx0).map D.int=MM at *;generalize r.map D.int=RR at *;simp[auw,e,hc]
end
section
variable{qv:LL9}{W:Nat}(sm:Sm qv W){as bs:List Int}(ha:Arr qv as)(hfa:trapI (lp (lasts qv as))=[])(hb:Arr qv bs)(hfb:trapI (lp (lasts qv bs))=[])
include sm ha hfa hb hfb
theorem ato(c0 c1 c7 c8:Sl):∀(ks:List Nat) (P:Int×Int) (o6:Sl),(∀k∈ks,k < qv.length)->∃P' q6,forD (di 6) l1_law (ks.map fun(k:Nat)=>.int (k:Int)) [c0,c1,.own none (pen P),.val (hD qv),.val (.tup (as.map D.int)),.val (.tup (bs.map D.int)),o6,c7,c8]=some (.nx,[c0,c1,.own none (pen P'),.val (hD qv),.val (.tup (as.map D.int)),.val (.tup (bs.map D.int)),q6,c7,c8])
 | [],P,o6,_=>⟨P,o6,rfl⟩
 | k::ks,P,o6,hk=>by
  have hk0:=hk k (aR ..);obtain⟨ds,P1,e1,hd⟩:=ah2 P sm.h;have k1:=aed sm ha hk0;have k2:=aed sm hd hk0;have k3:=ar3 sm ha hk0 hfa;have k4:=ar3 sm hb hk0 hfb;have k5:=a1s true (ord qv k:Int) (ord qv k:Int);obtain⟨P2,q6,e2⟩:=ato c0 c1 c7 c8 ks P1 (.val (.int (k:Int))) fun x hx=>hk x (aN _ hx)
  refine⟨P2,q6,?_⟩;rw[aV,mj];generalize ks.map (fun(k:Nat)=>D.int (k:Int))=KK at *
  generalize ord qv k=oo at *;generalize as.map D.int=la at *;generalize bs.map D.int=lb at *;generalize ds.map D.int=ld at *;generalize (k:Int)=kk at *;generalize hD qv=hh at *;have st:∀o,l1_law [c0,c1,.own none (pen P),.val hh,.val (.tup la),.val (.tup lb),.val (.int kk),c7,o]=some (.nx,[c0,c1,.own none (pen P1),.val hh,.val (.tup la),.val (.tup lb),.val (.int kk),c7,o]):=fun o=>by
   simp[l1_law,k1,e1,k2,k3,k4,k5]
  simp[st,e2]
omit hfa hb hfb in
theorem ag9{d:D}(hd:j8 0 ((qv.length:Int) - 1) d=false)(c0 c1 c2 c5 c6:Sl):atn [c0,c1,c2,.val (hD qv),.val (.tup (as.map D.int)),c5,c6,.val (hD (uz qv)),.val d]=some (.nx,[c0,c1,c2,.val (hD qv),.val (.tup (as.map D.int)),c5,c6,.val (hD (uz qv)),.val d]):=by
 have hm:=sm.h.most;have sl:(uz qv).length=qv.length:=by unfold uz;simp
 have b1:arrB qv (.tup (as.map D.int++[.int 0]))=false:=ara (by rw[dF,aW,ha.len];simp)
 have b2:arrB qv .non=false:=rfl;have t1:=ayb sm.h b1 d;have t2:=ayb sm.h b2 (.int 0);have t3:=aya sm.h ha hd;have t4:=aya (am3 sm.h) (aot ha) (d:=d) (by rw[sl];exact hd)
 have hc:(as.map D.int).length+1<=capS:=by rw[aW,ha.len];exact cz (by omega)
 have q1:=a8p;have q2:=a8n;have q3:=at20;generalize as.map D.int=la at *;generalize hD (uz qv)=h2 at *;generalize hD qv=hh at *;simp[atn,hc,t1,t2,t3,t4,q1,q2,q3]
end
theorem a87(S:D)(n:Int)(a2 a3 a4 a5 a6 a7 a8:Sl):∃ρ,l3_law [.val S,.val (.int n),a2,a3,a4,a5,a6,a7,a8]=some (.nx,.val S::ρ)/\ρ.length=8:=by
 obtain⟨P,e0⟩:=awj n;obtain⟨qv,P1,W,e1,sm⟩:=aqc P;have hm:=sm.h.most;have h1:=sm.h.one;obtain⟨as,P2,e2,ha,hfa⟩:=ai5 sm P1;obtain⟨bs,P3,e3,hb,hfb⟩:=ai5 sm P2;obtain⟨P4,q6,e4⟩:=ato sm ha hfa hb hfb (.val S) (.val (.int n)) a7 a8 (aK qv.length) P3 a6 fun k hk=>cR.mp hk
 have er:rangeD 0 qv.length=(aK qv.length).map fun(k:Nat)=>D.int (k:Int):=by
  unfold rangeD;apply fV;intro j _;rw[mG]
 rw[<-er] at e4;have e5:=ash sm.h;obtain⟨od,P5,e6,ho⟩:=a0q P4;have sl:(uz qv).length=qv.length:=by unfold uz;simp
 have hl:=xx qv;have hl2:=xx (uz qv);have hc2:(hDs (uz qv)).length<=capS:=by rw[hl2,sl];exact cz (by omega)
 have hb':qv.length < 4611686018427387904:=by omega
 have s1:=ag9 sm ha (d:=.int (qv.length:Int)) (aks (.inr (oY _))) (.val S) (.val (.int n)) (.own none (pen P5)) (.val (.tup (bs.map D.int))) q6;have s2:=ag9 sm ha (d:=.int (-1)) (aks (.inl (by decide))) (.val S) (.val (.int n)) (.own none (pen P5)) (.val (.tup (bs.map D.int))) q6
 have s3:=ag9 sm ha (d:=.bl true) rfl (.val S) (.val (.int n)) (.own none (pen P5)) (.val (.tup (bs.map D.int))) q6;have s4:=ag9 sm ha (d:=.non) rfl (.val S) (.val (.int n)) (.own none (pen P5)) (.val (.tup (bs.map D.int))) q6;have s5:=ag9 sm ha (d:=od) (ho qv.length hm) (.val S) (.val (.int n)) (.own none (pen P5)) (.val (.tup (bs.map D.int))) q6;obtain⟨i,r,ht⟩:=asf sm.h;have t:=a2u (am3 sm.h) (aot ha) (k:=0) (by decide) (by omega) ht
 have q1:=a8o;have q3:=at20;refine⟨[.val (.int n),.own none (pen P5),.val (hD qv),.val (.tup (as.map D.int)),.val (.tup (bs.map D.int)),q6,.val (hD (uz qv)),.val od],?_,rfl⟩;generalize as.map D.int=la at *;generalize bs.map D.int=lb at *
 clear ha hfa hb hfb sm ho ht
 simp only[hD] at *;generalize hDs (uz qv)=h2 at *;generalize hDs qv=hh at *;simp[l3_law,e0,e1,e2,e3,hl,hb',e4,e5,hc2,e6,mj,s1,s2,s3,s4,s5,t,q1,q3]
theorem a5d(S:D):∀(ns:List Int) (q a2 a3 a4 a5 a6 a7 a8:Sl),∃ρ,forD (di 1) l3_law (ns.map D.int) [.val S,q,a2,a3,a4,a5,a6,a7,a8]=some (.nx,.val S::ρ)
 | [],q,a2,a3,a4,a5,a6,a7,a8=>⟨_,rfl⟩
 | n::r,q,a2,a3,a4,a5,a6,a7,a8=>by
  obtain⟨ρ,z,hl⟩:=a87 S n a2 a3 a4 a5 a6 a7 a8
  match ρ,hl with
  | [b1,b2,b3,b4,b5,b6,b7,b8],_ =>
   obtain⟨ρ,z2⟩:=a5d S r b1 b2 b3 b4 b5 b6 b7 b8;exact⟨ρ,by rw[aV,mj];simp[z,z2]⟩
theorem asb{r:List Int}(h1:1<=r.length)(h6:r.length<=6)(hr:∀x∈r,-3<=x/\x < 1){d:Int}(hd:d∈r)(h0:d < 0):Sm [r] 6:=⟨⟨by simp,by simp,fun r' hr'=>by
 rw[bY] at hr';rw[hr'];exact⟨h1,h6,hr⟩⟩,aoo fun a a0 a1=>by
 have:a=0:=by simp at a1;omega
 rw[this];exact⟨d,.step .base (by decide) hd,h0⟩,by decide,by decide,fun q hq=>by
 rw[bY] at hq;rw[hq];exact h6,show ∀k,k < 1->BdW 6 k < 18446744073709551616 by decide +kernel,show BdW 6 1 < 2 ^ 400 by decide +kernel,show sx 6 1 < 90000 by decide +kernel⟩
theorem aok{r:List Int}{a:Int}(h0:0<=a)(h1:a < (r.length:Int)):Arr [r] [a]:=⟨rfl,fun i x q g1 g2=>by
 cases i with
 | zero =>
  simp at g1 g2;subst g1 g2;exact⟨h0,h1⟩
 | succ i=>simp at g1⟩
theorem aw6:aol aup:=fun ns hn=>by
 obtain⟨n0,e0⟩:=avd ns 0 (by decide)
 obtain⟨ms,em,hm⟩:=au7 ns (some 1) (some 3);have hc:1+ms.length<=capS:=cz (by omega)
 obtain⟨ρ,q⟩:=a5d (.kst (ns.map D.int)) (n0::ms) .emp .emp .emp .emp .emp .emp .emp .emp;simp only[aV] at q;have k1:je [.val (.tup [.tup [.int (-1)]]),.val (.tup [.int 0]),.val (.int 0)]=some (.ok (.v (.bl true)),[.val (.tup [.tup [.int (-1)]]),.val (.tup [.int 0]),.val (.int 0)]):=aed (qv:=[[-1]]) (asb (by decide) (by decide) (by decide) (d := -1) (by decide) (by decide)) (as:=[0]) (aok (by decide) (by decide)) (k:=0) (by decide)
 have k2:je [.val (.tup [.tup [.int (-1),.int 0]]),.val (.tup [.int 0]),.val (.int 0)]=some (.ok (.v (.bl true)),[.val (.tup [.tup [.int (-1),.int 0]]),.val (.tup [.int 0]),.val (.int 0)]):=aed (qv:=[[-1,0]]) (asb (by decide) (by decide) (by decide) (d := -1) (by decide) (by decide)) (as:=[0]) (aok (by decide) (by decide)) (k:=0) (by decide)
 have k3:je [.val (.tup [.tup [.int (-1),.int 0]]),.val (.tup [.int 1]),.val (.int 0)]=some (.ok (.v (.bl true)),[.val (.tup [.tup [.int (-1),.int 0]]),.val (.tup [.int 1]),.val (.int 0)]):=aed (qv:=[[-1,0]]) (asb (by decide) (by decide) (by decide) (d := -1) (by decide) (by decide)) (as:=[1]) (aok (by decide) (by decide)) (k:=0) (by decide)
 simp[aup,a5s,k1,k2,k3,e0,em,hc,q]
end My
set_option maxHeartbeats 0
namespace My
open PySem L2 Mn Dn
def top(i:Nat):iM:=PySem.Challenge.pw_turnarrows_k39_behind_how_many_walkers.main.body.getD i (.Pass ⟨0,0,0,0⟩)
abbrev afa:iM:=top 15
theorem am8:FnScope ["thing"] ["thing"] (au afa):=mkSc rfl rfl rfl rfl (by decide +kernel)
abbrev u5:iM:=top 16
theorem aeb:FnScope ["thing","least","most"] ["thing","least","most"] (au u5):=mkSc rfl rfl rfl rfl (by decide +kernel)
abbrev u6:iM:=top 17
theorem aec:FnScope ["thing","least","most"] ["thing","least","most"] (au u6):=mkSc rfl rfl rfl rfl (by decide +kernel)
abbrev xq:iM:=top 19
theorem ae7:FnScope ["house","thing"] ["house","thing"] (au xq):=mkSc rfl rfl rfl rfl (by decide +kernel)
abbrev qz:iM:=top 20
theorem aas:FnScope ["house","thing"] ["house","thing"] (au qz):=mkSc rfl rfl rfl rfl (by decide +kernel)
abbrev asn:iM:=top 21
theorem agv:FnScope ["house","staying","many"] ["house"] (au asn):=mkSc rfl rfl rfl rfl (by decide +kernel)
abbrev qj:iM:=top 22
theorem ni:FnScope ["house","rooms"] ["house"] (au qj):=mkSc rfl rfl rfl rfl (by decide +kernel)
abbrev adf:iM:=top 24
theorem ak2:FnScope ["house","thing"] ["house","thing"] (au adf):=mkSc rfl rfl rfl rfl (by decide +kernel)
abbrev nj:iM:=top 25
theorem yz:FnScope ["house","thing"] ["house","thing"] (au nj):=mkSc rfl rfl rfl rfl (by decide +kernel)
abbrev ade:iM:=top 26
theorem ak1:FnScope ["house","arrows"] ["house","arrows"] (au ade):=mkSc rfl rfl rfl rfl (by decide +kernel)
abbrev aa9:iM:=top 27
theorem qw:FnScope ["last","rooms","staying","many"] ["last","rooms"] (au aa9):=mkSc rfl rfl rfl rfl (by decide +kernel)
abbrev aa7:iM:=top 29
theorem ah5:FnScope ["rows"] ["rows"] (au aa7):=mkSc rfl rfl rfl rfl (by decide +kernel)
abbrev ae8:iM:=top 30
theorem agw:FnScope ["rows","at","number"] ["rows","at"] (au ae8):=mkSc rfl rfl rfl rfl (by decide +kernel)
abbrev agz:iM:=top 31
theorem aii:FnScope ["rows","one","other","told"] ["rows","one","other"] (au agz):=mkSc rfl rfl rfl rfl (by decide +kernel)
abbrev ag0:iM:=top 32
theorem aat:FnScope ["rows","at","bottom","head","told","number","row"] ["rows","at","bottom"] (au ag0):=mkSc rfl rfl rfl rfl (by decide +kernel)
abbrev ajk:iM:=top 33
theorem wj:FnScope ["rows","right","work","bottom","at","found"] ["rows","right"] (au ajk):=mkSc rfl rfl rfl rfl (by decide +kernel)
abbrev xu:iM:=top 34
theorem jj:FnScope ["numbers","told","number","other","over"] ["numbers"] (au xu):=mkSc rfl rfl rfl rfl (by decide +kernel)
abbrev aai:iM:=top 35
theorem nu:FnScope ["house","rows","room","doors","row"] ["house"] (au aai):=mkSc rfl rfl rfl rfl (by decide +kernel)
abbrev aa8:iM:=top 36
theorem ac5:FnScope ["rows","at","told"] ["rows","at"] (au aa8):=mkSc rfl rfl rfl rfl (by decide +kernel)
abbrev ql:iM:=top 38
theorem zx:FnScope ["house","arrows","room"] ["house","arrows","room"] (au ql):=mkSc rfl rfl rfl rfl (by decide +kernel)
abbrev ae9:iM:=top 40
theorem am7:FnScope ["house","arrows"] ["house","arrows"] (au ae9):=mkSc rfl rfl rfl rfl (by decide +kernel)
abbrev lu:iM:=top 41
theorem yg:FnScope ["house","arrows"] ["house","arrows"] (au lu):=mkSc rfl rfl rfl rfl (by decide +kernel)
abbrev ym:iM:=top 42
theorem ac6:FnScope ["house","arrows","room"] ["house","arrows","room"] (au ym):=mkSc rfl rfl rfl rfl (by decide +kernel)
abbrev adm:iM:=top 44
theorem ak3:FnScope ["script","k"] ["script","k"] (au adm):=mkSc rfl rfl rfl rfl (by decide +kernel)
abbrev afb:iM:=top 45
theorem agx:FnScope ["cell","left"] ["cell"] (au afb):=mkSc rfl rfl rfl rfl (by decide +kernel)
abbrev adl:iM:=top 46
theorem wu:FnScope ["pen","many","left","found","stir"] ["pen","many"] (au adl):=mkSc rfl rfl rfl rfl (by decide +kernel)
abbrev abx:iM:=top 47
theorem ajh:FnScope ["thing"] ["thing"] (au abx):=mkSc rfl rfl rfl rfl (by decide +kernel)
abbrev afc:iM:=top 48
theorem agy:FnScope ["pen","some"] ["pen"] (au afc):=mkSc rfl rfl rfl rfl (by decide +kernel)
abbrev ab1:iM:=top 49
theorem qg:FnScope ["pen","most","doors","many","gates","house","room","wide"] ["pen","most","doors"] (au ab1):=mkSc rfl rfl rfl rfl (by decide +kernel)
abbrev aaj:iM:=top 50
theorem oh:FnScope ["house","room","found","at"] ["house","room"] (au aaj):=mkSc rfl rfl rfl rfl (by decide +kernel)
abbrev adi:iM:=top 51
theorem aaa:FnScope ["pen","most","doors","house","room","at"] ["pen","most","doors"] (au adi):=mkSc rfl rfl rfl rfl (by decide +kernel)
abbrev ab2:iM:=top 52
theorem ajj:FnScope ["pen","house"] ["pen","house"] (au ab2):=mkSc rfl rfl rfl rfl (by decide +kernel)
abbrev aba:iM:=top 53
theorem jt:FnScope ["e","marks","words"] ["e"] (au aba):=mkSc rfl rfl rfl rfl (by decide +kernel)
abbrev ab0:iM:=top 54
theorem aji:FnScope ["house","some"] ["house","some"] (au ab0):=mkSc rfl rfl rfl rfl (by decide +kernel)
abbrev adk:iM:=top 55
theorem wk:FnScope ["places","start","place","pace"] ["places"] (au adk):=mkSc rfl rfl rfl rfl (by decide +kernel)
abbrev aby:iM:=top 56
theorem aa5:FnScope ["pen","most","doors"] ["pen"] (au aby):=mkSc rfl rfl rfl rfl (by decide +kernel)
abbrev adh:iM:=top 57
theorem zy:FnScope ["house","some","room","here","door"] ["house","some","room"] (au adh):=mkSc rfl rfl rfl rfl (by decide +kernel)
abbrev adg:iM:=top 58
theorem afy:FnScope ["house","some","room","e"] ["house","some","room"] (au adg):=mkSc rfl rfl rfl rfl (by decide +kernel)
abbrev afd:iM:=top 59
theorem za:FnScope ["house","some","room","here","many"] ["house","some","room"] (au afd):=mkSc rfl rfl rfl rfl (by decide +kernel)
abbrev ab3:iM:=top 60
theorem yl:FnScope ["pen","house","some","room"] ["pen","house"] (au ab3):=mkSc rfl rfl rfl rfl (by decide +kernel)
abbrev abz:iM:=top 61
theorem aa6:FnScope ["house","some","room","word","found"] ["house","some","room"] (au abz):=mkSc rfl rfl rfl rfl (by decide +kernel)
abbrev ajl:iM:=top 62
theorem afx:FnScope ["script","cell","pen","house","one","other","room","shut","bad"] ["script"] (au ajl):=mkSc rfl rfl rfl rfl (by decide +kernel)
theorem lnS{k:Nat}{us:List aG}(h:us.length=k+1):∃a r,us=a::r/\r.length=k:=by
 cases us with
 | nil=>cases h
 | cons a r=>exact⟨a,r,rfl,Nat.succ.inj h⟩
theorem ln1{us:List aG}(h:us.length=1):∃a0,us=[a0]:=by
 obtain⟨a,r,rfl,h'⟩:=lnS h;cases rW h';exact⟨a,rfl⟩
theorem ln2{us:List aG}(h:us.length=2):∃a0 a1,us=[a0,a1]:=by
 obtain⟨a,r,rfl,h'⟩:=lnS h;obtain⟨_,rfl⟩:=ln1 h';exact⟨_,_,rfl⟩
theorem ln3{us:List aG}(h:us.length=3):∃a0 a1 a2,us=[a0,a1,a2]:=by
 obtain⟨a,r,rfl,h'⟩:=lnS h;obtain⟨_,_,rfl⟩:=ln2 h';exact⟨_,_,_,rfl⟩
abbrev yr:iM:=a1w (top 10)
theorem am6:FnScope ["self","room"] ["self","room"] (au yr):=mkSc rfl rfl rfl rfl (by decide +kernel)
structure Txt (K:Fg9) (mg:Str->Option aG):Prop where
 z_ValueError:mg "ValueError" = none
 z_abs:mg "abs" = none
 z_all:mg "all" = none
 z_bool:mg "bool" = none
 z_divmod:mg "divmod" = none
 z_enumerate:mg "enumerate" = none
 z_int:mg "int" = none
 z_isinstance:mg "isinstance" = none
 z_len:mg "len" = none
 z_list:mg "list" = none
 z_max:mg "max" = none
 z_min:mg "min" = none
 z_range:mg "range" = none
 z_set:mg "set" = none
 z_sorted:mg "sorted" = none
 z_tuple:mg "tuple" = none
 z_zip:mg "zip" = none
 sub:ajd K NS=true
 cat:CatT K mg
 k_ArrowError:ClsT K mg "ArrowError"
 k_NoArrows:ClsT K mg "NoArrows"
 k_NoRoom:ClsT K mg "NoRoom"
 k_NoWalkers:ClsT K mg "NoWalkers"
 k_NotShut:ClsT K mg "NotShut"
 k_NeverBack:ClsT K mg "NeverBack"
 k_NoTour:ClsT K mg "NoTour"
 k_NoRow:ClsT K mg "NoRow"
 k_NoHouse:ClsT K mg "NoHouse"
 k_NotOpen:ClsT K mg "NotOpen"
 k_Nobody:ClsT K mg "Nobody"
 k_NoText:ClsT K mg "NoText"
 k_TooGreat:ClsT K mg "TooGreat"
 r_ArrowError:RaiT K mg "ArrowError"
 r_NoArrows:RaiT K mg "NoArrows"
 r_NoRoom:RaiT K mg "NoRoom"
 r_NoWalkers:RaiT K mg "NoWalkers"
 r_NotShut:RaiT K mg "NotShut"
 r_NeverBack:RaiT K mg "NeverBack"
 r_NoTour:RaiT K mg "NoTour"
 r_NoRow:RaiT K mg "NoRow"
 i_NotOpen:IniT K mg "NotOpen" "room" "NotOpen.__init__" yr
section
variable(P:cF)(w:dR)(K:Fg9)(mg:Str->Option aG)(base:fH)
abbrev Dd0:Prop:=Dfn P w K mg base "is_whole" ["thing"] 1 (spOf K 1 aa2)
abbrev Dd1:Prop:=Dfn P w K mg base "is_whole_within" ["thing","least","most"] 2 (spOf K 3 ju)
abbrev Dd3:Prop:=Dfn P w K mg base "is_room_number" ["house","thing"] 3 (spOf K 2 mq)
abbrev Dd5:Prop:=Dfn P w K mg base "trap" ["house"] 1 (spOf K 1 al5)
abbrev Dd2:Prop:=Dfn P w K mg base "is_tuple_within" ["thing","least","most"] 1 (spOf K 3 km)
abbrev Dd7:Prop:=Dfn P w K mg base "is_arrows" ["house","thing"] 3 (spOf K 2 rz)
abbrev Dd12:Prop:=Dfn P w K mg base "row_with" ["rows","at"] 1 (spOf K 2 aa0)
abbrev Dd13:Prop:=Dfn P w K mg base "swapped" ["rows","one","other"] 1 (spOf K 3 acg)
abbrev Dd14:Prop:=Dfn P w K mg base "cleared" ["rows","at","bottom"] 1 (spOf K 3 ach)
abbrev Dd11:Prop:=Dfn P w K mg base "turned_over" ["rows"] 1 (spOf K 1 ue)
abbrev Dd15:Prop:=Dfn P w K mg base "solved" ["rows","right"] 2 (spOf K 2 abi)
abbrev Dd16:Prop:=Dfn P w K mg base "common_divisor" ["numbers"] 1 (spOf K 1 my)
abbrev Dd8:Prop:=Dfn P w K mg base "refuse_no_arrows" ["house","thing"] 4 (spOf K 2 gq)
abbrev Dd4:Prop:=Dfn P w K mg base "refuse_no_room" ["house","thing"] 4 (spOf K 2 jb)
abbrev Dx8:Prop:=DfnX P w K mg base "refuse_no_arrows" ["house","thing"] 4 (spX K 2 gq)
abbrev Dx4:Prop:=DfnX P w K mg base "refuse_no_room" ["house","thing"] 4 (spX K 2 jb)
abbrev Dd9:Prop:=Dfn P w K mg base "last_ways" ["house","arrows"] 1 (spOf K 2 zb)
abbrev Dd10:Prop:=Dfn P w K mg base "going_round" ["last","rooms"] 1 (spOf K 2 ug)
abbrev Dd20:Prop:=Dfn P w K mg base "lead_out" ["house","arrows"] 2 (spOf K 2 aa1)
abbrev Dd19:Prop:=Dfn P w K mg base "refuse_no_state" ["house","arrows","room"] 5 (spOf K 3 fu)
abbrev Dd6:Prop:=Dfn P w K mg base "refuse_not_open" ["house"] 3 (spOf K 1 ie)
abbrev Dd21:Prop:=Dfn P w K mg base "refuse_never_back" ["house","arrows"] 3 (spOf K 2 f9)
abbrev Dd17:Prop:=Dfn P w K mg base "doors_square" ["house"] 1 (spOf K 1 qx)
abbrev Dd18:Prop:=Dfn P w K mg base "least_times" ["rows","at"] 3 (spOf K 2 uf)
abbrev Dx19:Prop:=DfnX P w K mg base "refuse_no_state" ["house","arrows","room"] 5 (spX K 3 fu)
abbrev Dx6:Prop:=DfnX P w K mg base "refuse_not_open" ["house"] 3 (spX K 1 ie)
abbrev Dx21:Prop:=DfnX P w K mg base "refuse_never_back" ["house","arrows"] 3 (spX K 2 f9)
abbrev Dd25:Prop:=Dfn P w K mg base "_law_draw" ["pen","many"] 1 (spOf K 2 f__law_draw)
abbrev Dd28:Prop:=Dfn P w K mg base "_law_house" ["pen","most","doors"] 2 (spOf K 3 f__law_house)
abbrev Dd29:Prop:=Dfn P w K mg base "_law_reached" ["house","room"] 1 (spOf K 2 qy)
abbrev Dd30:Prop:=Dfn P w K mg base "_law_open" ["pen","most","doors"] 3 (spOf K 3 f__law_open)
abbrev Dd22:Prop:=Dfn P w K mg base "again_after" ["house","arrows","room"] 6 (spOf K 3 gf)
abbrev Dx22:Prop:=DfnX P w K mg base "again_after" ["house","arrows","room"] 6 (spX K 3 gf)
abbrev Du32:Prop:=DfnU P w K mg base "_law_kind" ["e"] 1 (spOf K 1 qd)
abbrev Dd36:Prop:=Dfn P w K mg base "_law_sent" ["house","some","room"] 1 (spOf K 3 f__law_sent)
abbrev Dd31:Prop:=Dfn P w K mg base "_law_drawn" ["pen","house"] 2 (spOf K 2 f__law_drawn)
abbrev Dd33:Prop:=Dfn P w K mg base "_law_lasts" ["house","some"] 1 (spOf K 2 f__law_lasts)
abbrev Dd34:Prop:=Dfn P w K mg base "_law_free" ["places"] 1 (spOf K 1 vg)
abbrev Dd37:Prop:=Dfn P w K mg base "_law_told" ["house","some","room"] 7 (spOf K 3 dz)
abbrev Dd26:Prop:=Dfn P w K mg base "_law_whole" ["thing"] 1 (spOf K 1 w6)
abbrev Dd38:Prop:=Dfn P w K mg base "_law_due" ["house","some","room"] 2 (spOf K 3 aa3)
abbrev Dd40:Prop:=Dfn P w K mg base "_law_right" ["house","some","room"] 8 (spOf K 3 je)
abbrev Dd23:Prop:=Dfn P w K mg base "_law_cell" ["script","k"] 1 (spOf K 2 f__law_cell)
abbrev Dd24:Prop:=Dfn P w K mg base "_law_pen" ["cell"] 1 (spOf K 1 f__law_pen)
abbrev Dd35:Prop:=Dfn P w K mg base "_law_small" ["pen"] 4 (spOf K 1 xf)
abbrev Dd39:Prop:=Dfn P w K mg base "_law_again" ["pen","house"] 3 (spOf K 2 su)
abbrev Dd27:Prop:=Dfn P w K mg base "_law_odd" ["pen"] 2 (spOf K 1 f__law_odd)
end
section
variable{P:cF}{w:dR}{K:Fg9}{mg:Str->Option aG}{base:fH}{f:aZ}{fd:fX}
theorem ank(F:Fun K "is_whole" "is_whole" afa f fd)(T:Txt K mg):FnOk P w K mg base CX0 1 f fd ["thing"] (spOf K 1 aa2) :=
 jc F am8 rfl rfl fun cdv A outer s H E hr =>
  (bc (fj (EV.toR (aiy (al8 (t:=.int) (aqj (by rfl) T.z_int avn) (by rfl) T.z_isinstance bj (cj (pv 0))) (al7 (ayv (al8 (t:=.bool) (aqj (by rfl) T.z_bool avp) (by rfl) T.z_isinstance bj (cj (pv 0)))))))))
theorem ael(F:Fun K "is_whole_within" "is_whole_within" u5 f fd)(T:Txt K mg)(d0:Dd0 P w K mg base):FnOk P w K mg base CX0 2 f fd ["thing","least","most"] (spOf K 3 ju) :=
 jc F aeb rfl rfl fun cdv A outer s H E hr =>
  (bc (fj (EV.toR (aiy (ER.toD (gr d0 (hr.mono (by decide)) (by rfl) (eg_n (pv 0) cg))) (al7 (apq as7 as7 (az (pv 1)) (az (pv 0)) (az (pv 2))))))))
theorem aem(F:Fun K "is_tuple_within" "is_tuple_within" u6 f fd)(T:Txt K mg):FnOk P w K mg base CX0 1 f fd ["thing","least","most"] (spOf K 3 km) :=
 jc F aec rfl rfl fun cdv A outer s H E hr =>
  (bc (fj (EV.toR (aiy (al8 (t:=.tuple) (aqj (by rfl) T.z_tuple vz) (by rfl) T.z_isinstance bj (cj (pv 0))) (al7 (apq as7 as7 (az (pv 1)) (ER.toD (dg jz (by rfl) T.z_len j0 (ea_n (pv 0) fc))) (az (pv 2))))))))
theorem afh(F:Fun K "is_room_number" "is_room_number" xq f fd)(T:Txt K mg)(d1:Dd1 P w K mg base):FnOk P w K mg base CX0 3 f fd ["house","thing"] (spOf K 2 mq) :=
 jc F ae7 rfl rfl fun cdv A outer s H E hr =>
  (bc (fj (gr d1 (hr.mono (by decide)) (by rfl) (eg_v (az (pv 1)) (eg_v bf (eg_v (ER.toD (gk ab8 (e2_v (ER.toD (dg jz (by rfl) T.z_len j0 (ea_n (pv 0) fc))) (EV.toB bf)))) cg))))))
theorem afg(F:Fun K "refuse_no_room" "refuse_no_room" qz f fd)(T:Txt K mg)(d3:Dd3 P w K mg base):FnOk P w K mg base CX0 4 f fd ["house","thing"] (spOf K 2 jb) :=
 jc F aas rfl rfl fun cdv A outer s H E hr =>
  (bc (xn (ET.s (zg (yj (ER.toD (gr d3 (hr.mono (by decide)) (by rfl) (eg_n (pv 0) (eg_v (az (pv 1)) cg))))))) (bc aja) jq))
theorem aei(F:Fun K "refuse_no_room" "refuse_no_room" qz f fd)(T:Txt K mg)(d3:Dd3 P w K mg base):FnOk P w K mg base (CX1 P w) 4 f fd ["house","thing"] (spX K 2 jb) :=
 fn_x F aas rfl rfl fun cdv A outer s H E hr =>
  (yw (av5 (ET.s (zg (yj (ER.toD (gr d3 (hr.mono (by decide)) (by rfl) (eg_n (pv 0) (eg_v (az (pv 1)) cg))))))) ph (yw (ago rfl rfl (by rfl) T.r_NoRoom)) ai6))
theorem a0o(F:Fun K "trap" "trap" asn f fd)(T:Txt K mg):FnOk P w K mg base CX0 1 f fd ["house"] (spOf K 1 al5) :=
 jc F agv rfl rfl fun cdv A outer s H E hr =>
  (ao (dq (i:=1) agv.nd rfl (oF rfl) (aga rfl (by rfl) T.z_list (by rfl) T.z_range (ak (ER.toD (dg jz (by rfl) T.z_len j0 (ea_n (pv 0) fc))) bz))) (ao (dq (i:=2) agv.nd rfl (bN rfl) (gk jk (e2_v (ER.toD (dg jz (by rfl) T.z_len j0 (ea_n (pv 1) fc))) (EV.toB bf)))) (ao (acn fuel cM (kh ao2 (e2_v (ER.toD (dg jz (by rfl) T.z_len j0 (ea_n (pv 1) fc))) (cj (pv 2))) (jy _)) (ao (dq (i:=2) agv.nd rfl (bN rfl) (dg jz (by rfl) T.z_len j0 (ea_n (pv 1) fc))) (bc (dq (i:=1) agv.nd rfl (oF rfl) (qu ["staying","house"] ["room","staying","house"] [none,some 1,some 0] rfl (aaf (az (pv 1))) (fun _ _ _=>(dj (i:=0) (show(["room","staying","house"]:List Str).Nodup by decide +kernel) rfl (bN rfl))) (fun _ _ _=>(an8 (yj (ER.toD (dg (ay3 rfl) (by rfl) T.z_all ay6 (ea_v (ER.toD (qu ["staying"] ["door","staying"] [none,some 1] rfl (aaf (ER.toD (j5 (e2_n (pv 2) (cj (pv 0))) (fun _ _=>by rfl)))) (fun _ _ _=>(dj (i:=0) (show(["door","staying"]:List Str).Nodup by decide +kernel) rfl (bN rfl))) (fun _ _ _=>qe) (fun _ _ _=>(ER.toD (aiz (ayh hr.units) (e2_n (pv 0) (cj (pv 1))) (by with_unfolding_all rfl)))))) fc)))))) (fun _ _ _=>(az (pv 0)))))))) (bc (fj (jl yq (by rfl) T.z_tuple vz (ea_n (pv 1) fc)))))))
theorem aej(F:Fun K "refuse_not_open" "refuse_not_open" qj f fd)(T:Txt K mg)(d5:Dd5 P w K mg base):FnOk P w K mg base CX0 3 f fd ["house"] (spOf K 1 ie) :=
 jc F ni rfl rfl fun cdv A outer s H E hr =>
  (ao (SV.s (dq (i:=1) ni.nd rfl (bN rfl) (gr d5 (hr.mono (by decide)) (by rfl) (eg_n (pv 0) cg)))) (bc (xn (ET.s (kh (aad hr.units) (e2_n (pv 1) (EV.toB (j6 bz))) (jy _))) (bc ar5) jq)))
theorem ado(F:Fun K "refuse_not_open" "refuse_not_open" qj f fd)(T:Txt K mg)(d5:Dd5 P w K mg base):FnOk P w K mg base (CX1 P w) 3 f fd ["house"] (spX K 1 ie) :=
 fn_x F ni rfl rfl fun cdv A outer s H E hr =>
  (ad6 (SV.s (dq (i:=1) ni.nd rfl (bN rfl) (gr d5 (hr.mono (by decide)) (by rfl) (eg_n (pv 0) cg)))) ax9 (yw (av5 (ET.s (kh (aad hr.units) (e2_n (pv 1) (EV.toB (j6 bz))) (jy _))) ph (yw (ari rfl rfl (by rfl) T.i_NotOpen am6 rfl (by decide) (by decide) (fun _=>rfl) (bN rfl) (bN rfl) (aqy fun _ _ _ _ _ _ us hl=>by obtain⟨_,_,rfl⟩:=ln2 hl;rfl) (hr.mono (by decide)) (EV.s (ER.toD (j5 (e2_n (pv 1) (EV.toB bf)) (fun _ _=>by rfl)))) ph)) ai6)))
theorem ak9(F:Fun K "is_arrows" "is_arrows" adf f fd)(T:Txt K mg)(d2:Dd2 P w K mg base)(d1:Dd1 P w K mg base):FnOk P w K mg base CX0 3 f fd ["house","thing"] (spOf K 2 rz) :=
 jc F ak2 rfl rfl fun cdv A outer s H E hr =>
  (ao (xn (zg (yj (ER.toD (gr d2 (hr.mono (by decide)) (by rfl) (eg_n (pv 1) (eg_v (ER.toD (dg jz (by rfl) T.z_len j0 (ea_n (pv 0) fc))) (eg_v (ER.toD (dg jz (by rfl) T.z_len j0 (ea_n (pv 0) fc))) cg))))))) (bc (fj (EV.toR abu))) jq) (bc (fj (dg (ay3 rfl) (by rfl) T.z_all ay6 (ea_v (ER.toD (qu [] ["arrow","doors"] [none,none] rfl (ahb (by rfl) T.z_zip (ak (az (pv 1)) (ak (az (pv 0)) bz))) (fun _ _ _=>(ac8 rfl (jo (dj (i:=0) (show(["arrow","doors"]:List Str).Nodup by decide +kernel) rfl (bN rfl)) (jo (dj (i:=1) (show(["arrow","doors"]:List Str).Nodup by decide +kernel) rfl (bN rfl)) aal)))) (fun _ _ _=>qe) (fun _ _ _=>(ER.toD (gr d1 (hr.mono (by decide)) (by rfl) (eg_n (pv 0) (eg_v bf (eg_v (ER.toD (gk ab8 (e2_v (ER.toD (dg jz (by rfl) T.z_len j0 (ea_n (pv 1) fc))) (EV.toB bf)))) cg)))))))) fc)))))
theorem adq(F:Fun K "refuse_no_arrows" "refuse_no_arrows" nj f fd)(T:Txt K mg)(d7:Dd7 P w K mg base):FnOk P w K mg base CX0 4 f fd ["house","thing"] (spOf K 2 gq) :=
 jc F yz rfl rfl fun cdv A outer s H E hr =>
  (bc (xn (ET.s (zg (yj (ER.toD (gr d7 (hr.mono (by decide)) (by rfl) (eg_v (az (pv 0)) (eg_v (az (pv 1)) cg))))))) (bc aja) jq))
theorem ac2(F:Fun K "refuse_no_arrows" "refuse_no_arrows" nj f fd)(T:Txt K mg)(d7:Dd7 P w K mg base):FnOk P w K mg base (CX1 P w) 4 f fd ["house","thing"] (spX K 2 gq) :=
 fn_x F yz rfl rfl fun cdv A outer s H E hr =>
  (yw (av5 (ET.s (zg (yj (ER.toD (gr d7 (hr.mono (by decide)) (by rfl) (eg_v (az (pv 0)) (eg_v (az (pv 1)) cg))))))) ph (yw (ago rfl rfl (by rfl) T.r_NoArrows)) ai6))
theorem ak8(F:Fun K "last_ways" "last_ways" ade f fd)(T:Txt K mg):FnOk P w K mg base CX0 1 f fd ["house","arrows"] (spOf K 2 zb) :=
 jc F ak1 rfl rfl fun cdv A outer s H E hr =>
  (bc (fj (jl yq (by rfl) T.z_tuple vz (ea_v (ER.toD (qu [] ["arrow","doors"] [none,none] rfl (ahb (by rfl) T.z_zip (ak (az (pv 1)) (ak (az (pv 0)) bz))) (fun _ _ _=>(ac8 rfl (jo (dj (i:=0) (show(["arrow","doors"]:List Str).Nodup by decide +kernel) rfl (bN rfl)) (jo (dj (i:=1) (show(["arrow","doors"]:List Str).Nodup by decide +kernel) rfl (bN rfl)) aal)))) (fun _ _ _=>qe) (fun _ _ _=>(ER.toD (j5 (e2_n (pv 1) (EV.toB (ER.toD (gk ab8 (e2_n (pv 0) (EV.toB bf)))))) (fun _ _=>by rfl)))))) fc))))
theorem ah9(F:Fun K "going_round" "going_round" aa9 f fd)(T:Txt K mg):FnOk P w K mg base CX0 1 f fd ["last","rooms"] (spOf K 2 ug) :=
 jc F qw rfl rfl fun cdv A outer s H E hr =>
  (ao (dq (i:=2) qw.nd rfl (oF rfl) (jl ad4 (by rfl) T.z_list acl (ea_n (pv 1) fc))) (ao (dq (i:=3) qw.nd rfl (bN rfl) (gk jk (e2_v (ER.toD (dg jz (by rfl) T.z_len j0 (ea_n (pv 2) fc))) (EV.toB bf)))) (ao (acn fuel cM (kh ao2 (e2_v (ER.toD (dg jz (by rfl) T.z_len j0 (ea_n (pv 2) fc))) (cj (pv 3))) (jy _)) (ao (dq (i:=3) qw.nd rfl (bN rfl) (dg jz (by rfl) T.z_len j0 (ea_n (pv 2) fc))) (bc (dq (i:=2) qw.nd rfl (oF rfl) (qu ["staying","last"] ["room","staying","last"] [none,some 2,some 0] rfl (aaf (az (pv 2))) (fun _ _ _=>(dj (i:=0) (show(["room","staying","last"]:List Str).Nodup by decide +kernel) rfl (bN rfl))) (fun _ _ _=>(an8 (kh (ayh hr.units) (e2_v (ER.toD (j5 (e2_n (pv 2) (cj (pv 0))) (fun _ _=>by rfl))) (cj (pv 1))) (by with_unfolding_all rfl)))) (fun _ _ _=>(az (pv 0)))))))) (bc (fj (aam (pv 2)))))))
theorem ah7(F:Fun K "turned_over" "turned_over" aa7 f fd)(T:Txt K mg):FnOk P w K mg base CX0 1 f fd ["rows"] (spOf K 1 ue) :=
 jc F ah5 rfl rfl fun cdv A outer s H E hr =>
  (bc (fj (axv "at" ["rows"] ["at","rows"] [none,some 0] rfl (qb (by rfl) T.z_range (ak (ER.toD (dg jz (by rfl) T.z_len j0 (ea_n (pv 0) fc))) bz)) (fun _ _ _=>(dj (i:=0) (show(["at","rows"]:List Str).Nodup by decide +kernel) rfl (oF rfl))) (fun _ _ _=>qe) (fun _ _ _=>(ER.toD (qu ["at"] ["row","at"] [none,some 0] rfl (aaf (az (pv 1))) (fun _ _ _=>(dj (i:=0) (show(["row","at"]:List Str).Nodup by decide +kernel) rfl (bN rfl))) (fun _ _ _=>qe) (fun _ _ _=>(ER.toD (j5 (e2_n (pv 0) (cj (pv 1))) (fun _ _=>by rfl))))))))))
theorem ani(F:Fun K "row_with" "row_with" ae8 f fd)(T:Txt K mg):FnOk P w K mg base CX0 1 f fd ["rows","at"] (spOf K 2 aa0) :=
 jc F agw rfl rfl fun cdv A outer s H E hr =>
  (ao (aar cM rfl (aty (by rfl) T.z_range (ak (az (pv 1)) (ak (ER.toD (dg jz (by rfl) T.z_len j0 (ea_n (pv 0) fc))) bz))) (dj (i:=2) agw.nd rfl (bN rfl)) (bc (xn (kh (aad hr.units) (e2_v (ER.toD (j5 (e2_v (ER.toD (j5 (e2_n (pv 0) (cj (pv 2))) (fun _ _=>by rfl))) (cj (pv 1))) (fun _ _=>by rfl))) (EV.toB bf)) (jy _)) (bc (fj (aam (pv 2)))) jq))) (bc (fj (EV.toR ahk))))
theorem aqm(F:Fun K "swapped" "swapped" agz f fd)(T:Txt K mg):FnOk P w K mg base CX0 1 f fd ["rows","one","other"] (spOf K 3 acg) :=
 jc F aii rfl rfl fun cdv A outer s H E hr =>
  (ao (amy (i:=3) [] ["row"] [none] aii.nd rfl (bN rfl) rfl (aaf (az (pv 0))) (fun _ _ _=>(dj (i:=0) (show(["row"]:List Str).Nodup by decide +kernel) rfl (bN rfl))) (fun _ _ _=>qe) (fun _ _ _=>(ER.toD (jl ad4 (by rfl) T.z_list acl (ea_n (pv 0) fc))))) (ao (xn (kh (aad hr.units) (e2_n (pv 1) (cj (pv 2))) (jy _)) (ao (aie (ER.toD (jl ad4 (by rfl) T.z_list acl (ea_v (ER.toD (j5 (e2_n (pv 0) (cj (pv 2))) (fun _ _=>by rfl))) fc))) (pv 3) (az (pv 1))) (bc (aie (ER.toD (qu [] ["number"] [none] rfl (aaf (ER.toD (j5 (e2_n (pv 0) (cj (pv 1))) (fun _ _=>by rfl)))) (fun _ _ _=>(dj (i:=0) (show(["number"]:List Str).Nodup by decide +kernel) rfl (bN rfl))) (fun _ _ _=>qe) (fun _ _ _=>(aey (az (pv 0)))))) (pv 3) (az (pv 2))))) jq) (bc (fj (aam (pv 3))))))
theorem aqn(F:Fun K "cleared" "cleared" ag0 f fd)(T:Txt K mg):FnOk P w K mg base CX0 1 f fd ["rows","at","bottom"] (spOf K 3 ach) :=
 jc F aat rfl rfl fun cdv A outer s H E hr =>
  (ao (dq (i:=3) aat.nd rfl (oF rfl) (j5 (e2_n (pv 0) (cj (pv 1))) (fun _ _=>by rfl))) (ao (dq (i:=4) aat.nd rfl (bN rfl) (lr bz)) (ao (aar cM rfl (atz (by rfl) T.z_enumerate (ak (az (pv 0)) bz)) (ac8 rfl (jo (dj (i:=5) aat.nd rfl (bN rfl)) (jo (dj (i:=6) aat.nd rfl (oF rfl)) aal))) (bc (xn (kh (af0 hr.units) (e2_n (pv 5) (cj (pv 1))) (jy _)) (bc (uy (EV.toR (apo acs lF PySem.F.type_list_append acb (pv 4) (ak (ER.toD (jl ad4 (by rfl) T.z_list acl (ea_n (pv 3) fc))) bz))))) (bc (uy (EV.toR (apo acs lF PySem.F.type_list_append acb (pv 4) (ak (ER.toD (qu ["row","head","bottom","at"] ["own","over","row","head","bottom","at"] [none,none,some 6,some 3,some 2,some 1] rfl (ahb (by rfl) T.z_zip (ak (az (pv 6)) (ak (az (pv 3)) bz))) (fun _ _ _=>(ac8 rfl (jo (dj (i:=0) (show(["own","over","row","head","bottom","at"]:List Str).Nodup by decide +kernel) rfl (bN rfl)) (jo (dj (i:=1) (show(["own","over","row","head","bottom","at"]:List Str).Nodup by decide +kernel) rfl (bN rfl)) aal)))) (fun _ _ _=>qe) (fun _ _ _=>(ER.toD (gk ang (e2_v (ER.toD (gk ab8 (e2_v (ER.toD (gk ag4 (e2_v (ER.toD (j5 (e2_n (pv 3) (cj (pv 5))) (fun _ _=>by rfl))) (cj (pv 0))))) (EV.toB (ER.toD (gk ag4 (e2_v (ER.toD (j5 (e2_n (pv 2) (cj (pv 5))) (fun _ _=>by rfl))) (cj (pv 1))))))))) (cj (pv 4)))))))) bz)))))))) (bc (fj (aam (pv 4)))))))
theorem as8(F:Fun K "solved" "solved" ajk f fd)(T:Txt K mg)(d12:Dd12 P w K mg base)(d13:Dd13 P w K mg base)(d14:Dd14 P w K mg base):FnOk P w K mg base CX0 2 f fd ["rows","right"] (spOf K 2 abi) :=
 jc F wj rfl rfl fun cdv A outer s H E hr =>
  (ao (amy (i:=2) [] ["row","number"] [none,none] wj.nd rfl (bN rfl) rfl (ahb (by rfl) T.z_zip (ak (az (pv 0)) (ak (az (pv 1)) bz))) (fun _ _ _=>(ac8 rfl (jo (dj (i:=0) (show(["row","number"]:List Str).Nodup by decide +kernel) rfl (bN rfl)) (jo (dj (i:=1) (show(["row","number"]:List Str).Nodup by decide +kernel) rfl (bN rfl)) aal)))) (fun _ _ _=>qe) (fun _ _ _=>(ER.toD (gk jk (e2_v (ER.toD (jl ad4 (by rfl) T.z_list acl (ea_n (pv 0) fc))) (EV.toB (ER.toD (lr (ak (az (pv 1)) bz))))))))) (ao (dq (i:=3) wj.nd rfl (bN rfl) (EV.toR bf)) (ao (aar cM rfl (qb (by rfl) T.z_range (ak (ER.toD (dg jz (by rfl) T.z_len j0 (ea_n (pv 0) fc))) bz)) (dj (i:=4) wj.nd rfl (bN rfl)) (ao (dq (i:=5) wj.nd rfl (bN rfl) (gr d12 (hr.mono (by decide)) (by rfl) (eg_n (pv 2) (eg_v (az (pv 4)) cg)))) (ao (xn (aus (cj (pv 5))) (bc (fj (EV.toR ahk))) jq) (ao (dq (i:=2) wj.nd rfl (bN rfl) (gr d13 (hr.mono (by decide)) (by rfl) (eg_v (az (pv 2)) (eg_v (az (pv 4)) (eg_v (az (pv 5)) cg))))) (ao (dq (i:=2) wj.nd rfl (bN rfl) (gr d14 (hr.mono (by decide)) (by rfl) (eg_v (az (pv 2)) (eg_n (pv 4) (eg_n (pv 3) cg))))) (bc (dq (i:=3) wj.nd rfl (bN rfl) (j5 (e2_v (ER.toD (j5 (e2_n (pv 2) (cj (pv 4))) (fun _ _=>by rfl))) (cj (pv 4))) (fun _ _=>by rfl))))))))) (bc (fj (EV.toR (j6 (ak (ER.toD (qu ["rows"] ["row","rows"] [none,some 0] rfl (aaf (az (pv 2))) (fun _ _ _=>(dj (i:=0) (show(["row","rows"]:List Str).Nodup by decide +kernel) rfl (bN rfl))) (fun _ _ _=>qe) (fun _ _ _=>(ER.toD (j5 (e2_n (pv 0) (EV.toB (ER.toD (dg jz (by rfl) T.z_len j0 (ea_n (pv 1) fc))))) (fun _ _=>by rfl)))))) (ak (az (pv 3)) bz)))))))))
theorem afi(F:Fun K "common_divisor" "common_divisor" xu f fd)(T:Txt K mg):FnOk P w K mg base CX0 1 f fd ["numbers"] (spOf K 1 my) :=
 jc F jj rfl rfl fun cdv A outer s H E hr =>
  (ao (dq (i:=1) jj.nd rfl (bN rfl) (EV.toR bf)) (ao (aar cM rfl (aaf (az (pv 0))) (dj (i:=2) jj.nd rfl (bN rfl)) (ao (dq (i:=3) jj.nd rfl (bN rfl) (dg ay4 (by rfl) T.z_abs ay7 (ea_n (pv 2) fc))) (bc (acn fuel cM (kh (aad hr.units) (e2_n (pv 3) (EV.toB bf)) (jy _)) (ao (dq (i:=4) jj.nd rfl (bN rfl) (gk adn (e2_n (pv 1) (cj (pv 3))))) (ao (dq (i:=1) jj.nd rfl (bN rfl) (EV.toR (az (pv 3)))) (bc (dq (i:=3) jj.nd rfl (bN rfl) (EV.toR (az (pv 4))))))))))) (bc (fj (aam (pv 1))))))
theorem ag6(F:Fun K "doors_square" "doors_square" aai f fd)(T:Txt K mg):FnOk P w K mg base CX0 1 f fd ["house"] (spOf K 1 qx) :=
 jc F nu rfl rfl fun cdv A outer s H E hr =>
  (ao (dq (i:=1) nu.nd rfl (bN rfl) (lr bz)) (ao (aar cM rfl (atz (by rfl) T.z_enumerate (ak (az (pv 0)) bz)) (ac8 rfl (jo (dj (i:=2) nu.nd rfl (bN rfl)) (jo (dj (i:=3) nu.nd rfl (oF rfl)) aal))) (ao (amy (i:=4) ["doors"] ["other","doors"] [none,some 3] nu.nd rfl (bN rfl) rfl (qb (by rfl) T.z_range (ak (ER.toD (dg jz (by rfl) T.z_len j0 (ea_n (pv 0) fc))) bz)) (fun _ _ _=>(dj (i:=0) (show(["other","doors"]:List Str).Nodup by decide +kernel) rfl (bN rfl))) (fun _ _ _=>qe) (fun _ _ _=>(aey (akd hr.units (pv 1) (ak (az (pv 0)) bz))))) (ao (ar4 (pv 4) (az (pv 2)) (ER.toD (dg jz (by rfl) T.z_len j0 (ea_n (pv 3) fc))) a5q) (bc (uy (EV.toR (apo acs lF PySem.F.type_list_append acb (pv 1) (ak (az (pv 4)) bz)))))))) (bc (fj (aam (pv 1))))))
theorem ah8(F:Fun K "least_times" "least_times" aa8 f fd)(T:Txt K mg)(d11:Dd11 P w K mg base)(d15:Dd15 P w K mg base)(d16:Dd16 P w K mg base):FnOk P w K mg base CX0 3 f fd ["rows","at"] (spOf K 2 uf) :=
 jc F ac5 rfl rfl fun cdv A outer s H E hr =>
  (ao (dq (i:=2) ac5.nd rfl (bN rfl) (gr d15 (hr.mono (by decide)) (by rfl) (eg_v (ER.toD (gr d11 (hr.mono (by decide)) (by rfl) (eg_n (pv 0) cg))) (eg_v (ER.toD (qu ["at"] ["number","at"] [none,some 1] rfl (qb (by rfl) T.z_range (ak (ER.toD (dg jz (by rfl) T.z_len j0 (ea_n (pv 0) fc))) bz)) (fun _ _ _=>(dj (i:=0) (show(["number","at"]:List Str).Nodup by decide +kernel) rfl (bN rfl))) (fun _ _ _=>qe) (fun _ _ _=>(ER.toD (a9o (kh (af0 hr.units) (e2_n (pv 0) (cj (pv 1))) (jy _)) (EV.toR bf) (EV.toR bf)))))) cg)))) (bc (fj (gk ang (e2_v (ER.toD (dg ay4 (by rfl) T.z_abs ay7 (ea_v (ER.toD (j5 (e2_n (pv 2) (EV.toB bf)) (fun _ _=>by rfl))) fc))) (EV.toB (ER.toD (gr d16 (hr.mono (by decide)) (by rfl) (eg_v (ER.toD (gk jk (e2_v (ER.toD (j5 (e2_n (pv 2) (EV.toB bf)) (fun _ _=>by rfl))) (EV.toB (ER.toD (lr (ak (ER.toD (j5 (e2_n (pv 2) (EV.toB bf)) (fun _ _=>by rfl))) bz))))))) cg)))))))))
theorem aek(F:Fun K "refuse_no_state" "refuse_no_state" ql f fd)(T:Txt K mg)(d8:Dd8 P w K mg base)(d4:Dd4 P w K mg base)(x8:Dx8 P w K mg base)(x4:Dx4 P w K mg base):FnOk P w K mg base CX0 5 f fd ["house","arrows","room"] (spOf K 3 fu) :=
 jc F zx rfl rfl fun cdv A outer s H E hr =>
  (ao (uy (gr d8 (hr.mono (by decide)) (by rfl) (eg_v (EV.s (az (pv 0))) (eg_v (EV.s (az (pv 1))) cg)))) (bc (uy (gr d4 (hr.mono (by decide)) (by rfl) (eg_n (pv 0) (eg_v (EV.s (az (pv 2))) cg))))))
theorem adp(F:Fun K "refuse_no_state" "refuse_no_state" ql f fd)(T:Txt K mg)(d8:Dd8 P w K mg base)(d4:Dd4 P w K mg base)(x8:Dx8 P w K mg base)(x4:Dx4 P w K mg base):FnOk P w K mg base (CX1 P w) 5 f fd ["house","arrows","room"] (spX K 3 fu) :=
 fn_x F zx rfl rfl fun cdv A outer s H E hr =>
  (ad6 (uy (gr d8 (hr.mono (by decide)) (by rfl) (eg_v (EV.s (az (pv 0))) (eg_v (EV.s (az (pv 1))) cg)))) (agp (ap2 x8 (hr.mono (by decide)) (by rfl) (eg_v (EV.s (az (pv 0))) (eg_v (EV.s (az (pv 1))) cg)) (xa_v (js:=[]) (EV.s (az (pv 0))) (XE.no ph) (xa_v (js:=[]) (EV.s (az (pv 1))) (XE.no ph) agq)))) (yw (agp (ap2 x4 (hr.mono (by decide)) (by rfl) (eg_n (pv 0) (eg_v (EV.s (az (pv 2))) cg)) (xa_n (pv 0) (xa_v (js:=[]) (EV.s (az (pv 2))) (XE.no ph) agq))))))
theorem anj(F:Fun K "lead_out" "lead_out" ae9 f fd)(T:Txt K mg)(d9:Dd9 P w K mg base)(d10:Dd10 P w K mg base):FnOk P w K mg base CX0 2 f fd ["house","arrows"] (spOf K 2 aa1) :=
 jc F am7 rfl rfl fun cdv A outer s H E hr =>
  (bc (fj (aiz (af0 hr.units) (e2_v (ER.toD (gr d10 (hr.mono (by decide)) (by rfl) (eg_v (ER.toD (gr d9 (hr.mono (by decide)) (by rfl) (eg_v (az (pv 0)) (eg_v (az (pv 1)) cg)))) (eg_v (ER.toD (aga rfl (by rfl) T.z_list (by rfl) T.z_range (ak (ER.toD (dg jz (by rfl) T.z_len j0 (ea_n (pv 0) fc))) bz))) cg)))) (EV.toB (ER.toD (lr bz)))) (jy _))))
theorem ac3(F:Fun K "refuse_never_back" "refuse_never_back" lu f fd)(T:Txt K mg)(d20:Dd20 P w K mg base):FnOk P w K mg base CX0 3 f fd ["house","arrows"] (spOf K 2 f9) :=
 jc F yg rfl rfl fun cdv A outer s H E hr =>
  (bc (xn (ET.s (zg (yj (ER.toD (gr d20 (hr.mono (by decide)) (by rfl) (eg_v (az (pv 0)) (eg_v (az (pv 1)) cg))))))) (bc aja) jq))
theorem ab9(F:Fun K "refuse_never_back" "refuse_never_back" lu f fd)(T:Txt K mg)(d20:Dd20 P w K mg base):FnOk P w K mg base (CX1 P w) 3 f fd ["house","arrows"] (spX K 2 f9) :=
 fn_x F yg rfl rfl fun cdv A outer s H E hr =>
  (yw (av5 (ET.s (zg (yj (ER.toD (gr d20 (hr.mono (by decide)) (by rfl) (eg_v (az (pv 0)) (eg_v (az (pv 1)) cg))))))) ph (yw (ago rfl rfl (by rfl) T.r_NeverBack)) ai6))
theorem aia(F:Fun K "again_after" "again_after" ym f fd)(T:Txt K mg)(d19:Dd19 P w K mg base)(d6:Dd6 P w K mg base)(d21:Dd21 P w K mg base)(d17:Dd17 P w K mg base)(d18:Dd18 P w K mg base)(x19:Dx19 P w K mg base)(x6:Dx6 P w K mg base)(x21:Dx21 P w K mg base):FnOk P w K mg base CX0 6 f fd ["house","arrows","room"] (spOf K 3 gf) :=
 jc F ac6 rfl rfl fun cdv A outer s H E hr =>
  (ao (uy (gr d19 (hr.mono (by decide)) (by rfl) (eg_v (EV.s (az (pv 0))) (eg_v (EV.s (az (pv 1))) (eg_v (EV.s (az (pv 2))) cg))))) (ao (uy (gr d6 (hr.mono (by decide)) (by rfl) (eg_n (pv 0) cg))) (ao (uy (gr d21 (hr.mono (by decide)) (by rfl) (eg_v (EV.s (az (pv 0))) (eg_v (EV.s (az (pv 1))) cg)))) (bc (SV.s (fj (gr d18 (hr.mono (by decide)) (by rfl) (eg_v (ER.toD (gr d17 (hr.mono (by decide)) (by rfl) (eg_v (az (pv 0)) cg))) (eg_n (pv 2) cg)))))))))
theorem ag5(F:Fun K "again_after" "again_after" ym f fd)(T:Txt K mg)(d19:Dd19 P w K mg base)(d6:Dd6 P w K mg base)(d21:Dd21 P w K mg base)(d17:Dd17 P w K mg base)(d18:Dd18 P w K mg base)(x19:Dx19 P w K mg base)(x6:Dx6 P w K mg base)(x21:Dx21 P w K mg base):FnOk P w K mg base (CX1 P w) 6 f fd ["house","arrows","room"] (spX K 3 gf) :=
 fn_x F ac6 rfl rfl fun cdv A outer s H E hr =>
  (ad6 (uy (gr d19 (hr.mono (by decide)) (by rfl) (eg_v (EV.s (az (pv 0))) (eg_v (EV.s (az (pv 1))) (eg_v (EV.s (az (pv 2))) cg))))) (agp (ap2 x19 (hr.mono (by decide)) (by rfl) (eg_v (EV.s (az (pv 0))) (eg_v (EV.s (az (pv 1))) (eg_v (EV.s (az (pv 2))) cg))) (xa_v (js:=[]) (EV.s (az (pv 0))) (XE.no ph) (xa_v (js:=[]) (EV.s (az (pv 1))) (XE.no ph) (xa_v (js:=[]) (EV.s (az (pv 2))) (XE.no ph) agq))))) (ad6 (uy (gr d6 (hr.mono (by decide)) (by rfl) (eg_n (pv 0) cg))) (agp (ap2 x6 (hr.mono (by decide)) (by rfl) (eg_n (pv 0) cg) (xa_n (pv 0) agq))) (ad6 (uy (gr d21 (hr.mono (by decide)) (by rfl) (eg_v (EV.s (az (pv 0))) (eg_v (EV.s (az (pv 1))) cg)))) (agp (ap2 x21 (hr.mono (by decide)) (by rfl) (eg_v (EV.s (az (pv 0))) (eg_v (EV.s (az (pv 1))) cg)) (xa_v (js:=[]) (EV.s (az (pv 0))) (XE.no ph) (xa_v (js:=[]) (EV.s (az (pv 1))) (XE.no ph) agq)))) (yw ax9))))
theorem alh(F:Fun K "_law_cell" "_law_cell" adm f fd)(T:Txt K mg):FnOk P w K mg base CX0 1 f fd ["script","k"] (spOf K 2 f__law_cell) :=
 jc F ak3 rfl rfl fun cdv A outer s H E hr =>
  (ao (xn (kh ao2 (e2_n (pv 1) (EV.toB (ER.toD (dg jz (by rfl) T.z_len j0 (ea_n (pv 0) fc))))) (jy _)) (bc (fj (j5 (e2_n (pv 0) (cj (pv 1))) (fun _ _=>by rfl)))) jq) (bc (fj (EV.toR bf))))
theorem anl(F:Fun K "_law_pen" "_law_pen" afb f fd)(T:Txt K mg):FnOk P w K mg base CX0 1 f fd ["cell"] (spOf K 1 f__law_pen) :=
 jc F agx rfl rfl fun cdv A outer s H E hr =>
  (ao (dq (i:=1) agx.nd rfl (bN rfl) (dg (ay2 rfl) (by rfl) T.z_max ay5 (ea_n (pv 0) (ea_v (ER.toD (gk ab8 (e2_v bf (cj (pv 0))))) fc)))) (bc (fj (lr (ak (az (pv 1)) (ak (ER.toD (jl a6i (by rfl) T.z_int avn (ea_v (ER.toD (aiz ao3 (e2_n (pv 1) (EV.toB (ER.toD (gk as5 (e2_v bf (EV.toB bf)))))) (jy _))) fc))) bz))))))
theorem alf(F:Fun K "_law_draw" "_law_draw" adl f fd)(T:Txt K mg):FnOk P w K mg base CX0 1 f fd ["pen","many"] (spOf K 2 f__law_draw) :=
 jc F wu rfl rfl fun cdv A outer s H E hr =>
  (ao (xn (kh (af0 hr.units) (e2_v (ER.toD (j5 (e2_n (pv 0) (EV.toB bf)) (fun _ _=>by rfl))) (EV.toB bf)) (jy _)) (ao (ar6 (ER.toD (dg avf (by rfl) T.z_divmod avo (ea_v (ER.toD (j5 (e2_n (pv 0) (EV.toB bf)) (fun _ _=>by rfl))) (ea_n (pv 1) fc)))) (ac8 rfl (jo (dj (i:=2) wu.nd rfl (bN rfl)) (jo (dj (i:=3) wu.nd rfl (bN rfl)) aal)))) (ao (aie (az (pv 2)) (pv 0) bf) (bc (fj (aam (pv 3)))))) jq) (ao (dq (i:=4) wu.nd rfl (bN rfl) (gk adn (e2_v (ER.toD (gk ag4 (e2_v (ER.toD (gk jk (e2_v (ER.toD (gk adn (e2_v (ER.toD (j5 (e2_n (pv 0) (EV.toB bf)) (fun _ _=>by rfl))) (EV.toB bf)))) (EV.toB bf)))) (EV.toB bf)))) (EV.toB bf)))) (ao (dq (i:=4) wu.nd rfl (bN rfl) (gk adn (e2_v (ER.toD (gk jk (e2_v (ER.toD (gk ag4 (e2_n (pv 4) (cj (pv 4))))) (EV.toB bf)))) (EV.toB bf)))) (ao (aie (ER.toD (gk adn (e2_v (ER.toD (gk jk (e2_v (ER.toD (gk ag4 (e2_n (pv 4) (EV.toB bf)))) (EV.toB bf)))) (EV.toB bf)))) (pv 0) bf) (bc (fj (gk adn (e2_v (ER.toD (gk ang (e2_v (ER.toD (j5 (e2_n (pv 0) (EV.toB bf)) (fun _ _=>by rfl))) (EV.toB bf)))) (cj (pv 1))))))))))
theorem ajr(F:Fun K "_law_whole" "_law_whole" abx f fd)(T:Txt K mg):FnOk P w K mg base CX0 1 f fd ["thing"] (spOf K 1 w6) :=
 jc F ajh rfl rfl fun cdv A outer s H E hr =>
  (bc (fj (EV.toR (aiy (al8 (t:=.int) (aqj (by rfl) T.z_int avn) (by rfl) T.z_isinstance bj (cj (pv 0))) (al7 (ayv (al8 (t:=.bool) (aqj (by rfl) T.z_bool avp) (by rfl) T.z_isinstance bj (cj (pv 0)))))))))
theorem anm(F:Fun K "_law_odd" "_law_odd" afc f fd)(T:Txt K mg)(d25:Dd25 P w K mg base):FnOk P w K mg base CX0 2 f fd ["pen"] (spOf K 1 f__law_odd) :=
 jc F agy rfl rfl fun cdv A outer s H E hr =>
  (ao (dq (i:=1) agy.nd rfl (bN rfl) (lr (ak ahk (ak abu (ak abu (ak (aey bf) (ak jh (ak jh (ak (j6 bz) (ak (ER.toD (lr bz)) (ak (j6 (ak bf bz)) (ak (ER.toD (lr (ak bf bz))) (ak axu (ak (j6 (ak bf (ak bf bz))) (ak (ER.toD (gk as5 (e2_v bf (EV.toB bf)))) (ak (j6 (ak (j6 (ak bf bz)) bz)) (ak jh bz))))))))))))))))) (bc (fj (j5 (e2_v (ER.toD (gk jk (e2_n (pv 1) (EV.toB (ER.toD (lr (ak (j6 (ak (j6 (ak (aey bf) bz)) (ak (j6 (ak bf (ak bf bz))) bz))) bz))))))) (EV.toB (ER.toD (gr d25 (hr.mono (by decide)) (by rfl) (eg_n (pv 0) (eg_v bf cg)))))) (fun _ _=>by rfl)))))
theorem ajv(F:Fun K "_law_house" "_law_house" ab1 f fd)(T:Txt K mg)(d25:Dd25 P w K mg base):FnOk P w K mg base CX0 2 f fd ["pen","most","doors"] (spOf K 3 f__law_house) :=
 jc F qg rfl rfl fun cdv A outer s H E hr =>
  (ao (dq (i:=3) qg.nd rfl (oF rfl) (gk jk (e2_v bf (EV.toB (ER.toD (gr d25 (hr.mono (by decide)) (by rfl) (eg_n (pv 0) (eg_n (pv 1) cg)))))))) (ao (dq (i:=4) qg.nd rfl (oF rfl) (j5 (e2_v (ER.toD (lr (ak bf (ak bf (ak bf (ak bf bz)))))) (EV.toB (ER.toD (gr d25 (hr.mono (by decide)) (by rfl) (eg_n (pv 0) (eg_v bf cg)))))) (fun _ _=>by rfl))) (ao (dq (i:=5) qg.nd rfl (bN rfl) (lr bz)) (ao (aar cM rfl (qb (by rfl) T.z_range (ak (az (pv 3)) bz)) (dj (i:=6) qg.nd rfl (bN rfl)) (ao (dq (i:=7) qg.nd rfl (bN rfl) (gk jk (e2_v bf (EV.toB (ER.toD (gr d25 (hr.mono (by decide)) (by rfl) (eg_n (pv 0) (eg_n (pv 2) cg)))))))) (bc (uy (EV.toR (apo acs lF PySem.F.type_list_append acb (pv 5) (ak (ER.toD (jl yq (by rfl) T.z_tuple vz (ea_v (ER.toD (qu ["pen","many","gates"] ["door","pen","many","gates"] [none,some 0,some 3,some 4] rfl (qb (by rfl) T.z_range (ak (az (pv 7)) bz)) (fun _ _ _=>(dj (i:=0) (show(["door","pen","many","gates"]:List Str).Nodup by decide +kernel) rfl (bN rfl))) (fun _ _ _=>qe) (fun _ _ _=>(ER.toD (gk ab8 (e2_v (ER.toD (gr d25 (hr.mono (by decide)) (by rfl) (eg_n (pv 1) (eg_v (ER.toD (gk jk (e2_n (pv 2) (cj (pv 3))))) cg)))) (cj (pv 3)))))))) fc))) bz))))))) (bc (fj (jl yq (by rfl) T.z_tuple vz (ea_n (pv 5) fc))))))))
theorem ag7(F:Fun K "_law_reached" "_law_reached" aaj f fd)(T:Txt K mg):FnOk P w K mg base CX0 1 f fd ["house","room"] (spOf K 2 qy) :=
 jc F oh rfl rfl fun cdv A outer s H E hr =>
  (ao (dq (i:=2) oh.nd rfl (oF rfl) (lr (ak (az (pv 1)) bz))) (ao (dq (i:=3) oh.nd rfl (bN rfl) (EV.toR bf)) (ao (acn fuel cM (kh ao2 (e2_n (pv 3) (EV.toB (ER.toD (dg jz (by rfl) T.z_len j0 (ea_n (pv 2) fc))))) (jy _)) (ao (xn (kh ao3 (e2_v (ER.toD (j5 (e2_n (pv 2) (cj (pv 3))) (fun _ _=>by rfl))) (EV.toB bf)) (jy _)) (bc (dq (i:=2) oh.nd rfl (oF rfl) (gk jk (e2_n (pv 2) (EV.toB (ER.toD (qu ["found"] ["door","found"] [none,some 2] rfl (aaf (ER.toD (al9 rfl (by rfl) T.z_sorted avm (by rfl) T.z_set a6k (ea_v (ER.toD (j5 (e2_n (pv 0) (EV.toB (ER.toD (j5 (e2_n (pv 2) (cj (pv 3))) (fun _ _=>by rfl))))) (fun _ _=>by rfl))) fc)))) (fun _ _ _=>(dj (i:=0) (show(["door","found"]:List Str).Nodup by decide +kernel) rfl (bN rfl))) (fun _ _ _=>(an8 (kh (as6 hr.units) (e2_n (pv 0) (cj (pv 1))) (by with_unfolding_all rfl)))) (fun _ _ _=>(az (pv 0)))))))))) jq) (bc (dq (i:=3) oh.nd rfl (bN rfl) (gk jk (e2_n (pv 3) (EV.toB bf))))))) (bc (fj (aam (pv 2)))))))
theorem alc(F:Fun K "_law_open" "_law_open" adi f fd)(T:Txt K mg)(d28:Dd28 P w K mg base)(d29:Dd29 P w K mg base)(d25:Dd25 P w K mg base):FnOk P w K mg base CX0 3 f fd ["pen","most","doors"] (spOf K 3 f__law_open) :=
 jc F aaa rfl rfl fun cdv A outer s H E hr =>
  (ao (dq (i:=3) aaa.nd rfl (bN rfl) (jl ad4 (by rfl) T.z_list acl (ea_v (ER.toD (gr d28 (hr.mono (by decide)) (by rfl) (eg_n (pv 0) (eg_n (pv 1) (eg_n (pv 2) cg))))) fc))) (ao (aar cM rfl (qb (by rfl) T.z_range (ak (ER.toD (dg jz (by rfl) T.z_len j0 (ea_n (pv 3) fc))) bz)) (dj (i:=4) aaa.nd rfl (bN rfl)) (bc (xn (kh ao3 (e2_v (ER.toD (dg (a1x rfl) (by rfl) T.z_min a6l (ea_v (ER.toD (gr d29 (hr.mono (by decide)) (by rfl) (eg_n (pv 3) (eg_v (az (pv 4)) cg)))) fc))) (EV.toB bf)) (jy _)) (ao (dq (i:=5) aaa.nd rfl (bN rfl) (gr d25 (hr.mono (by decide)) (by rfl) (eg_n (pv 0) (eg_v (ER.toD (dg jz (by rfl) T.z_len j0 (ea_v (ER.toD (j5 (e2_n (pv 3) (cj (pv 4))) (fun _ _=>by rfl))) fc))) cg)))) (bc (aie (ER.toD (gk jk (e2_v (ER.toD (gk jk (e2_v (ER.toD (ayw (ER.toD (j5 (e2_n (pv 3) (cj (pv 4))) (fun _ _=>by rfl))) auu (akh (az (pv 5))))) (EV.toB (j6 (ak (ER.toD (gk ab8 (e2_v (aey bf) (EV.toB (ER.toD (gr d25 (hr.mono (by decide)) (by rfl) (eg_n (pv 0) (eg_v bf cg)))))))) bz)))))) (EV.toB (ER.toD (ayw (ER.toD (j5 (e2_n (pv 3) (cj (pv 4))) (fun _ _=>by rfl))) (akh (ER.toD (gk jk (e2_n (pv 5) (EV.toB bf))))) auu)))))) (pv 3) (az (pv 4))))) jq))) (bc (fj (jl yq (by rfl) T.z_tuple vz (ea_n (pv 3) fc))))))
theorem ajw(F:Fun K "_law_drawn" "_law_drawn" ab2 f fd)(T:Txt K mg)(d25:Dd25 P w K mg base):FnOk P w K mg base CX0 2 f fd ["pen","house"] (spOf K 2 f__law_drawn) :=
 jc F ajj rfl rfl fun cdv A outer s H E hr =>
  (bc (fj (jl yq (by rfl) T.z_tuple vz (ea_v (ER.toD (qu ["pen"] ["room","pen"] [none,some 0] rfl (aaf (az (pv 1))) (fun _ _ _=>(dj (i:=0) (show(["room","pen"]:List Str).Nodup by decide +kernel) rfl (bN rfl))) (fun _ _ _=>qe) (fun _ _ _=>(ER.toD (gr d25 (hr.mono (by decide)) (by rfl) (eg_n (pv 1) (eg_v (ER.toD (dg jz (by rfl) T.z_len j0 (ea_n (pv 0) fc))) cg))))))) fc))))
theorem ald(F:Fun K "_law_kind" "_law_kind" aba f fd)(T:Txt K mg):FnOk P w K mg base CX0 1 f fd ["e"] (spOf K 1 qd) :=
 jc F jt rfl rfl fun cdv A outer s H E hr =>
  (ao (dq (i:=1) jt.nd rfl (bN rfl) (lr (ak (jr T.sub (by decide +kernel) (by rfl) T.k_NoArrows (by rfl) T.z_isinstance bj (cj (pv 0))) (ak (jr T.sub (by decide +kernel) (by rfl) T.k_NoRoom (by rfl) T.z_isinstance bj (cj (pv 0))) (ak (jr T.sub (by decide +kernel) (by rfl) T.k_NoWalkers (by rfl) T.z_isinstance bj (cj (pv 0))) (ak (jr T.sub (by decide +kernel) (by rfl) T.k_NotShut (by rfl) T.z_isinstance bj (cj (pv 0))) bz)))))) (ao (dq (i:=1) jt.nd rfl (bN rfl) (gk jk (e2_n (pv 1) (EV.toB (ER.toD (lr (ak (jr T.sub (by decide +kernel) (by rfl) T.k_NeverBack (by rfl) T.z_isinstance bj (cj (pv 0))) (ak (jr T.sub (by decide +kernel) (by rfl) T.k_NoTour (by rfl) T.z_isinstance bj (cj (pv 0))) (ak (jr T.sub (by decide +kernel) (by rfl) T.k_NoRow (by rfl) T.z_isinstance bj (cj (pv 0))) (ak (jr T.sub (by decide +kernel) (by rfl) T.k_NoHouse (by rfl) T.z_isinstance bj (cj (pv 0))) bz)))))))))) (ao (dq (i:=1) jt.nd rfl (bN rfl) (gk jk (e2_n (pv 1) (EV.toB (ER.toD (lr (ak (jr T.sub (by decide +kernel) (by rfl) T.k_NotOpen (by rfl) T.z_isinstance bj (cj (pv 0))) (ak (jr T.sub (by decide +kernel) (by rfl) T.k_Nobody (by rfl) T.z_isinstance bj (cj (pv 0))) (ak (jr T.sub (by decide +kernel) (by rfl) T.k_NoText (by rfl) T.z_isinstance bj (cj (pv 0))) (ak (jr T.sub (by decide +kernel) (by rfl) T.k_TooGreat (by rfl) T.z_isinstance bj (cj (pv 0))) bz)))))))))) (ao (xn (EW.pt (aq2 (zg (yj (aur T.sub (by rfl) T.z_ValueError ae1 (by rfl) T.z_isinstance bj (cj (pv 0))))) (aix (kh (aad hr.units) (e2_v (akd hr.units (pv 1) (ak abu bz)) (EV.toB bf)) (jy _))))) (bc (fj (EV.toR jh))) jq) (ao (dq (i:=2) jt.nd rfl (bN rfl) (lr (ak jh (ak jh (ak jh (ak jh (ak jh (ak jh (ak jh (ak jh (ak jh (ak jh bz)))))))))))) (bc (fj (j5 (e2_v (ER.toD (gk jk (e2_n (pv 2) (EV.toB (ER.toD (lr (ak jh (ak jh bz)))))))) (EV.toB (auq oN uF (ao5 hr.units) (pv 1) (ak abu bz)))) (fun _ _=>by rfl)))))))))
theorem ajq(F:Fun K "_law_kind" "_law_kind" aba f fd)(T:Txt K mg):FnOkU P w K mg base 1 f fd ["e"] (spOf K 1 qd) :=
 a1m F jt rfl rfl fun cdv A outer s H hr =>
  (ao (dq (i:=1) jt.nd rfl (bN rfl) (lr (ak (jr T.sub (by decide +kernel) (by rfl) T.k_NoArrows (by rfl) T.z_isinstance bj (cj (pv 0))) (ak (jr T.sub (by decide +kernel) (by rfl) T.k_NoRoom (by rfl) T.z_isinstance bj (cj (pv 0))) (ak (jr T.sub (by decide +kernel) (by rfl) T.k_NoWalkers (by rfl) T.z_isinstance bj (cj (pv 0))) (ak (jr T.sub (by decide +kernel) (by rfl) T.k_NotShut (by rfl) T.z_isinstance bj (cj (pv 0))) bz)))))) (ao (dq (i:=1) jt.nd rfl (bN rfl) (gk jk (e2_n (pv 1) (EV.toB (ER.toD (lr (ak (jr T.sub (by decide +kernel) (by rfl) T.k_NeverBack (by rfl) T.z_isinstance bj (cj (pv 0))) (ak (jr T.sub (by decide +kernel) (by rfl) T.k_NoTour (by rfl) T.z_isinstance bj (cj (pv 0))) (ak (jr T.sub (by decide +kernel) (by rfl) T.k_NoRow (by rfl) T.z_isinstance bj (cj (pv 0))) (ak (jr T.sub (by decide +kernel) (by rfl) T.k_NoHouse (by rfl) T.z_isinstance bj (cj (pv 0))) bz)))))))))) (ao (dq (i:=1) jt.nd rfl (bN rfl) (gk jk (e2_n (pv 1) (EV.toB (ER.toD (lr (ak (jr T.sub (by decide +kernel) (by rfl) T.k_NotOpen (by rfl) T.z_isinstance bj (cj (pv 0))) (ak (jr T.sub (by decide +kernel) (by rfl) T.k_Nobody (by rfl) T.z_isinstance bj (cj (pv 0))) (ak (jr T.sub (by decide +kernel) (by rfl) T.k_NoText (by rfl) T.z_isinstance bj (cj (pv 0))) (ak (jr T.sub (by decide +kernel) (by rfl) T.k_TooGreat (by rfl) T.z_isinstance bj (cj (pv 0))) bz)))))))))) (ao (xn (EW.pt (aq2 (zg (yj (aur T.sub (by rfl) T.z_ValueError ae1 (by rfl) T.z_isinstance bj (cj (pv 0))))) (aix (kh (aad hr.units) (e2_v (akd hr.units (pv 1) (ak abu bz)) (EV.toB bf)) (jy _))))) (bc (fj (EV.toR jh))) jq) (ao (dq (i:=2) jt.nd rfl (bN rfl) (lr (ak jh (ak jh (ak jh (ak jh (ak jh (ak jh (ak jh (ak jh (ak jh (ak jh bz)))))))))))) (bc (fj (j5 (e2_v (ER.toD (gk jk (e2_n (pv 2) (EV.toB (ER.toD (lr (ak jh (ak jh bz)))))))) (EV.toB (auq oN uF (ao5 hr.units) (pv 1) (ak abu bz)))) (fun _ _=>by rfl)))))))))
theorem aju(F:Fun K "_law_lasts" "_law_lasts" ab0 f fd)(T:Txt K mg):FnOk P w K mg base CX0 1 f fd ["house","some"] (spOf K 2 f__law_lasts) :=
 jc F aji rfl rfl fun cdv A outer s H E hr =>
  (bc (fj (qu [] ["one","room"] [none,none] rfl (ahb (by rfl) T.z_zip (ak (az (pv 1)) (ak (az (pv 0)) bz))) (fun _ _ _=>(ac8 rfl (jo (dj (i:=0) (show(["one","room"]:List Str).Nodup by decide +kernel) rfl (bN rfl)) (jo (dj (i:=1) (show(["one","room"]:List Str).Nodup by decide +kernel) rfl (bN rfl)) aal)))) (fun _ _ _=>qe) (fun _ _ _=>(ER.toD (j5 (e2_n (pv 1) (EV.toB (ER.toD (gk ab8 (e2_n (pv 0) (EV.toB bf)))))) (fun _ _=>by rfl)))))))
theorem ale(F:Fun K "_law_free" "_law_free" adk f fd)(T:Txt K mg):FnOk P w K mg base CX0 1 f fd ["places"] (spOf K 1 vg) :=
 jc F wk rfl rfl fun cdv A outer s H E hr =>
  (ao (aar cM rfl (qb (by rfl) T.z_range (ak (ER.toD (dg jz (by rfl) T.z_len j0 (ea_n (pv 0) fc))) bz)) (dj (i:=1) wk.nd rfl (bN rfl)) (ao (dq (i:=2) wk.nd rfl (bN rfl) (EV.toR (az (pv 1)))) (bc (aar cM rfl (qb (by rfl) T.z_range (ak (ER.toD (dg jz (by rfl) T.z_len j0 (ea_n (pv 0) fc))) bz)) (dj (i:=3) wk.nd rfl (bN rfl)) (bc (xn (kh a4g (e2_v bf (cj (pv 2))) (jy _)) (ao (dq (i:=2) wk.nd rfl (bN rfl) (j5 (e2_n (pv 0) (cj (pv 2))) (fun _ _=>by rfl))) (bc (xn (kh (af0 hr.units) (e2_n (pv 2) (cj (pv 1))) (jy _)) (bc (fj (EV.toR abu))) jq))) jq)))))) (bc (fj (EV.toR abu))))
theorem ajs(F:Fun K "_law_small" "_law_small" aby f fd)(T:Txt K mg)(d25:Dd25 P w K mg base)(d30:Dd30 P w K mg base):FnOk P w K mg base CX0 4 f fd ["pen"] (spOf K 1 xf) :=
 jc F aa5 rfl rfl fun cdv A outer s H E hr =>
  (ao (ar6 (ER.toD (j5 (e2_v (ER.toD (lr (ak (j6 (ak bf (ak bf bz))) (ak (j6 (ak bf (ak bf bz))) (ak (j6 (ak bf (ak bf bz))) (ak (j6 (ak bf (ak bf bz))) (ak (j6 (ak bf (ak bf bz))) bz))))))) (EV.toB (ER.toD (gr d25 (hr.mono (by decide)) (by rfl) (eg_n (pv 0) (eg_v bf cg)))))) (fun _ _=>by rfl))) (ac8 rfl (jo (dj (i:=1) aa5.nd rfl (bN rfl)) (jo (dj (i:=2) aa5.nd rfl (bN rfl)) aal)))) (bc (fj (gr d30 (hr.mono (by decide)) (by rfl) (eg_n (pv 0) (eg_n (pv 1) (eg_n (pv 2) cg)))))))
theorem alb(F:Fun K "_law_sent" "_law_sent" adh f fd)(T:Txt K mg):FnOk P w K mg base CX0 1 f fd ["house","some","room"] (spOf K 3 f__law_sent) :=
 jc F zy rfl rfl fun cdv A outer s H E hr =>
  (ao (dq (i:=3) zy.nd rfl (bN rfl) (jl ad4 (by rfl) T.z_list acl (ea_n (pv 1) fc))) (ao (acn fuel cM (kh ao3 (e2_n (pv 2) (EV.toB bf)) (jy _)) (ao (dq (i:=4) zy.nd rfl (bN rfl) (j5 (e2_v (ER.toD (j5 (e2_n (pv 0) (cj (pv 2))) (fun _ _=>by rfl))) (EV.toB (ER.toD (j5 (e2_n (pv 3) (cj (pv 2))) (fun _ _=>by rfl))))) (fun _ _=>by rfl))) (ao (aie (ER.toD (gk adn (e2_v (ER.toD (gk jk (e2_v (ER.toD (j5 (e2_n (pv 3) (cj (pv 2))) (fun _ _=>by rfl))) (EV.toB bf)))) (EV.toB (ER.toD (dg jz (by rfl) T.z_len j0 (ea_v (ER.toD (j5 (e2_n (pv 0) (cj (pv 2))) (fun _ _=>by rfl))) fc))))))) (pv 3) (az (pv 2))) (bc (dq (i:=2) zy.nd rfl (bN rfl) (EV.toR (az (pv 4)))))))) (bc (fj (jl yq (by rfl) T.z_tuple vz (ea_n (pv 3) fc))))))
theorem ala(F:Fun K "_law_told" "_law_told" adg f fd)(T:Txt K mg)(d22:Dd22 P w K mg base)(x22:Dx22 P w K mg base)(u32:Du32 P w K mg base):FnOk P w K mg base CX0 7 f fd ["house","some","room"] (spOf K 3 dz) :=
 jc F afy rfl rfl fun cdv A outer s H E hr =>
  (bc (azo rfl rfl rfl rfl afy.nd rfl rfl (by rfl) T.cat T.sub (by decide +kernel) (bc (fj (EV.toR (j6 (ak (EV.s jh) (ak (ER.toD (gr d22 (hr.mono (by decide)) (by rfl) (eg_v (EV.s (az (pv 0))) (eg_v (EV.s (az (pv 1))) (eg_v (EV.s (az (pv 2))) cg))))) bz)))))) (yw (a2n (XE.v (a2o (arl (EV.s jh) (XE.no ph) (arl (ER.toD (gr d22 (hr.mono (by decide)) (by rfl) (eg_v (EV.s (az (pv 0))) (eg_v (EV.s (az (pv 1))) (eg_v (EV.s (az (pv 2))) cg))))) (XE.d (ap2 x22 (hr.mono (by decide)) (by rfl) (eg_v (EV.s (az (pv 0))) (eg_v (EV.s (az (pv 1))) (eg_v (EV.s (az (pv 2))) cg))) (xa_v (js:=[]) (EV.s (az (pv 0))) (XE.no ph) (xa_v (js:=[]) (EV.s (az (pv 1))) (XE.no ph) (xa_v (js:=[]) (EV.s (az (pv 2))) (XE.no ph) agq))))) agq)))))) (fun ev=>(bc (fj (EV.toR (j6 (ak (ER.toD (a6a u32 ((hr.mark ev).mono (by decide)) (by rfl) (eg_n (pv 3) cg))) (ak ahk bz)))))))))
theorem ano(F:Fun K "_law_due" "_law_due" afd f fd)(T:Txt K mg)(d36:Dd36 P w K mg base):FnOk P w K mg base CX0 2 f fd ["house","some","room"] (spOf K 3 aa3) :=
 jc F za rfl rfl fun cdv A outer s H E hr =>
  (ao (dq (i:=3) za.nd rfl (bN rfl) (gr d36 (hr.mono (by decide)) (by rfl) (eg_n (pv 0) (eg_n (pv 1) (eg_v (az (pv 2)) cg))))) (ao (dq (i:=4) za.nd rfl (bN rfl) (EV.toR bf)) (ao (acn fuel cM (kh (aad hr.units) (e2_n (pv 3) (cj (pv 1))) (jy _)) (ao (dq (i:=3) za.nd rfl (bN rfl) (gr d36 (hr.mono (by decide)) (by rfl) (eg_n (pv 0) (eg_n (pv 3) (eg_v (az (pv 2)) cg))))) (bc (dq (i:=4) za.nd rfl (bN rfl) (gk jk (e2_n (pv 4) (EV.toB bf))))))) (bc (fj (aam (pv 4)))))))
theorem ajx(F:Fun K "_law_again" "_law_again" ab3 f fd)(T:Txt K mg)(d31:Dd31 P w K mg base)(d36:Dd36 P w K mg base):FnOk P w K mg base CX0 3 f fd ["pen","house"] (spOf K 2 su) :=
 jc F yl rfl rfl fun cdv A outer s H E hr =>
  (ao (dq (i:=2) yl.nd rfl (bN rfl) (gr d31 (hr.mono (by decide)) (by rfl) (eg_n (pv 0) (eg_v (az (pv 1)) cg)))) (ao (aar cM rfl (qb (by rfl) T.z_range (ak (ER.toD (dg jz (by rfl) T.z_len j0 (ea_n (pv 1) fc))) bz)) (dj (i:=3) yl.nd rfl (bN rfl)) (bc (dq (i:=2) yl.nd rfl (bN rfl) (gr d36 (hr.mono (by decide)) (by rfl) (eg_n (pv 1) (eg_n (pv 2) (eg_v (az (pv 3)) cg))))))) (bc (fj (aam (pv 2))))))
theorem ajt(F:Fun K "_law_right" "_law_right" abz f fd)(T:Txt K mg)(d33:Dd33 P w K mg base)(d34:Dd34 P w K mg base)(d37:Dd37 P w K mg base)(d26:Dd26 P w K mg base)(d38:Dd38 P w K mg base):FnOk P w K mg base CX0 8 f fd ["house","some","room"] (spOf K 3 je) :=
 jc F aa6 rfl rfl fun cdv A outer s H E hr =>
  (ao (xn (zg (yj (ER.toD (gr d34 (hr.mono (by decide)) (by rfl) (eg_v (ER.toD (gr d33 (hr.mono (by decide)) (by rfl) (eg_v (az (pv 0)) (eg_v (az (pv 1)) cg)))) cg))))) (bc (fj (aiz (af0 hr.units) (e2_v (ER.toD (gr d37 (hr.mono (by decide)) (by rfl) (eg_v (az (pv 0)) (eg_v (az (pv 1)) (eg_v (az (pv 2)) cg))))) (EV.toB (j6 (ak jh (ak ahk bz))))) (jy _)))) jq) (ao (ar6 (ER.toD (gr d37 (hr.mono (by decide)) (by rfl) (eg_v (az (pv 0)) (eg_v (az (pv 1)) (eg_v (az (pv 2)) cg))))) (ac8 rfl (jo (dj (i:=3) aa6.nd rfl (bN rfl)) (jo (dj (i:=4) aa6.nd rfl (bN rfl)) aal)))) (bc (fj (EV.toR (aiy (ER.toD (aiz (af0 hr.units) (e2_n (pv 3) (EV.toB jh)) (jy _))) (aiy (ER.toD (gr d26 (hr.mono (by decide)) (by rfl) (eg_n (pv 4) cg))) (al7 (ER.toD (aiz (af0 hr.units) (e2_n (pv 4) (EV.toB (ER.toD (gr d38 (hr.mono (by decide)) (by rfl) (eg_n (pv 0) (eg_n (pv 1) (eg_v (az (pv 2)) cg))))))) (jy _)))))))))))
theorem a4p(F:Fun K "law" "law" ajl f fd)(T:Txt K mg)(d40:Dd40 P w K mg base)(d23:Dd23 P w K mg base)(d24:Dd24 P w K mg base)(d35:Dd35 P w K mg base)(d39:Dd39 P w K mg base)(d31:Dd31 P w K mg base)(d37:Dd37 P w K mg base)(d27:Dd27 P w K mg base):FnOk P w K mg base CX0 9 f fd ["script"] (spOf K 1 aup) :=
 jc F afx rfl rfl fun cdv A outer s H E hr =>
  (ao (xn (EW.pt (aq2 (zg (yj (ER.toD (gr d40 (hr.mono (by decide)) (by rfl) (eg_v (j6 (ak (j6 (ak (aey bf) bz)) bz)) (eg_v (j6 (ak bf bz)) (eg_v bf cg))))))) (aix (zg (yj (ER.toD (gr d40 (hr.mono (by decide)) (by rfl) (eg_v (j6 (ak (j6 (ak (aey bf) (ak bf bz))) bz)) (eg_v (j6 (ak bf bz)) (eg_v bf cg)))))))))) (bc (fj (EV.toR abu))) jq) (ao (xn (zg (yj (ER.toD (gr d40 (hr.mono (by decide)) (by rfl) (eg_v (j6 (ak (j6 (ak (aey bf) (ak bf bz))) bz)) (eg_v (j6 (ak bf bz)) (eg_v bf cg))))))) (bc (fj (EV.toR abu))) jq) (ao (aar cM rfl (aaf (ER.toD (gk jk (e2_v (ER.toD (lr (ak (ER.toD (gr d23 (hr.mono (by decide)) (by rfl) (eg_n (pv 0) (eg_v bf cg)))) bz))) (EV.toB (ER.toD (a1r (pv 0) (akh bf) (akh bf)))))))) (dj (i:=1) afx.nd rfl (bN rfl)) (ao (dq (i:=2) afx.nd rfl (bN rfl) (gr d24 (hr.mono (by decide)) (by rfl) (eg_n (pv 1) cg))) (ao (dq (i:=3) afx.nd rfl (bN rfl) (gr d35 (hr.mono (by decide)) (by rfl) (eg_n (pv 2) cg))) (ao (a3a (i:=4) (j:=5) rfl afx.nd rfl rfl (by decide) rfl rfl (ak (ER.toD (gr d39 (hr.mono (by decide)) (by rfl) (eg_n (pv 2) (eg_v (az (pv 3)) cg)))) (ak (ER.toD (gr d39 (hr.mono (by decide)) (by rfl) (eg_n (pv 2) (eg_v (az (pv 3)) cg)))) bz))) (ao (aar cM rfl (qb (by rfl) T.z_range (ak (ER.toD (dg jz (by rfl) T.z_len j0 (ea_n (pv 3) fc))) bz)) (dj (i:=6) afx.nd rfl (bN rfl)) (ao (xn (EW.pt (aq2 (zg (yj (ER.toD (gr d40 (hr.mono (by decide)) (by rfl) (eg_v (az (pv 3)) (eg_v (az (pv 4)) (eg_v (az (pv 6)) cg))))))) (aix (zg (yj (ER.toD (gr d40 (hr.mono (by decide)) (by rfl) (eg_v (az (pv 3)) (eg_v (ER.toD (gr d31 (hr.mono (by decide)) (by rfl) (eg_n (pv 2) (eg_v (az (pv 3)) cg)))) (eg_v (az (pv 6)) cg)))))))))) (bc (fj (EV.toR abu))) jq) (bc (xn (kh (aad hr.units) (e2_v (ER.toD (gr d37 (hr.mono (by decide)) (by rfl) (eg_v (az (pv 3)) (eg_v (az (pv 4)) (eg_v (az (pv 6)) cg))))) (EV.toB (ER.toD (gr d37 (hr.mono (by decide)) (by rfl) (eg_v (az (pv 3)) (eg_v (az (pv 5)) (eg_v (az (pv 6)) cg))))))) (jy _)) (bc (fj (EV.toR abu))) jq)))) (ao (dq (i:=7) afx.nd rfl (bN rfl) (jl yq (by rfl) T.z_tuple vz (ea_v (ER.toD (qu [] ["room"] [none] rfl (aaf (az (pv 3))) (fun _ _ _=>(dj (i:=0) (show(["room"]:List Str).Nodup by decide +kernel) rfl (bN rfl))) (fun _ _ _=>qe) (fun _ _ _=>(ER.toD (jl yq (by rfl) T.z_tuple vz (ea_v (ER.toD (qu [] ["door"] [none] rfl (aaf (az (pv 0))) (fun _ _ _=>(dj (i:=0) (show(["door"]:List Str).Nodup by decide +kernel) rfl (bN rfl))) (fun _ _ _=>qe) (fun _ _ _=>(ER.toD (dg (ay2 rfl) (by rfl) T.z_max ay5 (ea_v bf (ea_n (pv 0) fc))))))) fc)))))) fc))) (ao (aar cM rfl (aaf (ER.toD (lr (ak (ER.toD (dg jz (by rfl) T.z_len j0 (ea_n (pv 3) fc))) (ak (aey bf) (ak abu (ak ahk (ak (ER.toD (gr d27 (hr.mono (by decide)) (by rfl) (eg_n (pv 2) cg))) bz)))))))) (dj (i:=8) afx.nd rfl (bN rfl)) (ao (xn (EW.pt (aq2 (kh (aad hr.units) (e2_v (ER.toD (j5 (e2_v (ER.toD (gr d37 (hr.mono (by decide)) (by rfl) (eg_v (az (pv 3)) (eg_v (ER.toD (gk jk (e2_n (pv 4) (EV.toB (j6 (ak bf bz)))))) (eg_v (az (pv 8)) cg))))) (EV.toB bf)) (fun _ _=>by rfl))) (EV.toB jh)) (jy _)) (aix (kh (aad hr.units) (e2_v (ER.toD (j5 (e2_v (ER.toD (gr d37 (hr.mono (by decide)) (by rfl) (eg_v (az (pv 3)) (eg_v ahk (eg_v bf cg))))) (EV.toB bf)) (fun _ _=>by rfl))) (EV.toB jh)) (jy _))))) (bc (fj (EV.toR abu))) jq) (bc (xn (EW.pt (aq2 (kh (aad hr.units) (e2_v (ER.toD (j5 (e2_v (ER.toD (gr d37 (hr.mono (by decide)) (by rfl) (eg_v (az (pv 3)) (eg_v (az (pv 4)) (eg_v (az (pv 8)) cg))))) (EV.toB bf)) (fun _ _=>by rfl))) (EV.toB jh)) (jy _)) (aix (kh (aad hr.units) (e2_v (ER.toD (j5 (e2_v (ER.toD (gr d37 (hr.mono (by decide)) (by rfl) (eg_v (az (pv 7)) (eg_v (az (pv 4)) (eg_v (az (pv 8)) cg))))) (EV.toB bf)) (fun _ _=>by rfl))) (EV.toB jh)) (jy _))))) (bc (fj (EV.toR abu))) jq)))) (bc (xn (kh (aad hr.units) (e2_v (ER.toD (j5 (e2_v (ER.toD (gr d37 (hr.mono (by decide)) (by rfl) (eg_v (az (pv 7)) (eg_v (az (pv 4)) (eg_v bf cg))))) (EV.toB bf)) (fun _ _=>by rfl))) (EV.toB jh)) (jy _)) (bc (fj (EV.toR abu))) jq))))))))) (bc (fj (EV.toR abu))))))
end
abbrev Q(K:Fg9)(x:Str)(st:iM)(f:aZ)(oc:aG)(od:Option aZ)(kV dc pm:aG)(an:Option aZ)(cd ct:aG)(sl:Array (Option aG)):Prop:=nsIn K bB x=some (some (.ref f))/\K.lookup f=some ⟨oc,od,.func (fnOf x x (mz st) (jm st) (au st) .none kV dc pm an cd ct),sl⟩/\codeIn K cd x=true/\nY K (.ref f)=true
section
variable{K:Fg9}{x:Str}{st:iM}{f:aZ}{oc:aG}{od:Option aZ}{kV dc pm:aG}{an:Option aZ}{cd ct:aG}{sl:Array (Option aG)}(q:Q K x st f oc od kV dc pm an cd ct sl){h:fH}{mg:Str->Option aG}
include q
theorem Q.F:Fun K x x st f (fnOf x x (mz st) (jm st) (au st) .none kV dc pm an cd ct):=auf q.2.1 q.2.2.1 q.2.2.2
theorem Q.E{ps:List Str}(X:K.In h)(G:h.Ns bB mg)(b:∀(kV doc pm:aG) (an:Option aZ) (cdv ct:aG) (us:List aG),us.length=ps.length->bindArgs (fnOf x x (mz st) (jm st) (au st) .none kV doc pm an cdv ct) ⟨us,[]⟩=pure (ps.zip us)):mg x=some (.ref f)/\nY K (.ref f)=true/\Binds K (fnOf x x (mz st) (jm st) (au st) .none kV dc pm an cd ct) ps []:=⟨mg_of X G q.1,q.2.2.2,(Q.F q).binds b⟩
theorem Q.E1{p0:Str}(X:K.In h)(G:h.Ns bB mg)(b:∀(kV doc pm:aG) (an:Option aZ) (cdv ct u0:aG),bindArgs (fnOf x x (mz st) (jm st) (au st) .none kV doc pm an cdv ct) ⟨[u0],[]⟩=pure ([p0].zip [u0]):=by intros;rfl):mg x=some (.ref f)/\nY K (.ref f)=true/\Binds K (fnOf x x (mz st) (jm st) (au st) .none kV dc pm an cd ct) [p0] []:=q.E X G fun _ _ _ _ _ _ us hl=>by obtain⟨_,rfl⟩:=ln1 hl;apply b
theorem Q.E2{p0 p1:Str}(X:K.In h)(G:h.Ns bB mg)(b:∀(kV doc pm:aG) (an:Option aZ) (cdv ct u0 u1:aG),bindArgs (fnOf x x (mz st) (jm st) (au st) .none kV doc pm an cdv ct) ⟨[u0,u1],[]⟩=pure ([p0,p1].zip [u0,u1]):=by intros;rfl):mg x=some (.ref f)/\nY K (.ref f)=true/\Binds K (fnOf x x (mz st) (jm st) (au st) .none kV dc pm an cd ct) [p0,p1] []:=q.E X G fun _ _ _ _ _ _ us hl=>by obtain⟨_,_,rfl⟩:=ln2 hl;apply b
theorem Q.E3{p0 p1 p2:Str}(X:K.In h)(G:h.Ns bB mg)(b:∀(kV doc pm:aG) (an:Option aZ) (cdv ct u0 u1 u2:aG),bindArgs (fnOf x x (mz st) (jm st) (au st) .none kV doc pm an cdv ct) ⟨[u0,u1,u2],[]⟩=pure ([p0,p1,p2].zip [u0,u1,u2]):=by intros;rfl):mg x=some (.ref f)/\nY K (.ref f)=true/\Binds K (fnOf x x (mz st) (jm st) (au st) .none kV dc pm an cd ct) [p0,p1,p2] []:=q.E X G fun _ _ _ _ _ _ us hl=>by obtain⟨_,_,_,rfl⟩:=ln3 hl;apply b
end
theorem a6p{l:sJ}{w:dR}{K:Fg9}{h:fH}{mg:Str->Option aG}(X:K.In h)(G:h.Ns bB mg)(hfa:mg "law" = some (.ref fa))
  (q0:Q K "is_whole" afa f0' o0 p0 v0 t0 m0 n0 c0 r0 z0)
  (q1:Q K "is_whole_within" u5 f1' o1 p1 v1 t1 m1 n1 c1 r1 z1)
  (q2:Q K "is_tuple_within" u6 f2' o2 p2 v2 t2 m2 n2 c2 r2 z2)
  (q3:Q K "is_room_number" xq f3' o3 p3 v3 t3 m3 n3 c3 r3 z3)
  (q4:Q K "refuse_no_room" qz f4' o4 p4 v4 t4 m4 n4 c4 r4 z4)
  (q5:Q K "trap" asn f5' o5 p5 v5 t5 m5 n5 c5 r5 z5)
  (q6:Q K "refuse_not_open" qj f6' o6 p6 v6 t6 m6 n6 c6 r6 z6)
  (q7:Q K "is_arrows" adf f7' o7 p7 v7 t7 m7 n7 c7 r7 z7)
  (q8:Q K "refuse_no_arrows" nj f8' o8 p8 v8 t8 m8 n8 c8 r8 z8)
  (q9:Q K "last_ways" ade f9' o9 p9 v9 t9 m9 n9 c9 r9 z9)
  (q10:Q K "going_round" aa9 f10' o10 p10 v10 t10 m10 n10 c10 r10 z10)
  (q11:Q K "turned_over" aa7 f11' o11 p11 v11 t11 m11 n11 c11 r11 z11)
  (q12:Q K "row_with" ae8 f12' o12 p12 v12 t12 m12 n12 c12 r12 z12)
  (q13:Q K "swapped" agz f13' o13 p13 v13 t13 m13 n13 c13 r13 z13)
  (q14:Q K "cleared" ag0 f14' o14 p14 v14 t14 m14 n14 c14 r14 z14)
  (q15:Q K "solved" ajk f15' o15 p15 v15 t15 m15 n15 c15 r15 z15)
  (q16:Q K "common_divisor" xu f16' o16 p16 v16 t16 m16 n16 c16 r16 z16)
  (q17:Q K "doors_square" aai f17' o17 p17 v17 t17 m17 n17 c17 r17 z17)
  (q18:Q K "least_times" aa8 f18' o18 p18 v18 t18 m18 n18 c18 r18 z18)
  (q19:Q K "refuse_no_state" ql f19' o19 p19 v19 t19 m19 n19 c19 r19 z19)
  (q20:Q K "lead_out" ae9 f20' o20 p20 v20 t20 m20 n20 c20 r20 z20)
  (q21:Q K "refuse_never_back" lu f21' o21 p21 v21 t21 m21 n21 c21 r21 z21)
  (q22:Q K "again_after" ym f22' o22 p22 v22 t22 m22 n22 c22 r22 z22)
  (q23:Q K "_law_cell" adm f23' o23 p23 v23 t23 m23 n23 c23 r23 z23)
  (q24:Q K "_law_pen" afb f24' o24 p24 v24 t24 m24 n24 c24 r24 z24)
  (q25:Q K "_law_draw" adl f25' o25 p25 v25 t25 m25 n25 c25 r25 z25)
  (q26:Q K "_law_whole" abx f26' o26 p26 v26 t26 m26 n26 c26 r26 z26)
  (q27:Q K "_law_odd" afc f27' o27 p27 v27 t27 m27 n27 c27 r27 z27)
  (q28:Q K "_law_house" ab1 f28' o28 p28 v28 t28 m28 n28 c28 r28 z28)
  (q29:Q K "_law_reached" aaj f29' o29 p29 v29 t29 m29 n29 c29 r29 z29)
  (q30:Q K "_law_open" adi f30' o30 p30 v30 t30 m30 n30 c30 r30 z30)
  (q31:Q K "_law_drawn" ab2 f31' o31 p31 v31 t31 m31 n31 c31 r31 z31)
  (q32:Q K "_law_kind" aba f32' o32 p32 v32 t32 m32 n32 c32 r32 z32)
  (q33:Q K "_law_lasts" ab0 f33' o33 p33 v33 t33 m33 n33 c33 r33 z33)
  (q34:Q K "_law_free" adk f34' o34 p34 v34 t34 m34 n34 c34 r34 z34)
  (q35:Q K "_law_small" aby f35' o35 p35 v35 t35 m35 n35 c35 r35 z35)
  (q36:Q K "_law_sent" adh f36' o36 p36 v36 t36 m36 n36 c36 r36 z36)
  (q37:Q K "_law_told" adg f37' o37 p37 v37 t37 m37 n37 c37 r37 z37)
  (q38:Q K "_law_due" afd f38' o38 p38 v38 t38 m38 n38 c38 r38 z38)
  (q39:Q K "_law_again" ab3 f39' o39 p39 v39 t39 m39 n39 c39 r39 z39)
  (q40:Q K "_law_right" abz f40' o40 p40 v40 t40 m40 n40 c40 r40 z40)
  (a41:nsIn K bB "law" = some (some (.ref f41'))) (l41:K.lookup f41'=some ⟨oc41,od41,.func (fnOf "law" "law" (mz ajl) (jm ajl) (au ajl) .none kV41 dc41 pm41 an41 cd41 ct41),sl41⟩) (c41:codeIn K cd41 "law" = true) (k41:nY K (.ref f41')=true)
  {fi_NotOpen:aZ} {ci0_NotOpen:aZ} {odi_NotOpen ani_NotOpen:Option aZ} {sli_NotOpen:Array (Option aG)} {oci_NotOpen kVi_NotOpen dci_NotOpen pmi_NotOpen cdi_NotOpen cti_NotOpen:aG} (aj_NotOpen:nsIn K bB "NotOpen" = some (some (.ref ci0_NotOpen))) (ai_NotOpen:mR K (.ref ci0_NotOpen) "__init__" = some (some (.ref fi_NotOpen))) (li_NotOpen:K.lookup fi_NotOpen=some ⟨oci_NotOpen,odi_NotOpen,.func (fnOf "__init__" "NotOpen.__init__" (mz yr) (jm yr) (au yr) .none kVi_NotOpen dci_NotOpen pmi_NotOpen ani_NotOpen cdi_NotOpen cti_NotOpen),sli_NotOpen⟩) (ci_NotOpen:codeIn K cdi_NotOpen "NotOpen.__init__" = true) (ki_NotOpen:nY K (.ref fi_NotOpen)=true) (e_iNotOpen:a1a K ci0_NotOpen fi_NotOpen "room" = true)
  (e_cls:apt K NS=true) (e_sub:ajd K NS=true) (e_rai:aye K ["ArrowError","NoArrows","NoRoom","NoWalkers","NotShut","NeverBack","NoTour","NoRow"]=true) (e_cat:catB K=true)
  (y_ValueError:nsIn K bB "ValueError" = some none)
  (y_abs:nsIn K bB "abs" = some none)
  (y_all:nsIn K bB "all" = some none)
  (y_bool:nsIn K bB "bool" = some none)
  (y_divmod:nsIn K bB "divmod" = some none)
  (y_enumerate:nsIn K bB "enumerate" = some none)
  (y_int:nsIn K bB "int" = some none)
  (y_isinstance:nsIn K bB "isinstance" = some none)
  (y_len:nsIn K bB "len" = some none)
  (y_list:nsIn K bB "list" = some none)
  (y_max:nsIn K bB "max" = some none)
  (y_min:nsIn K bB "min" = some none)
  (y_range:nsIn K bB "range" = some none)
  (y_set:nsIn K bB "set" = some none)
  (y_sorted:nsIn K bB "sorted" = some none)
  (y_tuple:nsIn K bB "tuple" = some none)
  (y_zip:nsIn K bB "zip" = some none)
  : ∃fd:fX,(∀(s:aJ) (v:aG),pA s fd ⟨[v],[]⟩ [("script", v)])/\∀base:fH,K.In base->base.Ns bB mg->FnOk l.prog w K mg base CX0 9 fa fd ["script"] (spOf K 1 aup):=by
 have e:=hfa.symm.trans (mg_of X G a41);cases e;have T:Txt K mg:=⟨mg_none_of X G y_ValueError,gK X G y_abs,gK X G y_all,gK X G y_bool,gK X G y_divmod,gK X G y_enumerate,gK X G y_int,gK X G y_isinstance,gK X G y_len,gK X G y_list,gK X G y_max,gK X G y_min,gK X G y_range,gK X G y_set,gK X G y_sorted,gK X G y_tuple,gK X G y_zip,e_sub,a1z X G e_cat,sr X G e_cls (by decide +kernel),sr X G e_cls (by decide +kernel),sr X G e_cls (by decide +kernel),sr X G e_cls (by decide +kernel),sr X G e_cls (by decide +kernel),sr X G e_cls (by decide +kernel),sr X G e_cls (by decide +kernel),sr X G e_cls (by decide +kernel),sr X G e_cls (by decide +kernel),sr X G e_cls (by decide +kernel),sr X G e_cls (by decide +kernel),sr X G e_cls (by decide +kernel),sr X G e_cls (by decide +kernel),ab7 X G e_cls (by decide +kernel) e_rai (by decide +kernel),ab7 X G e_cls (by decide +kernel) e_rai (by decide +kernel),ab7 X G e_cls (by decide +kernel) e_rai (by decide +kernel),ab7 X G e_cls (by decide +kernel) e_rai (by decide +kernel),ab7 X G e_cls (by decide +kernel) e_rai (by decide +kernel),ab7 X G e_cls (by decide +kernel) e_rai (by decide +kernel),ab7 X G e_cls (by decide +kernel) e_rai (by decide +kernel),ab7 X G e_cls (by decide +kernel) e_rai (by decide +kernel),axe X G e_cls (by decide +kernel) aj_NotOpen e_iNotOpen (auf (st:=yr) li_NotOpen ci_NotOpen ki_NotOpen)⟩
 have F41:=auf (st:=ajl) l41 c41 k41;refine⟨fnOf "law" "law" (mz ajl) (jm ajl) (au ajl) .none kV41 dc41 pm41 an41 cd41 ct41,fun s v=>.of_eq rfl,fun base _ _ =>?_⟩
 have d0:Dd0 l.prog w K mg base:=⟨_,_,ank q0.F T,q0.E1 X G⟩;have d1:Dd1 l.prog w K mg base:=⟨_,_,ael q1.F T d0,q1.E3 X G⟩;have d2:Dd2 l.prog w K mg base:=⟨_,_,aem q2.F T,q2.E3 X G⟩;have d3:Dd3 l.prog w K mg base:=⟨_,_,afh q3.F T d1,q3.E2 X G⟩;have d4:Dd4 l.prog w K mg base:=⟨_,_,afg q4.F T d3,q4.E2 X G⟩;have x4:Dx4 l.prog w K mg base:=⟨_,_,aei q4.F T d3,q4.E2 X G⟩;have d5:Dd5 l.prog w K mg base:=⟨_,_,a0o q5.F T,q5.E1 X G⟩;have d6:Dd6 l.prog w K mg base:=⟨_,_,aej q6.F T d5,q6.E1 X G⟩;have x6:Dx6 l.prog w K mg base:=⟨_,_,ado q6.F T d5,q6.E1 X G⟩;have d7:Dd7 l.prog w K mg base:=⟨_,_,ak9 q7.F T d2 d1,q7.E2 X G⟩;have d8:Dd8 l.prog w K mg base:=⟨_,_,adq q8.F T d7,q8.E2 X G⟩;have x8:Dx8 l.prog w K mg base:=⟨_,_,ac2 q8.F T d7,q8.E2 X G⟩;have d9:Dd9 l.prog w K mg base:=⟨_,_,ak8 q9.F T,q9.E2 X G⟩;have d10:Dd10 l.prog w K mg base:=⟨_,_,ah9 q10.F T,q10.E2 X G⟩;have d11:Dd11 l.prog w K mg base:=⟨_,_,ah7 q11.F T,q11.E1 X G⟩;have d12:Dd12 l.prog w K mg base:=⟨_,_,ani q12.F T,q12.E2 X G⟩;have d13:Dd13 l.prog w K mg base:=⟨_,_,aqm q13.F T,q13.E3 X G⟩;have d14:Dd14 l.prog w K mg base:=⟨_,_,aqn q14.F T,q14.E3 X G⟩;have d15:Dd15 l.prog w K mg base:=⟨_,_,as8 q15.F T d12 d13 d14,q15.E2 X G⟩;have d16:Dd16 l.prog w K mg base:=⟨_,_,afi q16.F T,q16.E1 X G⟩;have d17:Dd17 l.prog w K mg base:=⟨_,_,ag6 q17.F T,q17.E1 X G⟩;have d18:Dd18 l.prog w K mg base:=⟨_,_,ah8 q18.F T d11 d15 d16,q18.E2 X G⟩;have d19:Dd19 l.prog w K mg base:=⟨_,_,aek q19.F T d8 d4 x8 x4,q19.E3 X G⟩;have x19:Dx19 l.prog w K mg base:=⟨_,_,adp q19.F T d8 d4 x8 x4,q19.E3 X G⟩;have d20:Dd20 l.prog w K mg base:=⟨_,_,anj q20.F T d9 d10,q20.E2 X G⟩;have d21:Dd21 l.prog w K mg base:=⟨_,_,ac3 q21.F T d20,q21.E2 X G⟩;have x21:Dx21 l.prog w K mg base:=⟨_,_,ab9 q21.F T d20,q21.E2 X G⟩;have d22:Dd22 l.prog w K mg base:=⟨_,_,aia q22.F T d19 d6 d21 d17 d18 x19 x6 x21,q22.E3 X G⟩;have x22:Dx22 l.prog w K mg base:=⟨_,_,ag5 q22.F T d19 d6 d21 d17 d18 x19 x6 x21,q22.E3 X G⟩;have d23:Dd23 l.prog w K mg base:=⟨_,_,alh q23.F T,q23.E2 X G⟩;have d24:Dd24 l.prog w K mg base:=⟨_,_,anl q24.F T,q24.E1 X G⟩;have d25:Dd25 l.prog w K mg base:=⟨_,_,alf q25.F T,q25.E2 X G⟩;have d26:Dd26 l.prog w K mg base:=⟨_,_,ajr q26.F T,q26.E1 X G⟩;have d27:Dd27 l.prog w K mg base:=⟨_,_,anm q27.F T d25,q27.E1 X G⟩;have d28:Dd28 l.prog w K mg base:=⟨_,_,ajv q28.F T d25,q28.E3 X G⟩;have d29:Dd29 l.prog w K mg base:=⟨_,_,ag7 q29.F T,q29.E2 X G⟩;have d30:Dd30 l.prog w K mg base:=⟨_,_,alc q30.F T d28 d29 d25,q30.E3 X G⟩;have d31:Dd31 l.prog w K mg base:=⟨_,_,ajw q31.F T d25,q31.E2 X G⟩;have u32:Du32 l.prog w K mg base:=⟨_,_,ajq q32.F T,q32.E1 X G⟩;have d32:Dfn l.prog w K mg base _ _ _ _:=⟨_,_,ald (P:=l.prog) (w:=w) (base:=base) q32.F T,q32.E1 X G⟩;have d33:Dd33 l.prog w K mg base:=⟨_,_,aju q33.F T,q33.E2 X G⟩;have d34:Dd34 l.prog w K mg base:=⟨_,_,ale q34.F T,q34.E1 X G⟩;have d35:Dd35 l.prog w K mg base:=⟨_,_,ajs q35.F T d25 d30,q35.E1 X G⟩;have d36:Dd36 l.prog w K mg base:=⟨_,_,alb q36.F T,q36.E3 X G⟩;have d37:Dd37 l.prog w K mg base:=⟨_,_,ala q37.F T d22 x22 u32,q37.E3 X G⟩;have d38:Dd38 l.prog w K mg base:=⟨_,_,ano q38.F T d36,q38.E3 X G⟩;have d39:Dd39 l.prog w K mg base:=⟨_,_,ajx q39.F T d31 d36,q39.E2 X G⟩;have d40:Dd40 l.prog w K mg base:=⟨_,_,ajt q40.F T d33 d34 d37 d26 d38,q40.E3 X G⟩;exact a4p F41 T d40 d23 d24 d35 d39 d31 d37 d27
end My
namespace PySem.W.Fast
def tw9637417124395734210:Unit:=()
def tw2708269802416075331:Unit:=()
def tw10001291003203916578:Unit:=()
def tw15222799969777956212:Unit:=()
def tw6177874237564829469:Unit:=()
def tw12411233773817497464:Unit:=()
def tw7583504565329386055:Unit:=()
def tw8500189502842702906:Unit:=()
def tw4808059249240914777:Unit:=()
def tw4644644460291607467:Unit:=()
def tw7625876188539104688:Unit:=()
def tw7065814739675888333:Unit:=()
def tw33772324530901491:Unit:=()
def tw2921994193091468525:Unit:=()
def tw14693033277758395325:Unit:=()
def tw7610714329270471434:Unit:=()
def tw8419261269160439219:Unit:=()
def tw22907042562262957:Unit:=()
def tw9629711825137505029:Unit:=()
def tw4003922076964875589:Unit:=()
def tw5702996543495395047:Unit:=()
def tw902817679740529896:Unit:=()
def tw17455231408078138721:Unit:=()
def tw17378877191826066768:Unit:=()
def tw16512020697060009779:Unit:=()
def tw3079185542296585623:Unit:=()
def tw10684958034328160486:Unit:=()
def tw2250622256541104800:Unit:=()
def tw16646068827356346192:Unit:=()
def tw4353003639527464978:Unit:=()
def tw16352691369986110816:Unit:=()
def tw16670069326537031093:Unit:=()
def tw18352311011036612120:Unit:=()
def tw4806544964128808144:Unit:=()
def tw14480161395279969204:Unit:=()
def tw8433433515584104081:Unit:=()
def tw90372350403025206:Unit:=()
def tw12233926563585557204:Unit:=()
def tw5526464592209258004:Unit:=()
def tw8275806225056358994:Unit:=()
def tw13464424808013831855:Unit:=()
def tw1336944716860856393:Unit:=()
def tw11431042684552787600:Unit:=()
def tw13029377028087953492:Unit:=()
def tw14603846031533079778:Unit:=()
def tw8510666559087521222:Unit:=()
def tw15848526887130452172:Unit:=()
def tw16569223875240635376:Unit:=()
def tw4519913853904044819:Unit:=()
def tw12324569264203442480:Unit:=()
def tw14598414074759412763:Unit:=()
def tw5042033765360720136:Unit:=()
def tw5304877539004410288:Unit:=()
def tw2105828990749159881:Unit:=()
def tw5848215583630040837:Unit:=()
def tw3618160795798781730:Unit:=()
def tw8093759841948525074:Unit:=()
def tw3672734383643948419:Unit:=()
def tw14908487141828911313:Unit:=()
def tw17306433060010650225:Unit:=()
def tw1154895547068910142:Unit:=()
def tw1251404704810193072:Unit:=()
def tw6401204432220554550:Unit:=()
def tw15635189936987638299:Unit:=()
def tw11296931366738921715:Unit:=()
def tw11030858392598450163:Unit:=()
def tw14768047856583309085:Unit:=()
def tw10607765994713754384:Unit:=()
def tw17841211237909505743:Unit:=()
def tw14801856550198182382:Unit:=()
def tw4942049136984107662:Unit:=()
def tw3994859860947336864:Unit:=()
def tw5034987775826097958:Unit:=()
def tw7214732315489334968:Unit:=()
def tw6902920703363294431:Unit:=()
def tw1138445933972762389:Unit:=()
def tw3463806669300846652:Unit:=()
def tw15895041314350442684:Unit:=()
def tw10765959369820991886:Unit:=()
def tw6909856522180353443:Unit:=()
def tw10004680791215066130:Unit:=()
def tw6775547026983734072:Unit:=()
def tw2942293302642858021:Unit:=()
def tw7383262452067487945:Unit:=()
def tw12559334287657018325:Unit:=()
def tw6136836562748907493:Unit:=()
def tw15191988576281544077:Unit:=()
def tw12594578290162279863:Unit:=()
def tw12230040583429513580:Unit:=()
def tw13628822843371554144:Unit:=()
def tw17962644822901868053:Unit:=()
def tw5663001829319327116:Unit:=()
def tw11480214676358026676:Unit:=()
def tw12663495590325381034:Unit:=()
def tw16066809059275926957:Unit:=()
def tw8896449303963207897:Unit:=()
def tw7876665755741512142:Unit:=()
def tw13465480768911893486:Unit:=()
def tw1878417336979581108:Unit:=()
def tw19087207614062348:Unit:=()
def tw5116750547322439592:Unit:=()
def tw13821662075520889604:Unit:=()
def tw3267162271925780777:Unit:=()
def tw16829296045368522496:Unit:=()
def tw6018816611435854781:Unit:=()
def tw2181672430800849862:Unit:=()
def tw6100764601097130343:Unit:=()
def tw6812895646506690452:Unit:=()
def tw17057344936715196952:Unit:=()
def tw15837825757080271822:Unit:=()
def tw12936050145637496543:Unit:=()
def tw15936329839945391841:Unit:=()
def tw15355959630480489853:Unit:=()
def tw7721383658236877148:Unit:=()
def tw16350402585426430837:Unit:=()
def tw177811507066324995:Unit:=()
def tw11243982547960067267:Unit:=()
def tw3228964464434065202:Unit:=()
def tw8227329275213241759:Unit:=()
def tw1971781646281496226:Unit:=()
def tw16576043522359479873:Unit:=()
def tw12727836373394035761:Unit:=()
def tw9168622617006726067:Unit:=()
def tw9036090120064187337:Unit:=()
def tw3296774032617725867:Unit:=()
def tw10650964192512653027:Unit:=()
def tw7753790746937235173:Unit:=()
def tw15575715303355798188:Unit:=()
def tw12835944141337678954:Unit:=()
def tw10886956440777459891:Unit:=()
def tw18415841895029905260:Unit:=()
def tw8231192790366086208:Unit:=()
def tw14266869751116330611:Unit:=()
def tw8908692429907477278:Unit:=()
def tw5849535479967718772:Unit:=()
def tw9519536171355182464:Unit:=()
def tw3654641470140268960:Unit:=()
def tw1340664559426248512:Unit:=()
def tw15719774017552557024:Unit:=()
def tw2473255330056991939:Unit:=()
def tw16214847793339161411:Unit:=()
def tw11500226070392446980:Unit:=()
def tw15954066783907145828:Unit:=()
def tw3215944675955220645:Unit:=()
def tw11928716330258593221:Unit:=()
def tw13545269590471029317:Unit:=()
def tw9462693743350315589:Unit:=()
def tw18084061972555501095:Unit:=()
def tw16189550614373928903:Unit:=()
def tw10190995360822964904:Unit:=()
def tw1798198193612181256:Unit:=()
def tw2338267173652261704:Unit:=()
def tw11702661870846513066:Unit:=()
def tw17654346592344068139:Unit:=()
def tw1087531388425545036:Unit:=()
def tw17862994247225190541:Unit:=()
def tw2238308451738026989:Unit:=()
def tw156630127200895086:Unit:=()
def tw6038034655574861006:Unit:=()
def tw16956658358757707022:Unit:=()
def tw8205875999054241134:Unit:=()
def tw13695110403720552142:Unit:=()
def tw12440971575695741774:Unit:=()
def tw16538016114480508207:Unit:=()
def tw12911548871353563951:Unit:=()
def tw710544737177307952:Unit:=()
def tw967408628282487473:Unit:=()
def tw9275372547996953619:Unit:=()
def tw4336695841595502707:Unit:=()
def tw6292433052914960595:Unit:=()
def tw9195913701557815795:Unit:=()
def tw2961819742094831155:Unit:=()
def tw16677709084232832181:Unit:=()
def tw7894551136769490837:Unit:=()
def tw3286132316952709077:Unit:=()
def tw713408148835997238:Unit:=()
def tw16117184658762299639:Unit:=()
def tw17798714604262691223:Unit:=()
def tw31775824441306137:Unit:=()
def tw12216470982826475641:Unit:=()
def tw3087848689419423001:Unit:=()
def tw15709694068963707577:Unit:=()
def tw17072341647597579097:Unit:=()
def tw2821597229807395705:Unit:=()
def tw10021621903164473209:Unit:=()
def tw3565815293358471129:Unit:=()
def tw11217665626877342970:Unit:=()
def tw18051131909083710266:Unit:=()
def tw18255377452192833370:Unit:=()
def tw17610096278282152922:Unit:=()
def tw9506622999242154970:Unit:=()
def tw2053785735822747003:Unit:=()
def tw4907552755258739163:Unit:=()
def tw5592600373052340540:Unit:=()
def tw3869189339898935932:Unit:=()
def tw17596448801975143100:Unit:=()
def tw3876033340381847484:Unit:=()
def tw15048775764474364892:Unit:=()
def tw10886718848977400253:Unit:=()
def tw9771660906164185821:Unit:=()
def tw4862146544900573214:Unit:=()
def tw5894815489188663934:Unit:=()
def tw14659315048975887423:Unit:=()
def tw15718876611524490303:Unit:=()
def tw9596482454329343395:Unit:=()
end PySem.W.Fast
open PySem PySem.W PyProof.Rows
set_option maxRecDepth 100000 in
set_option maxHeartbeats 0 in
theorem PySem.Challenge.cw_turnarrows_k39_behind_how_many_walkers_holds : PySem.Challenge.rw_turnarrows_k39_behind_how_many_walkers.Holds := by
 w_on;o_law;k_head;(case hw=>w_witness2)
 k_fill
 refine Dn.walk (l:=PySem.Challenge.rw_turnarrows_k39_behind_how_many_walkers) (f:=My.aup) (k:=9) My.aw6 rfl rfl ⟨rfl,by decide,by decide,rfl⟩ (fun w h Y=>PySem.W.kIn_of Y) ?F
 case F =>
  intro w mg fa h KX G hmg;refine' My.a6p KX G hmg ?_ ?_ ?_ ?_ ?_ ?_ ?_ ?_ ?_ ?_ ?_ ?_ ?_ ?_ ?_ ?_ ?_ ?_ ?_ ?_ ?_ ?_ ?_ ?_ ?_ ?_ ?_ ?_ ?_ ?_ ?_ ?_ ?_ ?_ ?_ ?_ ?_ ?_ ?_ ?_ ?_ ?_ ?_ ?_ ?_ ?_ ?_ ?_ ?_ ?_ ?_ ?_ ?_ ?_ ?_ ?_ ?_ ?_ ?_ ?_ ?_ ?_ ?_ ?_ ?_ ?_ ?_ ?_ ?_ ?_ ?_ ?_
  all_goals try refine' And.intro ?_ (And.intro ?_ (And.intro ?_ ?_))
  any_goals k_is
  all_goals kernel_rfl
